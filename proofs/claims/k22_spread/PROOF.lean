import PyProof.Rows.All
import Wide.All
import OpenK.AllK
import Wide.FinOn
import Lean
import PyProof.EqAt
import PyProof.EqKinds
import PyProof.TupleCall
import OpenK.KRaise
import OpenK.KOwn
import KE.KTryMore
import KE.RegKTryMore
import PyProof.ExcArgsOwn
import KE.KIntText
import KE.KSortTup
import KE.KDictOf
import KE.KRevIter
import KE.KEqDict
import PyProof.Rows.SetFrom
import PyProof.TupleKey
import PyProof.Rows.SetObj
import PyProof.SetRoads
import PyProof.IsiH_list
import PyProof.ZipIter
import PyProof.Rows.TupIter
import PyProof.DictValues
import PyProof.DictWalks
import KE.KDictSum
import KE.KNest
import KE.KLam
import KE.KNestM
import KE.KDictList
import KE.KDictLaws
import PySem.Challenge.RW_wirefloor_k22_spread
set_option Elab.async false
set_option linter.all false
set_option maxRecDepth 100000
namespace L2
open PySem PySem.Spec PyProof.Rows
abbrev Key := Sum Int Str
def keyIs : Key → Value → Bool
  | .inl k, v => Value.isInt k v
  | .inr x, v => Value.isStrOf x v
def keyH (w : World) : Key → Int
  | .inl k => hashInt k
  | .inr x => hashStr w x
theorem keyIs_shape : ∀ {k : Key} {v : Value}, keyIs k v = true → (∃ i t, k = Sum.inl i ∧ v = Value.int i t) ∨ (∃ x t, k = Sum.inr x ∧ v = Value.str x t)
  | .inl i, v, h => by
    obtain ⟨t, e⟩ := Value.isInt_shape (k := i) (v := v) h
    exact .inl ⟨i, t, rfl, e⟩
  | .inr x, v, h => by
    obtain ⟨t, e⟩ := Value.isStrOf_shape (x := x) (v := v) h
    exact .inr ⟨x, t, rfl, e⟩
theorem keyIs_int (i : Int) (t : Tok) : keyIs (.inl i) (.int i t) = true := by simp [keyIs, Value.isInt]
theorem keyIs_str (x : Str) (t : Tok) : keyIs (.inr x) (.str x t) = true := by simp [keyIs, Value.isStrOf]
theorem key_ll (a b : Int) : decide ((Sum.inl a : Key) = Sum.inl b) = (a == b) := by
  by_cases e : a = b
  · subst e; simp
  · have h : ¬ (Sum.inl a : Key) = Sum.inl b := fun q => e (Sum.inl.inj q)
    rw [decide_eq_false h]
    exact (beq_eq_false_iff_ne.mpr e).symm
theorem key_rr (a b : Str) : decide ((Sum.inr a : Key) = Sum.inr b) = decide (a = b) := by
  by_cases e : a = b
  · subst e; simp
  · have h : ¬ (Sum.inr a : Key) = Sum.inr b := fun q => e (Sum.inr.inj q)
    rw [decide_eq_false h, decide_eq_false e]
theorem key_lr (a : Int) (b : Str) : decide ((Sum.inl a : Key) = Sum.inr b) = false := decide_eq_false (fun q => nomatch q)
theorem key_rl (a : Str) (b : Int) : decide ((Sum.inr a : Key) = Sum.inl b) = false := decide_eq_false (fun q => nomatch q)
def mixKind (prog : Program) (w : World) : PySem.KeyKind prog w Key where
  is := keyIs
  hash := keyH w
  inj := fun v a b ha hb => by
    rcases keyIs_shape ha with ⟨i, t, rfl, rfl⟩ | ⟨x, t, rfl, rfl⟩
    · rcases keyIs_shape hb with ⟨j, u, rfl, e⟩ | ⟨y, u, rfl, e⟩
      · injection e with e1 _; rw [e1]
      · exact nomatch e
    · rcases keyIs_shape hb with ⟨j, u, rfl, e⟩ | ⟨y, u, rfl, e⟩
      · exact nomatch e
      · injection e with e1 _; rw [e1]
  byValue := fun k v h => by
    rcases keyIs_shape h with ⟨i, t, rfl, rfl⟩ | ⟨x, t, rfl, rfl⟩ <;> rfl
  pyHash := fun hv h => by
    rcases keyIs_shape hv with ⟨i, t, rfl, rfl⟩ | ⟨x, t, rfl, rfl⟩
    · exact wpAny_pyHash_int h
    · exact wpAny_pyHash_str h
  eqBool := fun hu hv h => by
    rcases keyIs_shape hu with ⟨i, t, rfl, rfl⟩ | ⟨x, t, rfl, rfl⟩
    · rcases keyIs_shape hv with ⟨j, u, rfl, rfl⟩ | ⟨y, u, rfl, rfl⟩
      · rw [key_ll] at h; exact wpAny_eqBool_int h
      · rw [key_lr] at h; exact SeqAt.EqAt.int_str i t y u _ _ _ _ h
    · rcases keyIs_shape hv with ⟨j, u, rfl, rfl⟩ | ⟨y, u, rfl, rfl⟩
      · rw [key_rl] at h; exact SeqAt.EqAt.str_int x t j u _ _ _ _ h
      · rw [key_rr] at h; exact wpAny_eqBool_str h
  «strs» := fun k x t v h => by
    rcases keyIs_shape h with ⟨i, u, rfl, e⟩ | ⟨y, u, rfl, e⟩
    · exact nomatch e
    · injection e with e1 _
      subst e1
      cases v <;> rfl
theorem mixKind_int (prog : Program) (w : World) (i : Int) (t : Tok) : (mixKind prog w).is (.inl i) (.int i t) = true := keyIs_int i t
theorem mixKind_str (prog : Program) (w : World) (x : Str) (t : Tok) : (mixKind prog w).is (.inr x) (.str x t) = true := keyIs_str x t
end L2
namespace L2
open PySem PySem.Spec PyProof.Rows
inductive V where
  | non | bl (b : Bool) | int (i : Int) | str (x : Str) | byt (b : Array UInt8) | flt (b : UInt64) | ref (a : Addr) | ty (n : String)
  deriving DecidableEq
def RelV : V → Value → Prop
  | .non, u => u = Value.none
  | .bl b, u => u = Value.bool b
  | .int i, u => ∃ t, u = Value.int i t
  | .str x, u => ∃ t, u = Value.str x t
  | .byt b, u => ∃ t, u = Value.bytes b t
  | .flt b, u => ∃ t, u = Value.float b t
  | .ref a, u => u = Value.ref a
  | .ty n, u => u = Value.type n
abbrev Vals : List V → List Value → Prop := Paired RelV
theorem Vals.length {xs : List V} {us : List Value} (r : Vals xs us) : xs.length = us.length := Paired.length r
theorem Vals.get : ∀ {xs : List V} {us : List Value} {i : Nat} {x : V}, Vals xs us → xs[i]? = some x → ∃ u, us[i]? = some u ∧ RelV x u
  | _, _, _, _, .nil, e => by simp at e
  | _, _, 0, _, .cons r _, e => by simp at e; subst e; exact ⟨_, rfl, r⟩
  | _, _, i + 1, x, .cons _ t, e => by
    obtain ⟨u, h1, h2⟩ := Vals.get (i := i) (x := x) t (by simpa using e)
    exact ⟨u, by simpa using h1, h2⟩
theorem Vals.set {x : V} {u : Value} (r : RelV x u) : ∀ {xs : List V} {us : List Value} (i : Nat), Vals xs us → Vals (xs.set i x) (us.set i u)
  | _, _, _, .nil => .nil
  | _, _, 0, .cons _ t => .cons r t
  | _, _, i + 1, .cons q t => .cons q (Vals.set r i t)
theorem Vals.append : ∀ {xs ys : List V} {us ws : List Value}, Vals xs us → Vals ys ws → Vals (xs ++ ys) (us ++ ws)
  | _, _, _, _, .nil, s => s
  | _, _, _, _, .cons r t, s => .cons r (Vals.append t s)
theorem Vals.take : ∀ {xs : List V} {us : List Value} (n : Nat), Vals xs us → Vals (xs.take n) (us.take n)
  | _, _, 0, _ => .nil
  | _, _, _ + 1, .nil => .nil
  | _, _, n + 1, .cons r t => .cons r (Vals.take n t)
theorem Vals.drop : ∀ {xs : List V} {us : List Value} (n : Nat), Vals xs us → Vals (xs.drop n) (us.drop n)
  | _, _, 0, r => r
  | _, _, _ + 1, .nil => .nil
  | _, _, n + 1, .cons _ t => Vals.drop n t
theorem Vals.none_of : ∀ {xs : List V} {us : List Value} {i : Nat}, Vals xs us → xs[i]? = none → us[i]? = none := fun {xs us i} r e => by
  have h1 := r.length
  have h2 : xs.length ≤ i := List.getElem?_eq_none_iff.mp e
  exact List.getElem?_eq_none_iff.mpr (by omega)
def RelO : Option V → Option Value → Prop
  | some v, some u => RelV v u
  | none, none => True
  | _, _ => False
def KV {κ : Type} : List (κ × V) → List (κ × Value) → Prop := Paired fun (p : κ × V) (q : κ × Value) => p.1 = q.1 ∧ RelV p.2 q.2
def kV : Key → V
  | .inl i => .int i
  | .inr x => .str x
inductive HO where
  | lst (xs : List V)
  | tup (xs : List V)
  | dK (kvs : List (Key × V)) | dT (kvs : List (List Key × V))
  | set (S : Int → Bool) (n : Nat)
  | ins (C dx : Addr) (fs : List (Str × V))
  | own (x : Addr)
  | xd (fs : List (Str × V))
  | met (f x : Addr)
  | rng (lo hi : Int)
  | frz (o : Obj) (u : HO)
  | tbl (ps : Array Value)
  | ext (φ : Heap → Prop)
abbrev Hp := Addr → Option HO
def upd (H : Hp) (a : Addr) (o : HO) : Hp := fun b => if b = a then some o else H b
theorem upd_same {H : Hp} {a : Addr} {o : HO} : upd H a o a = some o := by unfold upd; rw [if_pos rfl]
theorem upd_ne {H : Hp} {a b : Addr} {o : HO} (h : b ≠ a) : upd H a o b = H b := by unfold upd; rw [if_neg h]
theorem ne_of {H : Hp} {a b : Addr} {o u : HO} (h : H a = some o) (h' : H b = some u) (d : o ≠ u) : a ≠ b := by
  intro e; subst e; rw [h] at h'; exact d (Option.some.inj h')
theorem ne_of_none {H : Hp} {a b : Addr} {o : HO} (h : H a = some o) (h' : H b = none) : a ≠ b := by
  intro e; subst e; rw [h] at h'; cases h'
section
variable (P : Program) (w : World)
def ObjOk (H : Hp) (h : Heap) (a : Addr) : HO → Prop
  | .lst xs => xs.length ≤ sizeLine ∧ ∃ (its : List Value) (n : Nat), Vals xs its ∧ h.get? a = some { cls := .type "list", data := .seq its.toArray n }
  | .tup xs => xs.length ≤ sizeLine ∧ ∃ its : List Value, Vals xs its ∧ IsTup h a its.toArray
  | .dK kvs => kvs.length ≤ sizeLine ∧ (a == sysModules) = false ∧ ∃ vs, KV kvs vs ∧ h.DictOf (mixKind P w) a vs
  | .dT kvs => kvs.length ≤ sizeLine ∧ (a == sysModules) = false ∧ ∃ xs : List (List Key × Addr × Value),
      Paired (fun (p : List Key × V) (q : List Key × Addr × Value) => p.1 = q.1 ∧ H q.2.1 = some (.tup (p.1.map kV)) ∧ RelV p.2 q.2.2) kvs xs ∧
      ∃ o es ep, h.get? a = some o ∧ o.ExactDict ∧ o.data = .dict es ep ∧ es.toList = xs.map (entryOfKey (tupleKind (mixKind P w))) ∧ (xs.map (·.1)).Nodup
  | .set S n => h.SetOf (intKind P w) a S n
  | .ins C dx fs => H dx = some (.own a) ∧ fs.length ≤ 1000 ∧ dx ≠ a ∧ h.get? a = some (PySem.W.instObj C dx) ∧
      ∃ mA, h.Ns1 dx mA ∧ (∀ f, RelO (fs.lookup f) (mA f)) ∧ PySem.Within mA (fs.map (·.1))
  | .own _ => ∃ o, h.get? a = some o
  | .xd fs => ∃ mA, h.Ns1 a mA ∧ ∀ f, RelO (fs.lookup f) (mA f)
  | .rng lo hi => ∃ t u v, h.get? a = some { cls := .type "range", data := .fields #[.int lo t, .int hi u, .int 1 v] }
  | .frz o u => h.get? a = some o ∧ ObjOk H h a u
  | .tbl ps => h.get? a = some { cls := .none, data := .fields ps }
  | .met f x => h.get? a = some (PySem.W.methodObj (.ref f) (.ref x))
  | .ext φ => φ h ∧ (∃ o, h.get? a = some o) ∧ ∀ h1 h2 : Heap, φ h1 → (∀ o, h1.get? a = some o → h2.get? a = some o) → φ h2
def HOk (H : Hp) (h : Heap) : Prop := ∀ a o, H a = some o → ObjOk P w H h a o
end
section
variable {P : Program} {w : World} {H H' : Hp} {h h' : Heap} {a : Addr} {o : HO}
theorem ObjOk.lt (x : ObjOk P w H h a o) : a < h.objs.size := by
  cases o with
  | lst xs => obtain ⟨_, _, _, _, e⟩ := x; exact Heap.lt_size e
  | tup xs => obtain ⟨_, _, _, p⟩ := x; exact p.lt
  | dK kvs => obtain ⟨_, _, _, _, o, _, _, e, _⟩ := x; exact Heap.lt_size e
  | dT kvs => obtain ⟨_, _, _, _, o, _, _, e, _⟩ := x; exact Heap.lt_size e
  | set S n => obtain ⟨o, _, _, _, e, _⟩ := x; exact Heap.lt_size e
  | ins C dx fs => obtain ⟨_, _, _, e, _⟩ := x; exact Heap.lt_size e
  | own y => obtain ⟨_, e⟩ := x; exact Heap.lt_size e
  | xd fs => obtain ⟨_, ⟨_, _, _, e, _⟩, _⟩ := x; exact Heap.lt_size e
  | rng lo hi => obtain ⟨_, _, _, e⟩ := x; exact Heap.lt_size e
  | frz ob u => obtain ⟨e, _⟩ := x; exact Heap.lt_size e
  | tbl ps => exact Heap.lt_size (show h.get? a = some _ from x)
  | met f y => exact Heap.lt_size (show h.get? a = some _ from x)
  | ext φ => obtain ⟨_, ⟨_, e⟩, _⟩ := x; exact Heap.lt_size e
theorem Paired.mapP {α β : Type} {F G : α → β → Prop} : ∀ {l₁ : List α} {l₂ : List β}, Paired F l₁ l₂ → (∀ a b, F a b → G a b) → Paired G l₁ l₂
  | _, _, .nil, _ => .nil
  | _, _, .cons r t, f => .cons (f _ _ r) (Paired.mapP t f)
theorem ObjOk.stay (x : ObjOk P w H h a o) (k : ∀ b u, (b = a ∨ H b = some (.own a)) → h.get? b = some u → h'.get? b = some u)
    (ho : ∀ b, H b = some (.own a) → H' b = some (.own a)) (ht : ∀ b xs, H b = some (.tup xs) → H' b = some (.tup xs)) : ObjOk P w H' h' a o := by
  induction o with
  | lst xs => obtain ⟨z, its, n, r, e⟩ := x; exact ⟨z, its, n, r, k _ _ (.inl rfl) e⟩
  | tup xs => obtain ⟨z, its, r, ob, e, c⟩ := x; exact ⟨z, its, r, ob, k _ _ (.inl rfl) e, c⟩
  | dK kvs => obtain ⟨z, y, vs, r, ob, es, ep, e, c⟩ := x; exact ⟨z, y, vs, r, ob, es, ep, k _ _ (.inl rfl) e, c⟩
  | dT kvs =>
    obtain ⟨z, y, xs, r, ob, es, ep, e, c⟩ := x
    exact ⟨z, y, xs, Paired.mapP r fun p q z => ⟨z.1, ht _ _ z.2.1, z.2.2⟩, ob, es, ep, k _ _ (.inl rfl) e, c⟩
  | set S n => obtain ⟨ob, es, ep, t, e, c⟩ := x; exact ⟨ob, es, ep, t, k _ _ (.inl rfl) e, c⟩
  | ins C dx fs =>
    obtain ⟨d, z, ne, e, mA, ⟨od, es, ep, e2, c⟩, r⟩ := x
    exact ⟨ho _ d, z, ne, k _ _ (.inl rfl) e, mA, ⟨od, es, ep, k _ _ (.inr d) e2, c⟩, r⟩
  | own y => obtain ⟨ob, e⟩ := x; exact ⟨ob, k _ _ (.inl rfl) e⟩
  | xd fs => obtain ⟨mA, ⟨od, es, ep, e, c⟩, r⟩ := x; exact ⟨mA, ⟨od, es, ep, k _ _ (.inl rfl) e, c⟩, r⟩
  | rng lo hi => obtain ⟨t, u, v, e⟩ := x; exact ⟨t, u, v, k _ _ (.inl rfl) e⟩
  | frz ob u ih => obtain ⟨e, q⟩ := x; exact ⟨k _ _ (.inl rfl) e, ih q⟩
  | tbl ps =>
    have e : h.get? a = some { cls := .none, data := .fields ps } := x
    show h'.get? a = some { cls := .none, data := .fields ps }
    exact k a _ (.inl rfl) e
  | met f y =>
    have e : h.get? a = some (PySem.W.methodObj (.ref f) (.ref y)) := x
    show h'.get? a = some (PySem.W.methodObj (.ref f) (.ref y))
    exact k a _ (.inl rfl) e
  | ext φ => obtain ⟨p, ⟨o, e⟩, st⟩ := x; exact ⟨st _ _ p fun o q => k _ _ (.inl rfl) q, ⟨o, k _ _ (.inl rfl) e⟩, st⟩
theorem HOk.lt (x : HOk P w H h) (e : H a = some o) : a < h.objs.size := (x a o e).lt
theorem HOk.fresh (x : HOk P w H h) (e : h.objs.size ≤ a) : H a = none := by
  cases q : H a with
  | none => rfl
  | some u => exact absurd (Nat.lt_of_lt_of_le (x.lt q) e) (Nat.lt_irrefl _)
theorem HOk.kept (x : HOk P w H h) (k : ∀ b u, h.get? b = some u → h'.get? b = some u) : HOk P w H h' := fun a o e =>
  (x a o e).stay (fun b u _ q => k b u q) (fun _ q => q) fun _ _ q => q
theorem HOk.laid (x : HOk P w H h) (k : ∀ b u, h.get? b = some u → h'.get? b = some u) (hp : h.objs.size ≤ a) (new : ObjOk P w (upd H a o) h' a o) : HOk P w (upd H a o) h' := fun b u e => by
  have hn := x.fresh hp
  by_cases hb : b = a
  · subst hb; rw [upd_same] at e; cases e; exact new
  · rw [upd_ne hb] at e
    exact (x b u e).stay (fun c v _ q => k c v q) (fun c q => by rw [upd_ne (ne_of_none q hn)]; exact q) fun c xs q => by rw [upd_ne (ne_of_none q hn)]; exact q
end
def Rd (H : Hp) (a : Addr) (u : HO) : Prop := H a = some u ∨ ∃ o, H a = some (.frz o u)
theorem Rd.of {H : Hp} {a : Addr} {u : HO} (h : H a = some u) : Rd H a u := .inl h
theorem Rd.ok {P : Program} {w : World} {H : Hp} {h : Heap} {a : Addr} {u : HO} (r : Rd H a u) (x : HOk P w H h) : ObjOk P w H h a u := by
  rcases r with r | ⟨o, r⟩
  · exact x a u r
  · obtain ⟨_, q⟩ := x a _ r
    exact q
def Mut : Option HO → Prop
  | some (.lst _) => True
  | some (.dK _) => True
  | some (.dT _) => True
  | some (.set _ _) => True
  | some (.ins _ _ _) => True
  | some (.ext _) => True
  | _ => False
section
variable {P : Program} {w : World} {H : Hp} {h h' : Heap} {x e : Addr} {o' : HO}
theorem HOk.write (ok : HOk P w H h) (mu : Mut (H x)) (he : e = x ∨ H e = some (.own x)) (k : ∀ b u, b ≠ e → h.get? b = some u → h'.get? b = some u) (heo : ∃ u, h'.get? e = some u)
    (new : ObjOk P w (upd H x o') h' x o') : HOk P w (upd H x o') h' := fun b u q => by
  have nown : ∀ c y, H c = some (.own y) → c ≠ x := fun c y r z => by subst z; rw [r] at mu; exact mu
  have ntup : ∀ c xs, H c = some (.tup xs) → c ≠ x := fun c xs r z => by subst z; rw [r] at mu; exact mu
  by_cases hb : b = x
  · subst hb; rw [upd_same] at q; cases q; exact new
  · rw [upd_ne hb] at q
    by_cases hbe : b = e
    · have q' : H b = some (.own x) := by
        rcases he with z | z
        · exact absurd (hbe.trans z) hb
        · rw [hbe]; exact z
      rw [q] at q'; cases q'
      obtain ⟨v, hv⟩ := heo
      exact ⟨v, by rw [hbe]; exact hv⟩
    · refine (ok b u q).stay (fun c v hc r => k c v ?_ r) (fun c r => by rw [upd_ne (nown c b r)]; exact r) fun c xs r => by rw [upd_ne (ntup c xs r)]; exact r
      rcases hc with rfl | hc
      · exact hbe
      · rintro rfl
        rcases he with z | z
        · exact nown c b hc z
        · rw [hc] at z; cases z; exact hb rfl
end
structure Un (fs ex : List Addr) (H H' : Hp) (h h' : Heap) : Prop where
  keep : ∀ b o, h.get? b = some o → H b = none → b ∉ fs → b ∉ ex → h'.get? b = some o
  slot : ∀ b o, h.get? b = some o → H b = none → b ∈ fs → b ∉ ex → ∃ sl, h'.get? b = some { o with slots := sl }
  free : ∀ b o, h.get? b = some o → H b = none → b ∉ ex → H' b = none
  there : ∀ b o, h.get? b = some o → b ∉ ex → ∃ o', h'.get? b = some o'
  tups : ∀ b xs, H b = some (.tup xs) → H' b = some (.tup xs)
  frzs : ∀ b o u, H b = some (.frz o u) → H' b = some (.frz o u)
  tbls : ∀ b ps, H b = some (.tbl ps) → ∃ more, H' b = some (.tbl (ps ++ more))
section
variable {fs fs' ex ex' : List Addr} {H H1 H2 : Hp} {h h1 h2 h' : Heap} {a x e : Addr} {o : HO}
theorem Un.any (u : Un fs ex H H1 h h1) {b : Addr} {ob : Obj} (q : h.get? b = some ob) (n : H b = none) (hx : b ∉ ex) : ∃ sl, h1.get? b = some { ob with slots := sl } := by
  by_cases hb : b ∈ fs
  · exact u.slot b ob q n hb hx
  · exact ⟨ob.slots, u.keep b ob q n hb hx⟩
theorem Un.trans (a : Un fs ex H H1 h h1) (b : Un fs ex H1 H2 h1 h2) : Un fs ex H H2 h h2 where
  keep := fun c ob q n hc hx => b.keep c ob (a.keep c ob q n hc hx) (a.free c ob q n hx) hc hx
  slot := fun c ob q n hc hx => by
    obtain ⟨sl, e1⟩ := a.slot c ob q n hc hx
    obtain ⟨sl', e2⟩ := b.slot c _ e1 (a.free c ob q n hx) hc hx
    exact ⟨sl', e2⟩
  free := fun c ob q n hx => by
    obtain ⟨o', e1⟩ := a.there c ob q hx
    exact b.free c o' e1 (a.free c ob q n hx) hx
  there := fun c ob q hx => by
    obtain ⟨o', e1⟩ := a.there c ob q hx
    exact b.there c o' e1 hx
  tups := fun c xs q => b.tups c xs (a.tups c xs q)
  frzs := fun c ob xs q => b.frzs c ob xs (a.frzs c ob xs q)
  tbls := fun c ps q => by
    obtain ⟨m1, e1⟩ := a.tbls c ps q
    obtain ⟨m2, e2⟩ := b.tbls c _ e1
    exact ⟨m1 ++ m2, by rw [e2, Array.append_assoc]⟩
theorem Un.kept (k : ∀ b u, h.get? b = some u → h'.get? b = some u) : Un fs ex H H h h' :=
  ⟨fun b ob q _ _ _ => k b ob q, fun b ob q _ _ _ => ⟨ob.slots, k b ob q⟩, fun _ _ _ n _ => n, fun b ob q _ => ⟨ob, k b ob q⟩, fun _ _ q => q, fun _ _ _ q => q, fun _ ps q => ⟨#[], by rw [q]; simp⟩⟩
theorem Un.refl : Un fs ex H H h h := Un.kept fun _ _ q => q
theorem Un.laid (k : ∀ b u, h.get? b = some u → h'.get? b = some u) (hp : h.objs.size ≤ a) (hn : H a = none) : Un fs ex H (upd H a o) h h' where
  keep := fun b u q _ _ _ => k b u q
  slot := fun b u q _ _ _ => ⟨u.slots, k b u q⟩
  free := fun b u q n _ => by rw [upd_ne (Nat.ne_of_lt (Nat.lt_of_lt_of_le (Heap.lt_size q) hp))]; exact n
  there := fun b u q _ => ⟨u, k b u q⟩
  tups := fun b xs q => by rw [upd_ne (ne_of_none q hn)]; exact q
  frzs := fun b u xs q => by rw [upd_ne (ne_of_none q hn)]; exact q
  tbls := fun b ps q => ⟨#[], by rw [upd_ne (ne_of_none q hn), q]; simp⟩
theorem Un.write (mu : Mut (H x)) (he : e = x ∨ H e = some (.own x)) (k : ∀ b u, b ≠ e → h.get? b = some u → h'.get? b = some u) (heo : ∃ u, h'.get? e = some u) : Un fs ex H (upd H x o) h h' := by
  have hx : ∀ b, H b = none → b ≠ x := fun b n z => by subst z; rw [n] at mu; exact mu
  have hb : ∀ b, H b = none → b ≠ e := fun b n z => by
    subst z
    rcases he with r | r
    · exact hx b n r
    · rw [n] at r; cases r
  have hm : ∀ b u, H b = some u → ¬ Mut (some u) → b ≠ x := fun b u q nm z => by subst z; rw [q] at mu; exact nm mu
  refine ⟨fun b u q n _ _ => k b u (hb b n) q, fun b u q n _ _ => ⟨u.slots, k b u (hb b n) q⟩, fun b u q n _ => by rw [upd_ne (hx b n)]; exact n, fun b u q _ => ?_,
    fun b xs q => by rw [upd_ne (hm b _ q fun z => z)]; exact q, fun b u xs q => by rw [upd_ne (hm b _ q fun z => z)]; exact q, fun b ps q => ⟨#[], by rw [upd_ne (hm b _ q fun z => z), q]; simp⟩⟩
  by_cases hbe : b = e
  · subst hbe; exact heo
  · exact ⟨u, k b u hbe q⟩
theorem Un.mono (u : Un fs ex H H1 h h1) (hs : ∀ b ∈ fs, b ∈ fs') (hx : ∀ b ∈ ex, b ∈ ex') : Un fs' ex' H H1 h h1 :=
  ⟨fun b ob q n hb he => u.keep b ob q n (fun z => hb (hs b z)) fun z => he (hx b z), fun _ _ q n _ he => u.any q n fun z => he (hx _ z), fun b ob q n he => u.free b ob q n fun z => he (hx b z), fun b ob q he => u.there b ob q fun z => he (hx b z), u.tups, u.frzs, u.tbls⟩
end
def trk (h : Heap) (H : Hp) : List Addr := (List.range h.objs.size).filter fun a => (H a).isSome
def hidT (h : Heap) (H : Hp) : Heap := PySem.W.hideAll h (trk h H)
theorem hidT_size (h : Heap) (H : Hp) : (hidT h H).objs.size = h.objs.size := PySem.W.hideAll_size _ _
theorem hidT_get {h : Heap} {H : Hp} {b : Addr} {o : Obj} (e : h.get? b = some o) (n : H b = none) : (hidT h H).get? b = some o :=
  PySem.W.hideAll_get _ e fun hm => by
    have q : (H b).isSome = true := (List.mem_filter.mp hm).2
    rw [n] at q; simp at q
theorem of_hidT {h : Heap} {H : Hp} {b : Addr} {o : Obj} (e : (hidT h H).get? b = some o) : h.get? b = some o ∧ H b = none := by
  have e' : h.get? b = some o := PySem.W.of_hideAll (trk h H) e
  refine ⟨e', ?_⟩
  cases q : H b with
  | none => rfl
  | some x =>
    have hm : b ∈ trk h H := List.mem_filter.mpr ⟨List.mem_range.mpr (Heap.lt_size e'), by simp [q]⟩
    have z : (hidT h H).get? b = none := PySem.W.hideAll_none (trk h H) hm
    rw [z] at e; cases e
def allNews (g h : Heap) (L : Addr) : List (Addr × Obj) := (List.range h.objs.size).filterMap fun a => if a = L ∨ (g.get? a).isSome = true then none else (h.get? a).map fun o => (a, o)
theorem mem_allNews {g h : Heap} {L a : Addr} {o : Obj} (h1 : a ≠ L) (h2 : g.get? a = none) (h3 : h.get? a = some o) : (a, o) ∈ allNews g h L :=
  List.mem_filterMap.mpr ⟨a, List.mem_range.mpr (Heap.lt_size h3), by simp [h1, h2, h3]⟩
theorem of_mem_allNews {g h : Heap} {L : Addr} {p : Addr × Obj} (hp : p ∈ allNews g h L) : p.1 ≠ L ∧ g.get? p.1 = none ∧ h.get? p.1 = some p.2 := by
  obtain ⟨b, _, e⟩ := List.mem_filterMap.mp hp
  split at e
  · cases e
  · rename_i hn
    cases q : h.get? b with
    | none => rw [q] at e; simp at e
    | some u =>
      rw [q] at e
      simp only [Option.map_some, Option.some.injEq] at e
      subst e
      refine ⟨fun z => hn (.inl z), ?_, q⟩
      show g.get? b = none
      cases r : g.get? b with
      | none => rfl
      | some v => exact (hn (.inr (by simp [r]))).elim
def rest (g h : Heap) (L d : Addr) : List (Addr × Obj) := (allNews g h L).filter fun p => decide (p.1 ≠ d)
theorem news_all {g h : Heap} {L : Addr} : News g L h (allNews g h L) := fun p hp => let ⟨a, b, c⟩ := of_mem_allNews hp; ⟨c, a, b⟩
end L2
namespace L2
open PySem PySem.Spec PyProof.Rows
structure Mod (K : PySem.W.Frag) (mg : Str → Option Value) (base : Heap) : Prop where
  kin : K.In base
  glob : base.Ns mainGlobals mg
  blt : ∃ mb, base.Ns builtinsNs mb ∧ ∀ x : Str, x ≠ "__name__" → mb x = bootBuiltins x
  nolimit : base.NoLimit
structure Cx where
  prog : Program
  w : World
  K : PySem.W.Frag
  mg : Str → Option Value
  base : Heap
  A : Around
  N : List Str
  s₀ : Shared
  H₀ : Hp
  env : Env
  outer : List Env
  stack : List Env
  ex : List Addr
  fn : Str → Bool
  calm : Bool
  pn : List (Addr × Obj)
  xe : Value → Shared → Prop
def frs (l : List Env) : List Addr := l.filterMap (·.frame)
abbrev Cx.fs (X : Cx) : List Addr := frs X.outer
def Vis (sc : Scope) (x : Str) : Prop := sc.names.lookup x = some .local ∨ sc.names.lookup x = some .cell ∨ sc.names.lookup x = some .free
def Loc (sc : Scope) (x : Str) : Prop := sc.names.lookup x = some .local ∨ sc.names.lookup x = some .cell
def Look (env : Env) (h : Heap) (m : Str → Option Value) (x : Str) (u : Value) : Prop :=
  (env.kindOf x = some .local ∧ m x = some u) ∨ ((env.kindOf x = some .cell ∨ env.kindOf x = some .free) ∧ ∃ c, env.cells.lookup x = some c ∧ h.IsCell c (some u))
structure Cx.Ok (X : Cx) : Prop where
  mod : Mod X.K X.mg X.base
  kind : X.env.scope.kind = .function
  glob : X.env.globals = mainGlobals
  blt : X.env.builtins = builtinsNs
  above : X.s₀.heap.objs.size ≤ X.env.locals
  inj : ∀ x y c, X.env.cells.lookup x = some c → X.env.cells.lookup y = some c → x = y
  has : ∀ x, (X.env.kindOf x = some .cell ∨ X.env.kindOf x = some .free) → ∃ c, X.env.cells.lookup x = some c
  cab : ∀ x c, X.fn x = true → X.env.cells.lookup x = some c → X.s₀.heap.objs.size ≤ c
  hd : X.calm = true → X.A.handled = none
  frames : X.A.frames = some X.stack
  stk : X.stack = X.outer ∨ (X.stack = X.env :: X.outer ∧ X.env.frame = some X.env.locals)
  exf : ∀ b ∈ X.ex, b ≠ X.env.locals ∧ ∀ x c, X.env.cells.lookup x = some c → c ≠ b
  bs : ∀ b o, X.base.get? b = some o → X.s₀.heap.get? b = some o ∧ X.H₀ b = none
  bsz : X.base.objs.size ≤ X.s₀.heap.objs.size
  noex : ∀ b o, X.base.get? b = some o → b ∉ X.ex
  exfs : ∀ b ∈ X.ex, b ∉ X.fs
  funs : X.s₀.heap.FunFrames X.base X.outer
  frf : ∀ b ∈ X.fs, X.H₀ b = none
structure Inv (X : Cx) (pins : List (Addr × Obj)) (σ : List (Option V)) (H : Hp) (s : Shared) : Prop where
  ok : X.Ok
  os : s.os = X.s₀.os
  bare : AllBare s.gens
  base : Un X.fs X.ex X.H₀ H X.s₀.heap s.heap
  loc : ∃ m, s.heap.Ns X.env.locals m ∧ ∀ (i : Nat) (x : Str) (v : V), X.N[i]? = some x → σ[i]? = some (some v) → Vis X.env.scope x → ∃ u, RelV v u ∧ Look X.env s.heap m x u
  cell : ∀ x c, X.env.cells.lookup x = some c → ∃ v, s.heap.IsCell c v
  free : H X.env.locals = none
  freeC : ∀ x c, X.env.cells.lookup x = some c → H c = none
  pin : ∀ p ∈ X.pn ++ pins, s.heap.get? p.1 = some p.2 ∧ H p.1 = none ∧ p.1 ≠ X.env.locals ∧ p.1 ∉ X.fs ∧ ∀ v, p.2.data ≠ .cell v
  hok : HOk X.prog X.w H s.heap
  len : σ.length = X.N.length
section
variable {X : Cx} {pins : List (Addr × Obj)} {σ : List (Option V)} {H H' : Hp} {s : Shared} {h' : Heap}
theorem Cx.Ok.nofr (ok : X.Ok) {b : Addr} {o : Obj} (e : X.base.get? b = some o) : b ∉ X.fs := fun hb => by
  have := (ok.funs.mem hb).1
  rw [e] at this; cases this
theorem Inv.bs (I : Inv X pins σ H s) : ∀ b o, X.base.get? b = some o → s.heap.get? b = some o ∧ H b = none := fun b o e =>
  ⟨I.base.keep b o (I.ok.bs b o e).1 (I.ok.bs b o e).2 (I.ok.nofr e) (I.ok.noex b o e), I.base.free b o (I.ok.bs b o e).1 (I.ok.bs b o e).2 (I.ok.noex b o e)⟩
theorem Inv.bk (I : Inv X pins σ H s) : ∀ b o, X.base.get? b = some o → s.heap.get? b = some o := fun b o e => (I.bs b o e).1
theorem Inv.mod (I : Inv X pins σ H s) : Mod X.K X.mg X.base := I.ok.mod
theorem Inv.kIn (I : Inv X pins σ H s) : X.K.In s.heap := I.ok.mod.kin.keeps I.bk
theorem Inv.nolimit (I : Inv X pins σ H s) : s.heap.NoLimit := I.ok.mod.nolimit.keeps I.bk
theorem Inv.fr (I : Inv X pins σ H s) : ∃ m, Fr X.base X.env.locals s.heap m :=
  let ⟨m, hn, _⟩ := I.loc
  ⟨m, hn, I.bk, Nat.le_trans I.ok.bsz I.ok.above⟩
theorem Inv.lt (I : Inv X pins σ H s) : X.env.locals < s.heap.objs.size := let ⟨_, hn, _⟩ := I.loc; hn.lt
theorem Inv.sz (I : Inv X pins σ H s) : X.s₀.heap.objs.size ≤ s.heap.objs.size := Nat.le_trans I.ok.above (Nat.le_of_lt I.lt)
theorem Inv.nofs (I : Inv X pins σ H s) {a : Addr} (h : s.heap.objs.size ≤ a) : a ∉ X.fs := fun hb => by
  obtain ⟨_, o, ho, _⟩ := I.ok.funs.mem hb
  exact absurd (Nat.lt_of_lt_of_le (Heap.lt_size ho) (Nat.le_trans I.sz h)) (Nat.lt_irrefl _)
theorem Inv.cne (I : Inv X pins σ H s) : ∀ x c, X.env.cells.lookup x = some c → c ≠ X.env.locals := fun x c e z => by
  obtain ⟨v, o, ho, hd⟩ := I.cell x c e
  obtain ⟨m, ⟨o', es, ep, ho', hd', _⟩, _⟩ := I.loc
  rw [z, ho'] at ho; cases ho; rw [hd'] at hd; cases hd
theorem Inv.funs (I : Inv X pins σ H s) : s.heap.FunFrames X.base X.outer := by
  have all : ∀ (l : List Env), (∀ b ∈ frs l, b ∈ X.fs) → X.s₀.heap.FunFrames X.base l → s.heap.FunFrames X.base l := by
    intro l
    induction l with
    | nil => intro _ _; trivial
    | cons env r ih =>
      intro hs hl
      obtain ⟨hk, ⟨L, o, hf, hn, ho, hd⟩, hr⟩ := hl
      have hL : L ∈ X.fs := hs L (by unfold frs; rw [List.filterMap_cons, hf]; exact List.mem_cons_self)
      obtain ⟨sl, e⟩ := I.base.slot L o ho (I.ok.frf L hL) hL fun z => I.ok.exfs L z hL
      exact ⟨hk, ⟨L, _, hf, hn, e, hd⟩, ih (fun b hb => hs b (by unfold frs; rw [List.filterMap_cons, hf]; exact List.mem_cons_of_mem _ hb)) hr⟩
  exact all X.outer (fun _ hb => hb) I.ok.funs
theorem Inv.stack (I : Inv X pins σ H s) : s.heap.FunFrames X.base X.stack := by
  rcases I.ok.stk with e | ⟨e, hf⟩
  · rw [e]; exact I.funs
  · rw [e]
    obtain ⟨m, hn, _⟩ := I.loc
    refine .cons (by rw [I.ok.kind]; decide) hf hn ?_ I.funs
    exact Heap.get?_none_of_le (Nat.le_trans I.ok.bsz I.ok.above)
theorem Inv.stkSub (I : Inv X pins σ H s) : ∀ b ∈ frs X.stack, b ∈ X.env.locals :: X.fs := fun b hb => by
  rcases I.ok.stk with e | ⟨e, hf⟩
  · rw [e] at hb; exact List.mem_cons_of_mem _ hb
  · rw [e] at hb
    unfold frs at hb
    rw [List.filterMap_cons, hf] at hb
    exact hb
theorem Inv.stkFree (I : Inv X pins σ H s) : ∀ b ∈ frs X.stack, H b = none := fun b hb => by
  rcases List.mem_cons.mp (I.stkSub b hb) with e | hb
  · rw [e]; exact I.free
  · obtain ⟨_, o, ho, _⟩ := I.ok.funs.mem hb
    exact I.base.free b o ho (I.ok.frf b hb) fun z => I.ok.exfs b z hb
theorem Inv.step {g' : Array GenState} {t' : Nat} {d' : Drawn} {ch : List Addr} (I : Inv X pins σ H s)
    (hch : ∀ b ∈ ch, (b ∈ X.ex ∨ X.s₀.heap.objs.size ≤ b) ∧ b ≠ X.env.locals ∧ (∀ x c, X.env.cells.lookup x = some c → c ≠ b) ∧ ∀ p ∈ X.pn ++ pins, p.1 ≠ b)
    (keep : ∀ b o, b ≠ X.env.locals → b ∉ X.fs → b ∉ ch → s.heap.get? b = some o → H b = none → h'.get? b = some o)
    (slot : ∀ b o, b ≠ X.env.locals → b ∈ X.fs → b ∉ ch → s.heap.get? b = some o → H b = none → ∃ sl, h'.get? b = some { o with slots := sl }) (free : ∀ b o, b ∉ ch → s.heap.get? b = some o → H b = none → H' b = none)
    (there : ∀ b o, b ∉ ch → s.heap.get? b = some o → ∃ o', h'.get? b = some o')
    (tups : ∀ b xs, H b = some (.tup xs) → H' b = some (.tup xs)) (frzs : ∀ b o u, H b = some (.frz o u) → H' b = some (.frz o u)) (tbls : ∀ b ps, H b = some (.tbl ps) → ∃ more, H' b = some (.tbl (ps ++ more)))
    (ns : ∀ m, s.heap.Ns X.env.locals m → h'.Ns X.env.locals m) (hok : HOk X.prog X.w H' h') (hg : AllBare g') :
    Inv X pins σ H' { s with heap := h', gens := g', drawn := d', toks := t' } := by
  have neL : ∀ b o, X.s₀.heap.get? b = some o → b ≠ X.env.locals := fun b o e => Nat.ne_of_lt (Nat.lt_of_lt_of_le (Heap.lt_size e) I.ok.above)
  have neC : ∀ b o, X.s₀.heap.get? b = some o → b ∉ X.ex → b ∉ ch := fun b o e hx hb => by
    rcases (hch b hb).1 with z | z
    · exact hx z
    · exact absurd (Nat.lt_of_lt_of_le (Heap.lt_size e) z) (Nat.lt_irrefl _)
  have cellK : ∀ x c, X.env.cells.lookup x = some c → ∀ v, s.heap.IsCell c v → h'.IsCell c v := fun x c e v ⟨o, ho, hd⟩ => by
    have nch : c ∉ ch := fun z => (hch c z).2.2.1 x c e rfl
    by_cases hc : c ∈ X.fs
    · obtain ⟨sl, q⟩ := slot c o (I.cne x c e) hc nch ho (I.freeC x c e)
      exact ⟨_, q, hd⟩
    · exact ⟨o, keep c o (I.cne x c e) hc nch ho (I.freeC x c e), hd⟩
  refine ⟨I.ok, I.os, hg, ⟨fun b o e n hb hx => ?_, fun b o e n hb hx => ?_, fun b o e n hx => ?_, fun b o e hx => ?_, fun b xs e => tups b xs (I.base.tups b xs e), fun b o xs e => frzs b o xs (I.base.frzs b o xs e), fun b ps e => ?_⟩, ?_, fun x c e => ?_, ?_, fun x c e => ?_, fun p hp => ?_, hok, I.len⟩
  · exact keep b o (neL b o e) hb (neC b o e hx) (I.base.keep b o e n hb hx) (I.base.free b o e n hx)
  · obtain ⟨sl, e1⟩ := I.base.slot b o e n hb hx
    obtain ⟨sl', e2⟩ := slot b _ (neL b o e) hb (neC b o e hx) e1 (I.base.free b o e n hx)
    exact ⟨sl', e2⟩
  · obtain ⟨o', e1⟩ := I.base.there b o e hx
    exact free b o' (neC b o e hx) e1 (I.base.free b o e n hx)
  · obtain ⟨o', e1⟩ := I.base.there b o e hx
    exact there b o' (neC b o e hx) e1
  · obtain ⟨m1, e1⟩ := I.base.tbls b ps e
    obtain ⟨m2, e2⟩ := tbls b _ e1
    exact ⟨m1 ++ m2, by rw [e2, Array.append_assoc]⟩
  · obtain ⟨m, hn, hl⟩ := I.loc
    refine ⟨m, ns m hn, fun i x v e1 e2 e3 => ?_⟩
    obtain ⟨u, r, l⟩ := hl i x v e1 e2 e3
    refine ⟨u, r, ?_⟩
    rcases l with l | ⟨k, c, e, z⟩
    · exact .inl l
    · exact .inr ⟨k, c, e, cellK x c e _ z⟩
  · obtain ⟨v, z⟩ := I.cell x c e
    exact ⟨v, cellK x c e v z⟩
  · obtain ⟨m, ⟨o, _, _, ho, _⟩, _⟩ := I.loc
    exact free _ o (fun z => (hch _ z).2.1 rfl) ho I.free
  · obtain ⟨v, o, ho, hd⟩ := I.cell x c e
    exact free c o (fun z => (hch c z).2.2.1 x c e rfl) ho (I.freeC x c e)
  · obtain ⟨e, n, ne, nf, d⟩ := I.pin p hp
    have nch : p.1 ∉ ch := fun z => (hch p.1 z).2.2.2 p hp rfl
    exact ⟨keep p.1 p.2 ne nf nch e n, free p.1 p.2 nch e n, ne, nf, d⟩
theorem Inv.un {t' : Nat} (I : Inv X pins σ H s) (u : Un X.fs [] H H' s.heap h') (hok : HOk X.prog X.w H' h') : Inv X pins σ H' { s with heap := h', toks := t' } := by
  obtain ⟨m, ⟨o, es, ep, ho, r⟩, _⟩ := id I.loc
  obtain ⟨sl, hL⟩ := u.any ho I.free (by simp)
  exact I.step (g' := s.gens) (d' := s.drawn) (ch := []) (fun _ z => nomatch z) (fun b o _ hb _ e n => u.keep b o e n hb (by simp)) (fun b o _ hb _ e n => u.slot b o e n hb (by simp)) (fun b o _ e n => u.free b o e n (by simp)) (fun b o _ e => u.there b o e (by simp)) u.tups u.frzs u.tbls (fun m' hm => by
    obtain ⟨o', es', ep', ho', r'⟩ := hm
    rw [ho] at ho'; cases ho'
    exact ⟨_, es', ep', hL, r'⟩) hok I.bare
theorem Inv.call {g' : Array GenState} {t' : Nat} {d' : Drawn} {ch : List Addr} (I : Inv X pins σ H s) (u : Un (frs X.stack) ch H H' s.heap h') (hok : HOk X.prog X.w H' h') (hg : AllBare g')
    (hch : ∀ b ∈ ch, (b ∈ X.ex ∨ X.s₀.heap.objs.size ≤ b) ∧ b ≠ X.env.locals ∧ (∀ x c, X.env.cells.lookup x = some c → c ≠ b) ∧ ∀ p ∈ X.pn ++ pins, p.1 ≠ b) :
    Inv X pins σ H' { s with heap := h', gens := g', drawn := d', toks := t' } := by
  obtain ⟨m, ⟨o, es, ep, ho, r⟩, _⟩ := id I.loc
  obtain ⟨sl, hL⟩ := u.any ho I.free fun z => (hch _ z).2.1 rfl
  exact I.step (ch := ch) hch (fun b o hL hb hc e n => u.keep b o e n (fun z => (List.mem_cons.mp (I.stkSub b z)).elim hL hb) hc) (fun b o _ _ hc e n => u.any e n hc) (fun b o hc e n => u.free b o e n hc) (fun b o hc e => u.there b o e hc) u.tups u.frzs u.tbls (fun m' hm => by
    obtain ⟨o', es', ep', ho', r'⟩ := hm
    rw [ho] at ho'; cases ho'
    exact ⟨_, es', ep', hL, r'⟩) hok hg
theorem Inv.turned {t' : Nat} {it : Addr} (I : Inv X pins σ H s) (k : ∀ b o, b ≠ it → s.heap.get? b = some o → h'.get? b = some o) (hn : H it = none) (hL : it ≠ X.env.locals)
    (h1 : it ∈ X.ex ∨ X.s₀.heap.objs.size ≤ it) (h2 : ∀ x c, X.env.cells.lookup x = some c → c ≠ it) (h3 : ∀ p ∈ X.pn ++ pins, p.1 ≠ it) : Inv X pins σ H { s with heap := h', toks := t' } := by
  have nit : ∀ b u, H b = some u → b ≠ it := fun b u e z => by rw [z, hn] at e; cases e
  refine I.step (g' := s.gens) (d' := s.drawn) (ch := [it]) (fun b hb => ?_) (fun b o _ _ hc e _ => k b o (fun z => hc (by simp [z])) e) (fun b o _ _ hc e _ => ⟨o.slots, k b o (fun z => hc (by simp [z])) e⟩) (fun _ _ _ _ n => n)
    (fun b o hc e => ⟨o, k b o (fun z => hc (by simp [z])) e⟩) (fun _ _ e => e) (fun _ _ _ e => e) (fun b ps e => ⟨#[], by rw [e]; simp⟩) (fun m hm => ?_) (fun b u e => ?_) I.bare
  · have e : b = it := by simpa using hb
    subst e
    exact ⟨h1, hL, h2, h3⟩
  · obtain ⟨o, es, ep, ho, r⟩ := hm
    exact ⟨o, es, ep, k _ o (Ne.symm hL) ho, r⟩
  · refine (I.hok b u e).stay (fun c v hc q => k c v ?_ q) (fun _ q => q) fun _ _ q => q
    rcases hc with z | z
    · rw [z]; exact nit b u e
    · exact nit c _ z
theorem Inv.tok (I : Inv X pins σ H s) (t : Nat) : Inv X pins σ H { s with toks := t } := I.un (h' := s.heap) (t' := t) Un.refl I.hok
theorem Inv.kept {t' : Nat} (I : Inv X pins σ H s) (k : ∀ b u, s.heap.get? b = some u → h'.get? b = some u) : Inv X pins σ H { s with heap := h', toks := t' } := I.un (Un.kept k) (I.hok.kept k)
theorem Inv.laid {a : Addr} {o : HO} {t' : Nat} (I : Inv X pins σ H s) (k : ∀ b u, s.heap.get? b = some u → h'.get? b = some u) (hp : s.heap.objs.size ≤ a) (new : ObjOk X.prog X.w (upd H a o) h' a o) :
    Inv X pins σ (upd H a o) { s with heap := h', toks := t' } := I.un (Un.laid k hp (I.hok.fresh hp)) (I.hok.laid k hp new)
theorem Inv.write {x e : Addr} {o : HO} {t' : Nat} (I : Inv X pins σ H s) (mu : Mut (H x)) (he : e = x ∨ H e = some (.own x)) (k : ∀ b u, b ≠ e → s.heap.get? b = some u → h'.get? b = some u) (heo : ∃ u, h'.get? e = some u)
    (new : ObjOk X.prog X.w (upd H x o) h' x o) : Inv X pins σ (upd H x o) { s with heap := h', toks := t' } := I.un (Un.write mu he k heo) (I.hok.write mu he k heo new)
theorem Inv.pins_of {pins' : List (Addr × Obj)} (I : Inv X pins σ H s) (h : ∀ p ∈ pins', s.heap.get? p.1 = some p.2 ∧ H p.1 = none ∧ p.1 ≠ X.env.locals ∧ p.1 ∉ X.fs ∧ ∀ v, p.2.data ≠ .cell v) : Inv X pins' σ H s :=
  ⟨I.ok, I.os, I.bare, I.base, I.loc, I.cell, I.free, I.freeC, fun p hp => (List.mem_append.mp hp).elim (fun z => I.pin p (List.mem_append_left _ z)) (h p), I.hok, I.len⟩
theorem nodup_ix {N : List Str} (hN : N.Nodup) {i j : Nat} {x : Str} (a : N[i]? = some x) (b : N[j]? = some x) : i = j := by
  obtain ⟨h1, e1⟩ := List.getElem?_eq_some_iff.mp a
  obtain ⟨h2, e2⟩ := List.getElem?_eq_some_iff.mp b
  exact (List.getElem_inj hN).mp (e1.trans e2.symm)
theorem store_ok2 {M : Model} {A : Around} {E : Value → Shared → Prop} {i : Nat} {x : Str} {v : V} {u : Value} {Q : Unit → Shared → Prop} (I : Inv X pins σ H s) (hN : X.N.Nodup) (hi : X.N[i]? = some x) (hx : Loc X.env.scope x) (r : RelV v u)
    (h : ∀ s', Inv X pins (σ.set i (some v)) H s' → (∃ a, Heap.SameBut a s.heap s'.heap ∧ (a = X.env.locals ∨ X.env.cells.lookup x = some a)) → Q () s') (hf : X.fn x = true ∨ X.env.scope.names.lookup x = some .local := by first | exact .inl rfl | exact .inr rfl | assumption) : wpAny M A (storeName X.env x u) Q E s := by
  obtain ⟨m, hn, hl⟩ := id I.loc
  have hcls : (X.env.scope.kind == .class || (X.env.scope.kind == .module && X.env.locals != X.env.globals)) = false := by rw [I.ok.kind]; rfl
  have hiσ : i < σ.length := by rw [I.len]; exact (List.getElem?_eq_some_iff.mp hi).1
  have cne := I.cne
  have tracked : ∀ {a : Addr} {h' : Heap}, (∃ o, s.heap.get? a = some o ∧ H a = none) → Heap.SameBut a s.heap h' → HOk X.prog X.w H h' := fun {a h'} ha hs b ob e => by
    obtain ⟨_, _, hfree⟩ := ha
    refine (I.hok b ob e).stay (fun c w' hc q => (hs.2 c ?_).trans q) (fun _ q => q) fun _ _ q => q
    rintro rfl
    rcases hc with rfl | hc
    · rw [hfree] at e; cases e
    · rw [hfree] at hc; cases hc
  rcases hx with hk | hk
  · refine wpAny_storeName_local hk hn (fun h' hn' hs => ?_) hcls
    obtain ⟨oL, _, _, hoL, _⟩ := id hn
    refine h _ ⟨I.ok, I.os, I.bare, ⟨fun b o e n hb hx => ?_, fun b o e n hb hx => ?_, I.base.free, fun b o e hx => ?_, I.base.tups, I.base.frzs, I.base.tbls⟩, ⟨_, hn', fun j y v' e1 e2 e3 => ?_⟩, fun y c e => ?_, I.free, I.freeC, fun p hp => ?_, tracked ⟨oL, hoL, I.free⟩ hs, by simpa using I.len⟩ ⟨_, hs, .inl rfl⟩
    · exact (hs.2 b (Nat.ne_of_lt (Nat.lt_of_lt_of_le (Heap.lt_size e) I.ok.above))).trans (I.base.keep b o e n hb hx)
    · obtain ⟨sl, e1⟩ := I.base.slot b o e n hb hx
      exact ⟨sl, (hs.2 b (Nat.ne_of_lt (Nat.lt_of_lt_of_le (Heap.lt_size e) I.ok.above))).trans e1⟩
    · obtain ⟨o', e1⟩ := I.base.there b o e hx
      exact ⟨o', (hs.2 b (Nat.ne_of_lt (Nat.lt_of_lt_of_le (Heap.lt_size e) I.ok.above))).trans e1⟩
    · by_cases hj : j = i
      · subst hj
        rw [hi] at e1; cases e1
        rw [List.getElem?_set_self hiσ] at e2
        cases e2
        exact ⟨u, r, .inl ⟨hk, by simp⟩⟩
      · rw [List.getElem?_set_ne (Ne.symm hj)] at e2
        obtain ⟨u', r', q⟩ := hl j y v' e1 e2 e3
        refine ⟨u', r', ?_⟩
        rcases q with ⟨k, e⟩ | ⟨k, c, e, z⟩
        · refine .inl ⟨k, ?_⟩
          have : y ≠ x := fun e => hj (nodup_ix hN e1 (e ▸ hi))
          simp [this, e]
        · exact .inr ⟨k, c, e, z.sameBut hs (cne y c e)⟩
    · obtain ⟨w', z⟩ := I.cell y c e
      exact ⟨w', z.sameBut hs (cne y c e)⟩
    · obtain ⟨e, n, ne, nf, d⟩ := I.pin p hp
      exact ⟨(hs.2 p.1 ne).trans e, n, ne, nf, d⟩
  · have hfn : X.fn x = true := by
      rcases hf with z | z
      · exact z
      · rw [z] at hk; cases hk
    obtain ⟨c, hc⟩ := I.ok.has x (.inl hk)
    obtain ⟨w', z⟩ := I.cell x c hc
    refine wpAny_storeName_cell I.ok.kind hk hc z (fun h' hc' hs => ?_)
    obtain ⟨oc, hoc, hocd⟩ := id z
    refine h { s with heap := h' } ⟨I.ok, I.os, I.bare, ⟨fun b o e n hb hx => ?_, fun b o e n hb hx => ?_, I.base.free, fun b o e hx => ?_, I.base.tups, I.base.frzs, I.base.tbls⟩, ⟨m, hn.sameBut hs (Ne.symm (cne x c hc)), fun j y v' e1 e2 e3 => ?_⟩, fun y c' e => ?_, I.free, I.freeC, fun p hp => ?_, tracked ⟨oc, hoc, I.freeC x c hc⟩ hs, by simpa using I.len⟩ ⟨c, hs, .inr hc⟩
    · exact (hs.2 b (Nat.ne_of_lt (Nat.lt_of_lt_of_le (Heap.lt_size e) (I.ok.cab x c hfn hc)))).trans (I.base.keep b o e n hb hx)
    · obtain ⟨sl, e1⟩ := I.base.slot b o e n hb hx
      exact ⟨sl, (hs.2 b (Nat.ne_of_lt (Nat.lt_of_lt_of_le (Heap.lt_size e) (I.ok.cab x c hfn hc)))).trans e1⟩
    · obtain ⟨o', e1⟩ := I.base.there b o e hx
      exact ⟨o', (hs.2 b (Nat.ne_of_lt (Nat.lt_of_lt_of_le (Heap.lt_size e) (I.ok.cab x c hfn hc)))).trans e1⟩
    · by_cases hj : j = i
      · subst hj
        rw [hi] at e1; cases e1
        rw [List.getElem?_set_self hiσ] at e2
        cases e2
        exact ⟨u, r, .inr ⟨.inl hk, c, hc, hc'⟩⟩
      · rw [List.getElem?_set_ne (Ne.symm hj)] at e2
        obtain ⟨u', r', q⟩ := hl j y v' e1 e2 e3
        refine ⟨u', r', ?_⟩
        rcases q with q | ⟨k, c', e, z'⟩
        · exact .inl q
        · refine .inr ⟨k, c', e, z'.sameBut hs ?_⟩
          rintro rfl
          exact hj (nodup_ix hN e1 (I.ok.inj _ _ _ e hc ▸ hi))
    · by_cases hcc : c' = c
      · subst hcc; exact ⟨_, hc'⟩
      · obtain ⟨w2, z2⟩ := I.cell y c' e
        exact ⟨w2, z2.sameBut hs hcc⟩
    · obtain ⟨e, n, ne, nf, d⟩ := I.pin p hp
      refine ⟨(hs.2 p.1 ?_).trans e, n, ne, nf, d⟩
      intro q
      rw [q, hoc] at e
      have q' : oc = p.2 := Option.some.inj e
      exact d w' (by rw [← q']; exact hocd)
theorem store_ok {M : Model} {A : Around} {E : Value → Shared → Prop} {i : Nat} {x : Str} {v : V} {u : Value} {Q : Unit → Shared → Prop} (I : Inv X pins σ H s) (hN : X.N.Nodup) (hi : X.N[i]? = some x) (hx : Loc X.env.scope x) (r : RelV v u)
    (h : ∀ s', Inv X pins (σ.set i (some v)) H s' → Q () s') (hf : X.fn x = true ∨ X.env.scope.names.lookup x = some .local := by first | exact .inl rfl | exact .inr rfl | assumption) : wpAny M A (storeName X.env x u) Q E s :=
  store_ok2 I hN hi hx r (fun s' I' _ => h s' I') hf
theorem Inv.call' {s' : Shared} {ch : List Addr} (I : Inv X pins σ H s) (ho : s'.os = s.os) (u : Un (frs X.stack) ch H H' s.heap s'.heap) (hok : HOk X.prog X.w H' s'.heap) (hg : AllBare s'.gens)
    (hch : ∀ b ∈ ch, (b ∈ X.ex ∨ X.s₀.heap.objs.size ≤ b) ∧ b ≠ X.env.locals ∧ (∀ x c, X.env.cells.lookup x = some c → c ≠ b) ∧ ∀ p ∈ X.pn ++ pins, p.1 ≠ b) : Inv X pins σ H' s' := by
  obtain ⟨h', g', d', t', o'⟩ := s'
  have e : o' = s.os := ho
  subst e
  exact I.call (g' := g') (t' := t') (d' := d') u hok hg hch
end
abbrev XK := Value → Option Addr → Hp → Prop
abbrev St := List (Option V)
abbrev VK := V → Hp → Prop
abbrev TE := St → Hp → VK → Prop
abbrev TT := St → Hp → (Bool → Hp → Prop) → Prop
abbrev TA := St → Hp → (List V → Hp → Prop) → Prop
structure Ends where
  nx : St → Hp → Prop
  rt : VK
  bk : St → Hp → Prop := fun _ _ => False
  ct : St → Hp → Prop := fun _ _ => False
abbrev TS := Ends → St → Hp → Prop
def EP (X : Cx) (pins : List (Addr × Obj)) (σ : St) (Q : VK) (u : Value) (s' : Shared) : Prop := ∃ v H', Inv X pins σ H' s' ∧ RelV v u ∧ Q v H'
def TP (X : Cx) (pins : List (Addr × Obj)) (σ : St) (Q : Bool → Hp → Prop) (b : Bool) (s' : Shared) : Prop := ∃ H', Inv X pins σ H' s' ∧ Q b H'
def AP (X : Cx) (pins : List (Addr × Obj)) (σ : St) (Q : List V → Hp → Prop) (us : List Value) (s' : Shared) : Prop := ∃ vs H', Inv X pins σ H' s' ∧ Vals vs us ∧ Q vs H'
def SP (X : Cx) (pins : List (Addr × Obj)) (D : Ends) (f : Flow) (s' : Shared) : Prop :=
  match f with
  | .next => ∃ σ' H', Inv X pins σ' H' s' ∧ D.nx σ' H'
  | .brk => ∃ σ' H', Inv X pins σ' H' s' ∧ D.bk σ' H'
  | .cont => ∃ σ' H', Inv X pins σ' H' s' ∧ D.ct σ' H'
  | .ret u => ∃ v σ' H', Inv X pins σ' H' s' ∧ RelV v u ∧ D.rt v H'
def PE (X : Cx) (e : Expr) (t : TE) : Prop :=
  ∀ (pins : List (Addr × Obj)) (s : Shared) (σ : St) (H : Hp) (Q : VK), Inv X pins σ H s → t σ H Q → wpAny (model X.prog X.w) X.A (eval e X.env) (EP X pins σ Q) X.xe s
def PT (X : Cx) (e : Expr) (t : TT) : Prop :=
  ∀ (pins : List (Addr × Obj)) (s : Shared) (σ : St) (H : Hp) (Q : Bool → Hp → Prop), Inv X pins σ H s → t σ H Q → wpAny (model X.prog X.w) X.A (isTrue e X.env (eval e X.env)) (TP X pins σ Q) X.xe s
def PW (X : Cx) (e : Expr) (t : TT) : Prop :=
  ∀ (whole : Sem Value) (pins : List (Addr × Obj)) (s : Shared) (σ : St) (H : Hp) (Q : Bool → Hp → Prop), Inv X pins σ H s → t σ H Q → wpAny (model X.prog X.w) X.A (isTrue e X.env whole) (TP X pins σ Q) X.xe s
theorem PW.pt {X : Cx} {e : Expr} {t : TT} (h : PW X e t) : PT X e t := h _
def PA (X : Cx) (es : List Expr) (t : TA) : Prop :=
  ∀ (pos : Pos) (pins : List (Addr × Obj)) (s : Shared) (σ : St) (H : Hp) (Q : List V → Hp → Prop), Inv X pins σ H s → t σ H Q → wpAny (model X.prog X.w) X.A (spliced (backTo pos (starEach es X.env))) (AP X pins σ Q) X.xe s
def PS (X : Cx) (st : Stmt) (t : TS) : Prop :=
  ∀ (pins : List (Addr × Obj)) (s : Shared) (σ : St) (H : Hp) (D : Ends), Inv X pins σ H s → t D σ H → wpAny (model X.prog X.w) X.A (exec st X.env) (SP X pins D) X.xe s
def PSs (X : Cx) (st : List Stmt) (t : TS) : Prop :=
  ∀ (pins : List (Addr × Obj)) (s : Shared) (σ : St) (H : Hp) (D : Ends), Inv X pins σ H s → t D σ H → wpAny (model X.prog X.w) X.A (execs st X.env) (SP X pins D) X.xe s
theorem thn {α : Type} {t : Sem α} {Q Q' : α → Shared → Prop} {M : Model} {A : Around} {E : Value → Shared → Prop} {s : Shared} (h : wpAny M A t Q E s) (hQ : ∀ a s, Q a s → Q' a s) : wpAny M A t Q' E s := wpAny_mono h hQ fun _ _ x => x
end L2
namespace L2
open PySem PySem.Spec PyProof.Rows
section
variable {X : Cx}
def tVar (i : Nat) : TE := fun σ H Q => ∃ v, σ[i]? = some (some v) ∧ Q v H
def tC (v : V) : TE := fun _ H Q => Q v H
theorem pe_var {i : Nat} {x : Str} {pos : Pos} (hN : X.N[i]? = some x) (hv : Vis X.env.scope x) (hd : (x == ("__debug__" : Str)) = false := by decide) (hcd : (x == ("__classdict__" : Str)) = false := by decide) : PE X (.Name x pos) (tVar i) := by
  intro pins s σ H Q I h
  obtain ⟨v, e, h⟩ := h
  obtain ⟨m, hn, hl⟩ := I.loc
  obtain ⟨u, r, l⟩ := hl i x v hN e hv
  have fin : EP X pins σ Q u s := ⟨v, H, I, r, h⟩
  rcases l with ⟨hk, hm⟩ | ⟨hk, c, hc, hcell⟩
  · exact wpAny_Name (wpAny_loadName_local I.ok.kind hk hn hm fin) hd
  · rcases hk with hk | hk
    · exact wpAny_Name (wpAny_loadName_cell I.ok.kind hk hc hcell fin) hd
    · exact wpAny_Name (wpAny_loadName_free I.ok.kind hk hc hcell fin hcd) hd
theorem pe_int {i j pos} : PE X (.Constant (.int i) j pos) (tC (.int i)) := fun _ _ _ H _ I h => wpAny_Constant_int ⟨.int i, H, I.tok _, ⟨_, rfl⟩, h⟩
theorem pe_bl {b j pos} : PE X (.Constant (.bool b) j pos) (tC (.bl b)) := fun _ _ _ H _ I h => Constant_bool ⟨.bl b, H, I, rfl, h⟩
theorem pe_non {j pos} : PE X (.Constant .none j pos) (tC .non) := fun _ _ _ H _ I h => Constant_none ⟨.non, H, I, rfl, h⟩
theorem pe_str {x j pos} : PE X (.Constant (.str x) j pos) (tC (.str x)) := fun _ _ _ H _ I h => Calls.Constant_str ⟨.str x, H, I.tok _, ⟨_, rfl⟩, h⟩
def Gl (X : Cx) (x : Str) : Prop := X.env.kindOf x = some .globalImplicit
theorem ld_glob {E : Value → Shared → Prop} {pins : List (Addr × Obj)} {s : Shared} {σ : St} {H : Hp} {x : Str} {u : Value} {pos : Pos} {Q : Value → Shared → Prop} (I : Inv X pins σ H s) (hg : Gl X x) (hm : X.mg x = some u) (h : Q u s)
    (hd : (x == ("__debug__" : Str)) = false := by decide) : wpAny (model X.prog X.w) X.A (eval (.Name x pos) X.env) Q E s :=
  Calls.Name_function_global I.ok.kind hg (Calls.loadGlobal_global (by rw [I.ok.glob]; exact I.mod.glob.keeps I.bk) hm h) hd
theorem ld_blt {E : Value → Shared → Prop} {pins : List (Addr × Obj)} {s : Shared} {σ : St} {H : Hp} {x : Str} {u : Value} {pos : Pos} {Q : Value → Shared → Prop} (I : Inv X pins σ H s) (hg : Gl X x) (hm : X.mg x = none) (hv : bootBuiltins x = some u) (h : Q u s)
    (hn : x ≠ "__name__" := by decide) (hd : (x == ("__debug__" : Str)) = false := by decide) : wpAny (model X.prog X.w) X.A (eval (.Name x pos) X.env) Q E s := by
  obtain ⟨mb, h1, h2⟩ := I.mod.blt
  exact Calls.Name_function_global I.ok.kind hg (Calls.loadGlobal_builtin (by rw [I.ok.glob]; exact I.mod.glob.keeps I.bk) hm (by rw [I.ok.blt]; exact h1.keeps I.bk) ((h2 x hn).trans hv) h) hd
theorem pe_bltn {x : Str} {v : V} {u : Value} {pos : Pos} (hg : Gl X x) (hm : X.mg x = none) (hv : bootBuiltins x = some u) (r : RelV v u) (hn : x ≠ "__name__" := by decide) (hd : (x == ("__debug__" : Str)) = false := by decide) : PE X (.Name x pos) (tC v) :=
  fun _ _ _ H _ I h => ld_blt I hg hm hv ⟨v, H, I, r, h⟩ hn hd
variable {a b : Expr} {ta tb : TE} {pos : Pos}
def PC (X : Cx) (op : CmpOp) (a b : Expr) (t : TE) : Prop :=
  ∀ (pins : List (Addr × Obj)) (s : Shared) (σ : St) (H : Hp) (Q : VK), Inv X pins σ H s → t σ H Q →
    wpAny (model X.prog X.w) X.A (eval a X.env) (fun v s₁ => wpAny (model X.prog X.w) X.A (eval b X.env) (fun u s₂ => wpAny (model X.prog X.w) X.A (compareOp op v u) (EP X pins σ Q) X.xe s₂) X.xe s₁) X.xe s
theorem nobehind (b : Expr) {op : CmpOp} (h : op ≠ .In) (h2 : op ≠ .NotIn) : behindInMarks op b = false := by
  have e1 : (op == CmpOp.In) = false := by cases op <;> first | rfl | exact absurd rfl h
  have e2 : (op == CmpOp.NotIn) = false := by cases op <;> first | rfl | exact absurd rfl h2
  cases b <;> simp [behindInMarks, e1, e2]
def tB (t : TE) : TT := fun σ H Q => t σ H fun x H1 => ∃ c, x = .bl c ∧ Q c H1
theorem pt_cmp {op : CmpOp} {t : TE} (h : PC X op a b t) (h1 : behindInMarks op b = false := by first | exact nobehind _ (by decide) (by decide) | rfl) : PT X (.Compare a [op] [b] pos) (tB t) := by
  intro pins s σ H Q I hw
  refine wpAny_isTrue_Compare1 (thn (h pins s σ H _ I hw) fun v s1 h1 => thn h1 fun u s2 h2 => thn h2 fun c s3 ⟨x, H1, I1, r1, q1⟩ => ?_) h1
  obtain ⟨d, rfl, q⟩ := q1
  cases r1
  exact wpAny_truthy_bool ⟨H1, I1, q⟩
theorem pt_val {e : Expr} {t : TE} (h : PE X e t) (he : ∀ whole, isTrue e X.env whole = (do let v ← whole; standAt e.pos; holding [v] (truthy v)) := by intro _; rfl) : PT X e (tB t) := by
  intro pins s σ H Q I hw
  refine isTrue_plain (thn (h pins s σ H _ I hw) fun v s1 ⟨x, H1, I1, r1, q1⟩ => ?_) (he _)
  obtain ⟨d, rfl, q⟩ := q1
  cases r1
  exact wpAny_truthy_bool ⟨H1, I1, q⟩
variable {tA tB' : TT} {rest : List Expr}
def tAnd (t u : TT) : TT := fun σ H Q => t σ H fun c H1 => if c = true then u σ H1 Q else Q false H1
def tOr (t u : TT) : TT := fun σ H Q => t σ H fun c H1 => if c = true then Q true H1 else u σ H1 Q
def tNot (t : TT) : TT := fun σ H Q => t σ H fun c H1 => Q (!c) H1
theorem pw_and1 (ha : PT X a tA) : PW X (.BoolOp .And [a] pos) tA := by
  intro wh pins s σ H Q I h
  refine isTrue_and (thn (ha pins s σ H Q I h) fun c s1 e => ?_)
  cases c with
  | true => exact isTrue_and_nil e
  | false => exact e
theorem pw_or1 (ha : PT X a tA) : PW X (.BoolOp .Or [a] pos) tA := by
  intro wh pins s σ H Q I h
  refine isTrue_or (thn (ha pins s σ H Q I h) fun c s1 e => ?_)
  cases c with
  | false => exact isTrue_or_nil e
  | true => exact e
theorem pw_and (ha : PT X a tA) (hb : PW X (.BoolOp .And (b :: rest) pos) tB') : PW X (.BoolOp .And (a :: b :: rest) pos) (tAnd tA tB') := by
  intro wh pins s σ H Q I h
  refine isTrue_and (thn (ha pins s σ H _ I h) fun c s1 ⟨H1, I1, q1⟩ => ?_)
  cases c with
  | true => exact hb wh pins s1 σ H1 Q I1 q1
  | false => exact ⟨H1, I1, q1⟩
theorem pw_or (ha : PT X a tA) (hb : PW X (.BoolOp .Or (b :: rest) pos) tB') : PW X (.BoolOp .Or (a :: b :: rest) pos) (tOr tA tB') := by
  intro wh pins s σ H Q I h
  refine isTrue_or (thn (ha pins s σ H _ I h) fun c s1 ⟨H1, I1, q1⟩ => ?_)
  cases c with
  | true => exact ⟨H1, I1, q1⟩
  | false => exact hb wh pins s1 σ H1 Q I1 q1
theorem pt_not (ha : PT X a tA) : PT X (.UnaryOp .Not a pos) (tNot tA) := by
  intro pins s σ H Q I h
  exact isTrue_not (ha pins s σ H (fun c H1 => Q (!c) H1) I h)
def tAndV (ta tb : TE) : TE := fun σ H Q => ta σ H fun x H1 => ∃ c, x = .bl c ∧ if c = true then tb σ H1 Q else Q (.bl false) H1
def tNotV (ta : TE) : TE := fun σ H Q => ta σ H fun x H1 => ∃ c, x = .bl c ∧ Q (.bl (!c)) H1
theorem pe_one {op} {t : TE} (h : PE X a t) : PE X (.BoolOp op [a] pos) t := fun pins s σ H Q I hw => BoolOp_one (h pins s σ H Q I hw)
theorem pe_and (ha : PE X a ta) (hb : PE X (.BoolOp .And (b :: rest) pos) tb) : PE X (.BoolOp .And (a :: b :: rest) pos) (tAndV ta tb) := by
  intro pins s σ H Q I h
  refine BoolOp_and (thn (ha pins s σ H _ I h) fun v s1 ⟨x, H1, I1, r1, q1⟩ => ?_)
  obtain ⟨c, rfl, q1⟩ := q1
  cases r1
  refine wpAny_truthy_bool ?_
  cases c with
  | true => exact hb pins s1 σ H1 Q I1 q1
  | false => exact ⟨.bl false, H1, I1, rfl, q1⟩
theorem pe_not (ha : PE X a ta) : PE X (.UnaryOp .Not a pos) (tNotV ta) := by
  intro pins s σ H Q I h
  refine UnaryOp_ (thn (ha pins s σ H _ I h) fun v s1 ⟨x, H1, I1, r1, q1⟩ => ?_)
  obtain ⟨c, rfl, q1⟩ := q1
  cases r1
  exact not_of (wpAny_truthy_bool ⟨.bl (!c), H1, I1, rfl, q1⟩)
end
end L2
namespace L2
open PySem PySem.Spec PyProof.Rows
def SqL (K : PySem.W.Frag) (H : Hp) (a : Addr) (xs : List V) : Prop :=
  Rd H a (.lst xs) ∨
    ∃ (o : Obj) (its : Array Value) (n : Nat), K.lookup a = some o ∧ o.cls = .type "list" ∧ o.dict = none ∧ o.data = .seq its n ∧ its.size ≤ sizeLine ∧ Vals xs its.toList
def SqT (K : PySem.W.Frag) (H : Hp) (a : Addr) (xs : List V) : Prop :=
  Rd H a (.tup xs) ∨
    ∃ (o : Obj) (its : Array Value) (n : Nat), K.lookup a = some o ∧ o.cls = .type "tuple" ∧ o.data = .seq its n ∧ its.size ≤ sizeLine ∧ Vals xs its.toList
def absV : Value → Option V
  | .none => some .non
  | .bool b => some (.bl b)
  | .int i _ => some (.int i)
  | .str x _ => some (.str x)
  | .bytes b _ => some (.byt b)
  | .float b _ => some (.flt b)
  | .ref a => some (.ref a)
  | .type n => some (.ty n)
  | _ => none
theorem RelV.abs {x : V} {u : Value} (r : RelV x u) : absV u = some x := by
  cases x with
  | non => cases r; rfl
  | bl _ => cases r; rfl
  | int _ => obtain ⟨t, rfl⟩ := r; rfl
  | str _ => obtain ⟨t, rfl⟩ := r; rfl
  | byt _ => obtain ⟨t, rfl⟩ := r; rfl
  | flt _ => obtain ⟨t, rfl⟩ := r; rfl
  | ref _ => cases r; rfl
  | ty _ => cases r; rfl
theorem RelV.inj {x y : V} {u : Value} (r : RelV x u) (q : RelV y u) : x = y := Option.some.inj (r.abs.symm.trans q.abs)
theorem Vals.inj : ∀ {xs ys : List V} {us : List Value}, Vals xs us → Vals ys us → xs = ys
  | _, _, _, .nil, .nil => rfl
  | _, _, _, .cons r t, .cons r' t' => by rw [r.inj r', Vals.inj t t']
section
variable {X : Cx} {pins : List (Addr × Obj)} {σ : St} {H : Hp} {s : Shared} {a : Addr} {xs ys : List V}
theorem SqL.of {K : PySem.W.Frag} (h : H a = some (.lst xs)) : SqL K H a xs := .inl (.inl h)
theorem SqT.of {K : PySem.W.Frag} (h : H a = some (.tup xs)) : SqT K H a xs := .inl (.inl h)
theorem Inv.list (I : Inv X pins σ H s) (h : SqL X.K H a xs) : ∃ its : List Value, Vals xs its ∧ PlainL s.heap a its.toArray ∧ xs.length ≤ sizeLine := by
  rcases h with h | ⟨o, its, n, hk, hc, hd, hs, hz, r⟩
  · obtain ⟨z, its, n, r, e⟩ := h.ok I.hok
    exact ⟨its, r, ⟨_, n, e, rfl, rfl, rfl⟩, z⟩
  · refine ⟨its.toList, r, ⟨o, n, I.kIn a o hk, hc, hd, by simpa using hs⟩, ?_⟩
    have e := r.length
    simp only [Array.length_toList] at e
    omega
theorem Inv.tuple (I : Inv X pins σ H s) (h : SqT X.K H a xs) : ∃ its : List Value, Vals xs its ∧ IsTup s.heap a its.toArray ∧ xs.length ≤ sizeLine := by
  rcases h with h | ⟨o, its, n, hk, hc, hs, hz, r⟩
  · obtain ⟨z, its, r, p⟩ := h.ok I.hok
    exact ⟨its, r, p, z⟩
  · refine ⟨its.toList, r, ⟨o, I.kIn a o hk, hc, n, by simpa using hs⟩, ?_⟩
    have e := r.length
    simp only [Array.length_toList] at e
    omega
theorem Inv.list_inj (I : Inv X pins σ H s) (h : SqL X.K H a xs) (h' : SqL X.K H a ys) : xs = ys := by
  obtain ⟨its, r, ⟨o, n, e, _, _, d⟩, _⟩ := I.list h
  obtain ⟨its', r', ⟨o', n', e', _, _, d'⟩, _⟩ := I.list h'
  rw [e] at e'; cases e'
  rw [d] at d'
  injection d' with d1 _
  have : its = its' := by simpa using congrArg Array.toList d1
  subst this
  exact r.inj r'
end
abbrev Cx.wish (X : Cx) (E : Value → Shared → Prop) : Cx := { X with xe := E }
abbrev Cx.nox (X : Cx) : Cx := X.wish fun _ _ => False
theorem Cx.Ok.wish {X : Cx} (ok : X.Ok) (E : Value → Shared → Prop) : (X.wish E).Ok :=
  ⟨ok.mod, ok.kind, ok.glob, ok.blt, ok.above, ok.inj, ok.has, ok.cab, ok.hd, ok.frames, ok.stk, ok.exf, ok.bs, ok.bsz, ok.noex, ok.exfs, ok.funs, ok.frf⟩
theorem Cx.Ok.unwish {X : Cx} {E : Value → Shared → Prop} (ok : (X.wish E).Ok) : X.Ok :=
  ⟨ok.mod, ok.kind, ok.glob, ok.blt, ok.above, ok.inj, ok.has, ok.cab, ok.hd, ok.frames, ok.stk, ok.exf, ok.bs, ok.bsz, ok.noex, ok.exfs, ok.funs, ok.frf⟩
section
variable {X : Cx} {pins : List (Addr × Obj)} {σ : St} {H : Hp} {s : Shared} {E : Value → Shared → Prop}
theorem Inv.wish (I : Inv X pins σ H s) (E : Value → Shared → Prop) : Inv (X.wish E) pins σ H s := ⟨I.ok.wish E, I.os, I.bare, I.base, I.loc, I.cell, I.free, I.freeC, I.pin, I.hok, I.len⟩
theorem Inv.unwish (I : Inv (X.wish E) pins σ H s) : Inv X pins σ H s := ⟨I.ok.unwish, I.os, I.bare, I.base, I.loc, I.cell, I.free, I.freeC, I.pin, I.hok, I.len⟩
theorem SP.unwish {D : Ends} {f : Flow} {s' : Shared} (h : SP (X.wish E) pins D f s') : SP X pins D f s' := by
  cases f with
  | next => obtain ⟨σ', H', I, q⟩ := h; exact ⟨σ', H', I.unwish, q⟩
  | brk => obtain ⟨σ', H', I, q⟩ := h; exact ⟨σ', H', I.unwish, q⟩
  | cont => obtain ⟨σ', H', I, q⟩ := h; exact ⟨σ', H', I.unwish, q⟩
  | ret u => obtain ⟨v, σ', H', I, r, q⟩ := h; exact ⟨v, σ', H', I.unwish, r, q⟩
theorem PE.nox {e : Expr} {t : TE} (h : PE X.nox e t) : PE X e t := fun pins s σ H Q I hw =>
  wpAny_mono (h pins s σ H Q (I.wish _) hw) (fun _ _ ⟨v, H', I', r, q⟩ => ⟨v, H', I'.unwish, r, q⟩) fun _ _ z => False.elim z
theorem PT.nox {e : Expr} {t : TT} (h : PT X.nox e t) : PT X e t := fun pins s σ H Q I hw =>
  wpAny_mono (h pins s σ H Q (I.wish _) hw) (fun _ _ ⟨H', I', q⟩ => ⟨H', I'.unwish, q⟩) fun _ _ z => False.elim z
theorem PSs.nox {st : List Stmt} {t : TS} (h : PSs X.nox st t) : PSs X st t := fun pins s σ H D I hw =>
  wpAny_mono (h pins s σ H D (I.wish _) hw) (fun _ _ q => q.unwish) fun _ _ z => False.elim z
end
section
variable {X : Cx} {st : Stmt} {rest : List Stmt} {t u : TS} {e : Expr} {te : TE} {pos : Pos}
def tNext : TS := fun D σ H => D.nx σ H
def tSeq (t u : TS) : TS := fun D σ H => t { D with nx := u D } σ H
theorem pss_nil : PSs X [] tNext := fun _ _ σ H _ I h => wpAny_execs_nil ⟨σ, H, I, h⟩
theorem pss_cons (h1 : PS X st t) (h2 : PSs X rest u) : PSs X (st :: rest) (tSeq t u) := by
  intro pins s σ H D I h
  refine wpAny_execs_cons (thn (h1 pins s σ H { D with nx := u D } I h) fun f s1 q => ?_)
  cases f with
  | next =>
    obtain ⟨σ', H', I', q⟩ := q
    exact h2 pins s1 σ' H' D I' q
  | ret v => exact q
  | brk => exact q
  | cont => exact q
theorem pss_one (h1 : PS X st t) : PSs X [st] t := by
  intro pins s σ H D I h
  refine wpAny_execs_cons (thn (h1 pins s σ H D I h) fun f s1 q => ?_)
  cases f with
  | next => exact wpAny_execs_nil q
  | ret v => exact q
  | brk => exact q
  | cont => exact q
def tBreak : TS := fun D σ H => D.bk σ H
theorem ps_break : PS X (.Break pos) tBreak := fun _ _ σ H _ I h => wpAny_Break ⟨σ, H, I, h⟩
theorem Inv.quiet {pins : List (Addr × Obj)} {σ : St} {H : Hp} {s : Shared} (I : Inv X pins σ H s) : interactive X.env = false := by simp [interactive, I.ok.kind]
def tDrop (te : TE) : TS := fun D σ H => te σ H fun _ H1 => D.nx σ H1
theorem ps_expr (he : PE X e te) (hs : swapsWith e none pos.line X.env = pure false := by rfl) : PS X (.Expr e pos) (tDrop te) := by
  intro pins s σ H D I h
  exact wpAny_Expr_any (thn (he pins s σ H _ I h) fun v s1 ⟨x, H1, I1, r1, q1⟩ => ⟨σ, H1, I1, q1⟩) I.quiet hs
def tRet (te : TE) : TS := fun D σ H => te σ H D.rt
theorem ps_ret (he : PE X e te) : PS X (.Return (some e) pos) (tRet te) := by
  intro pins s σ H D I h
  exact wpAny_Return_some (thn (he pins s σ H _ I h) fun v s1 ⟨x, H1, I1, r1, q1⟩ => ⟨x, σ, H1, I1, r1, q1⟩)
def tIfS (c : TT) (t u : TS) : TS := fun D σ H => c σ H fun b H1 => if b = true then t D σ H1 else u D σ H1
theorem ps_if {c : Expr} {a b : List Stmt} {tc : TT} (hc : PT X c tc) (ha : PSs X a t) (hb : PSs X b u) : PS X (.If c a b pos) (tIfS tc t u) := by
  intro pins s σ H D I h
  refine wpAny_If (thn (hc pins s σ H _ I h) fun d s1 ⟨H1, I1, q1⟩ => ?_)
  cases d with
  | true => exact ha pins s1 σ H1 D I1 q1
  | false => exact hb pins s1 σ H1 D I1 q1
end
abbrev TG := V → St → Hp → (St → Hp → Prop) → Prop
abbrev TGs := List V → St → Hp → (St → Hp → Prop) → Prop
def PG (X : Cx) (target : Expr) (t : TG) : Prop :=
  ∀ (pins : List (Addr × Obj)) (s : Shared) (σ : St) (H : Hp) (v : V) (u : Value) (Q : St → Hp → Prop), Inv X pins σ H s → RelV v u → t v σ H Q →
    wpAny (model X.prog X.w) X.A (assign target X.env u) (fun _ s' => ∃ σ' H', Inv X pins σ' H' s' ∧ Q σ' H') X.xe s
def PGs (X : Cx) (ts : List Expr) (t : TGs) : Prop :=
  ∀ (pins : List (Addr × Obj)) (s : Shared) (σ : St) (H : Hp) (vs : List V) (us : List Value) (Q : St → Hp → Prop), Inv X pins σ H s → Vals vs us → t vs σ H Q →
    wpAny (model X.prog X.w) X.A (assignInOrder ((assignEach ts X.env).map (·.2)) us) (fun _ s' => ∃ σ' H', Inv X pins σ' H' s' ∧ Q σ' H') X.xe s
abbrev TSet := V → V → V → Hp → (Hp → Prop) → Prop
def PSet (X : Cx) (t : TSet) : Prop :=
  ∀ (pins : List (Addr × Obj)) (s : Shared) (σ : St) (H : Hp) (o i v : V) (ov iv u : Value) (Q : Hp → Prop), Inv X pins σ H s → RelV o ov → RelV i iv → RelV v u → t o i v H Q →
    wpAny (model X.prog X.w) X.A (setItem ov iv u) (fun _ s' => ∃ H', Inv X pins σ H' s' ∧ Q H') X.xe s
section
variable {X : Cx} {pos : Pos}
def gName (i : Nat) : TG := fun v σ H Q => Q (σ.set i (some v)) H
theorem pg_name {i : Nat} {x : Str} (hN : X.N.Nodup) (hi : X.N[i]? = some x) (hx : Loc X.env.scope x) (hf : X.fn x = true ∨ X.env.scope.names.lookup x = some .local := by first | exact .inl rfl | exact .inr rfl | assumption) : PG X (.Name x pos) (gName i) := by
  intro pins s σ H v u Q I r h
  exact wpAny_assign_Name (store_ok I hN hi hx r (fun s' I' => ⟨_, H, I', h⟩) hf)
def gNil : TGs := fun vs σ H Q => vs = [] ∧ Q σ H
def gCons (t : TG) (u : TGs) : TGs := fun vs σ H Q => ∃ v r, vs = v :: r ∧ t v σ H fun σ' H' => u r σ' H' Q
theorem pgs_nil : PGs X [] gNil := by
  intro pins s σ H vs us Q I r h
  obtain ⟨e, h⟩ := h
  subst e
  cases r
  exact assignInOrder_nil ⟨σ, H, I, h⟩
theorem pgs_cons {e : Expr} {es : List Expr} {t : TG} {u : TGs} (h1 : PG X e t) (h2 : PGs X es u)
    (hs : (assignEach (e :: es) X.env).map (·.2) = assign e X.env :: (assignEach es X.env).map (·.2) := by rfl) : PGs X (e :: es) (gCons t u) := by
  intro pins s σ H vs us Q I r h
  obtain ⟨v, vr, e1, h⟩ := h
  subst e1
  cases r with
  | cons r rr =>
    rw [hs]
    refine assignInOrder_cons (thn (h1 pins s σ H _ _ _ I r h) fun _ s1 ⟨σ1, H1, I1, q1⟩ => ?_)
    exact h2 pins s1 σ1 H1 _ _ Q I1 rr q1
def gTup (K : PySem.W.Frag) (n : Nat) (t : TGs) : TG := fun v σ H Q => ∃ a xs, v = .ref a ∧ SqT K H a xs ∧ xs.length = n ∧ t xs σ H Q
theorem pg_tup {es : List Expr} {k : Nat} {t : TGs} {n : Nat} (hc : X.calm = true) (h : PGs X es t)
    (hn : (assignEach es X.env).length = n := by rfl) (hst : (assignEach es X.env).findIdx? (·.1) = none := by rfl) : PG X (.Tuple es k pos) (gTup X.K n t) := by
  intro pins s σ H v u Q I r hw
  obtain ⟨a, xs, e1, hq, hl, hw⟩ := hw
  subst e1
  cases r
  obtain ⟨its, rv, ht, hz⟩ := I.tuple hq
  refine assign_Tuple_tuple (I.ok.hd hc) ht (by simp [hn, ← hl, rv.length]) hst fun h' hx => ?_
  have I1 : Inv X pins σ H { s with heap := h' } := I.kept (t' := s.toks) fun b o e => hx b o (Nat.ne_of_lt (Heap.lt_size e)) e
  exact h pins _ σ H xs _ Q I1 (by simpa using rv) hw
def gSub (to ti : TE) (t : TSet) : TG := fun v σ H Q => to σ H fun o H1 => ti σ H1 fun i H2 => t o i v H2 fun H3 => Q σ H3
theorem pg_sub {o i : Expr} {to ti : TE} {t : TSet} (ho : PE X o to) (hi : PE X i ti) (hs : PSet X t)
    (ha : ∀ v, assign (.Subscript o i pos) X.env v = (do
      let ov ← holding [v] (eval o X.env)
      let iv ← holding [v, ov] (eval i X.env)
      standAt pos
      holding [v, ov, iv] (setItem ov iv v)
      release [v, ov, iv] []) := by intro _; rfl) : PG X (.Subscript o i pos) (gSub to ti t) := by
  intro pins s σ H v u Q I r h
  rw [ha]
  refine wpAny_bind (wpAny_holding (thn (ho pins s σ H _ I h) fun ov s1 ⟨x, H1, I1, r1, q1⟩ => ?_))
  refine wpAny_bind (wpAny_holding (thn (hi pins s1 σ H1 _ I1 q1) fun iv s2 ⟨y, H2, I2, r2, q2⟩ => ?_))
  refine wpAny_bind (wpAny_standAt (wpAny_bind (wpAny_holding (thn (hs pins s2 σ H2 x y v ov iv u _ I2 r1 r2 r q2) fun _ s3 ⟨H3, I3, q3⟩ => ?_))))
  exact wpAny_release ⟨σ, H3, I3, q3⟩
def tAsg (te : TE) (g : TG) : TS := fun D σ H => te σ H fun x H1 => g x σ H1 D.nx
theorem ps_asg {tg e : Expr} {te : TE} {g : TG} (he : PE X e te) (hg : PG X tg g) (hs : swapsWithSole [tg] e pos.line X.env = pure false := by rfl) (hw : swappedStores [tg] e X.env = pure none := by rfl)
    (h1 : (assignEach [tg] X.env).map (·.2) = [assign tg X.env] := by rfl) : PS X (.Assign [tg] e pos) (tAsg te g) := by
  intro pins s σ H D I h
  refine wpAny_Assign_stores (thn (he pins s σ H _ I h) fun v s1 ⟨x, H1, I1, r1, q1⟩ => ?_) hs hw
  rw [h1]
  exact thn (hg pins s1 σ H1 x v _ I1 r1 q1) fun _ s2 q => q
theorem ps_set {i : Nat} {x : Str} {e : Expr} {te : TE} {pos' : Pos} (hN : X.N.Nodup) (hi : X.N[i]? = some x) (hx : Loc X.env.scope x) (he : PE X e te) (hs : swapsWith e (some (.Name x pos')) pos.line X.env = pure false := by rfl) (hf : X.fn x = true ∨ X.env.scope.names.lookup x = some .local := by first | exact .inl rfl | exact .inr rfl | assumption) :
    PS X (.Assign [.Name x pos'] e pos) (tAsg te (gName i)) := by
  intro pins s σ H D I h
  refine wpAny_Assign_Name (thn (he pins s σ H _ I h) fun v s1 ⟨y, H1, I1, r1, q1⟩ => ?_) hs
  exact store_ok I1 hN hi hx r1 (fun s2 I2 => ⟨_, H1, I2, q1⟩) hf
end
section
variable {X : Cx} {pos : Pos}
def tWhile (c : TT) (tb : TS) : TS := fun D σ H => ∃ W : Nat → St → Hp → Prop, (∃ m, W m σ H) ∧ ∀ m σ H, W m σ H →
  c σ H fun b H1 => if b = true then ∃ N : St → Hp → Prop, (∀ σ' H', N σ' H' → ∃ m', m' < m ∧ W m' σ' H') ∧ tb { D with nx := N, ct := N, bk := D.nx } σ H1 else D.nx σ H1
theorem ps_while {c : Expr} {body : List Stmt} {tc : TT} {tb : TS} (hp : PassesOwn (model X.prog X.w) X.A X.env X.xe) (hc : PT X c tc) (hb : PSs X body tb) : PS X (.While c body [] pos) (tWhile tc tb) := by
  intro pins s σ H D I h
  obtain ⟨W, ⟨m0, w0⟩, turn⟩ := h
  refine wpAny_While (codeAny_whileLoop (fun n s' => ∃ σ' H', Inv X pins σ' H' s' ∧ W n σ' H') ?_ m0 ⟨σ, H, I, w0⟩)
  rintro n s1 ⟨σ1, H1, I1, w1⟩
  refine wpAny_passesOwn hp (thn (hc pins s1 σ1 H1 _ I1 (turn n σ1 H1 w1)) fun b s2 ⟨H2, I2, q2⟩ => ?_)
  cases b with
  | true =>
    obtain ⟨N, hN, q2⟩ := q2
    rw [if_pos rfl]
    refine wpAny_passesOwn hp (thn (hb pins s2 σ1 H2 _ I2 q2) fun f s3 q3 => ?_)
    cases f with
    | next =>
      obtain ⟨σ3, H3, I3, n3⟩ := q3
      obtain ⟨m', hm, w3⟩ := hN σ3 H3 n3
      exact ⟨m', hm, σ3, H3, I3, w3⟩
    | cont =>
      obtain ⟨σ3, H3, I3, n3⟩ := q3
      obtain ⟨m', hm, w3⟩ := hN σ3 H3 n3
      exact ⟨m', hm, σ3, H3, I3, w3⟩
    | brk => exact q3
    | ret v => exact q3
  | false =>
    rw [if_neg Bool.false_ne_true]
    exact wpAny_execs_nil ⟨σ1, H2, I2, q2⟩
end
structure It where
  go : Nat → Hp → Prop
  yld : Nat → Hp → V → Hp → Prop
  stop : Nat → Hp → Prop
def FpOk (X : Cx) (pins : List (Addr × Obj)) (H : Hp) (b : Addr) : Prop :=
  H b = none ∧ b ≠ X.env.locals ∧ b ∉ X.fs ∧ (b ∈ X.ex ∨ X.s₀.heap.objs.size ≤ b) ∧ (∀ x c, X.env.cells.lookup x = some c → c ≠ b) ∧ ∀ p ∈ X.pn ++ pins, p.1 ≠ b
theorem Inv.fpOk {X : Cx} {pins : List (Addr × Obj)} {σ : St} {H H' : Hp} {s : Shared} {b : Addr} (I : Inv X pins σ H s) (hb : s.heap.objs.size ≤ b) (hn : H' b = none) : FpOk X pins H' b := by
  refine ⟨hn, Nat.ne_of_gt (Nat.lt_of_lt_of_le I.lt hb), I.nofs hb, .inr (Nat.le_trans I.sz hb), fun x c e z => ?_, fun p hp z => ?_⟩
  · obtain ⟨v, q⟩ := I.cell x c e
    exact absurd (Nat.lt_of_lt_of_le q.lt (by rw [z]; exact hb)) (Nat.lt_irrefl _)
  · exact absurd (Nat.lt_of_lt_of_le (Heap.lt_size (I.pin p hp).1) (by rw [z]; exact hb)) (Nat.lt_irrefl _)
structure Turn (P : Program) (w : World) (K : PySem.W.Frag) (tg : Expr) (J : It) (fp : List Addr) (it : Addr) (tn : Nat → Heap → Prop) : Prop where
  mem : it ∈ fp
  obj : ∀ i h, tn i h → ∀ b ∈ fp, ∃ o, h.get? b = some o ∧ ∀ v, o.data ≠ .cell v
  keep : ∀ i h h', tn i h → (∀ b ∈ fp, ∀ o, h.get? b = some o → h'.get? b = some o) → tn i h'
  item : ∀ (X : Cx), X.prog = P → X.w = w → X.K = K → X.calm = true → ∀ (i : Nat) (pins : List (Addr × Obj)) (s : Shared) (σ : St) (H : Hp) (E : Value → Shared → Prop), Inv X pins σ H s → (∀ b ∈ fp, FpOk X pins H b) → tn i s.heap → J.go i H →
    wpAny (model P w) X.A (pyNext (.ref it)) (fun r s1 => ∃ u, r = some u ∧
      wpAny (model P w) X.A (letOwnedTupleGo tg (.ref it) u) (fun _ s2 => ∃ x H', Inv X pins σ H' s2 ∧ RelV x u ∧ J.yld i H x H' ∧ tn (i + 1) s2.heap ∧ ∀ b ∈ fp, H' b = none) E s1) E s
  done : ∀ (X : Cx), X.prog = P → X.w = w → X.K = K → X.calm = true → ∀ (i : Nat) (pins : List (Addr × Obj)) (s : Shared) (σ : St) (H : Hp) (E : Value → Shared → Prop), Inv X pins σ H s → (∀ b ∈ fp, FpOk X pins H b) → tn i s.heap → J.stop i H →
    wpAny (model P w) X.A (pyNext (.ref it)) (fun r s1 => r = none ∧ Inv X pins σ H s1) E s
  self : ∀ (A : Around) (i : Nat) (s : Shared) (Q : Value → Shared → Prop) (E : Value → Shared → Prop), tn i s.heap → Q (.ref it) s → wpAny (model P w) A (pyIter (.ref it)) Q E s
abbrev TI := St → Hp → (It → Hp → Prop) → Prop
def PIE (X : Cx) (pins : List (Addr × Obj)) (σ : St) (tg : Expr) (R : It → Hp → Prop) (itv : Value) (s2 : Shared) : Prop :=
  ∃ (it : Addr) (fp : List Addr) (tn : Nat → Heap → Prop) (J : It) (H' : Hp), itv = .ref it ∧ Inv X pins σ H' s2 ∧ Turn X.prog X.w X.K tg J fp it tn ∧ tn 0 s2.heap ∧ (∀ b ∈ fp, FpOk X pins H' b) ∧ R J H'
def PI (X : Cx) (tg iter : Expr) (wi : TI) : Prop :=
  ∀ (pins : List (Addr × Obj)) (s : Shared) (σ : St) (H : Hp) (R : It → Hp → Prop), Inv X pins σ H s → wi σ H R →
    wpAny (model X.prog X.w) X.A (eval iter X.env) (fun v s1 => wpAny (model X.prog X.w) X.A (pyIter v) (PIE X pins σ tg R) X.xe s1) X.xe s
theorem go_of {M : Model} {A : Around} {E : Value → Shared → Prop} {s : Shared} {tg : Expr} {it : Addr} {u : Value} {o : Obj} {n : String} {vs : Array Value} {Q : Unit → Shared → Prop} (ho : s.heap.get? it = some o) (hc : o.cls = .type n) (hd : o.data = .fields vs)
    (hn : ["enumerate", "zip", "dict_itemiterator", "dict_reverseitemiterator", "odict_iterator", "itertools.zip_longest", "itertools.pairwise"].contains n = false) (hQ : Q () s) : wpAny M A (letOwnedTupleGo tg (.ref it) u) Q E s := by
  unfold letOwnedTupleGo
  cases tg <;> first
    | exact wpAny_pure hQ
    | (cases u <;> first
        | exact wpAny_pure hQ
        | (refine wpAny_bind (wpAny_load ho ?_)
           rw [hc, hd]
           show wpAny M A (if (["enumerate", "zip", "dict_itemiterator", "dict_reverseitemiterator", "odict_iterator", "itertools.zip_longest", "itertools.pairwise"].contains n && vs[0]? == some (rawInt _)) = true then _ else _) Q E s
           rw [if_neg (by intro h; rw [hn, Bool.false_and] at h; cases h)]
           exact wpAny_pure hQ))
def Itl (K : PySem.W.Frag) (a : Addr) : It :=
  ⟨fun i H => ∃ xs x, SqL K H a xs ∧ xs[i]? = some x, fun i H x H' => H' = H ∧ ∀ xs, SqL K H a xs → xs[i]? = some x, fun i H => ∃ xs, SqL K H a xs ∧ xs.length ≤ i⟩
def Itr (lo : Int) (n : Nat) : It := ⟨fun i _ => i < n, fun i H x H' => H' = H ∧ x = .int (lo + i), fun i _ => n ≤ i⟩
theorem turn_list {P : Program} {w : World} {K : PySem.W.Frag} {tg : Expr} (a it : Addr) : Turn P w K tg (Itl K a) [it] it (fun i h => h.IsListIter it a i) where
  mem := by simp
  obj := fun i h st b hb => by
    have e : b = it := by simpa using hb
    subst e
    obtain ⟨o, e, c, d⟩ := st
    exact ⟨o, e, fun v z => by rw [d] at z; cases z⟩
  keep := fun i h h' st k => st.at fun o e => k it (by simp) o e
  item := by
    intro X hP hw hK hc i pins s σ H E I hf st hg
    subst hP hw hK
    obtain ⟨xs, x, hq, hx⟩ := hg
    obtain ⟨its, rv, p, hz⟩ := I.list hq
    obtain ⟨u, hu, ru⟩ := rv.get hx
    obtain ⟨f0, f1, f2, f3, f4, f5⟩ := hf it (by simp)
    refine wpAny_pyNext_list_item st p.isList (x := u) (by simpa using hu) fun h' st' sb => ?_
    have I1 : Inv X pins σ H { s with heap := h' } := I.turned (t' := s.toks) (fun b o hb e => (sb.2 b hb).trans e) f0 f1 f3 f4 f5
    obtain ⟨o, e, c, d⟩ := id st'
    exact ⟨u, rfl, go_of (s := { s with heap := h' }) e c d (by decide) ⟨x, H, I1, ru, ⟨rfl, fun ys hy => by rw [I.list_inj hy hq]; exact hx⟩, st', fun b hb => (hf b hb).1⟩⟩
  done := by
    intro X hP hw hK hc i pins s σ H E I hf st hg
    subst hP hw hK
    obtain ⟨xs, hq, hx⟩ := hg
    obtain ⟨its, rv, p, hz⟩ := I.list hq
    obtain ⟨f0, f1, f2, f3, f4, f5⟩ := hf it (by simp)
    have hl := rv.length
    exact wpAny_pyNext_list_end (I.ok.hd hc) st p.isList (by simp; omega) fun h' eb => ⟨rfl, I.turned (t' := s.toks) (fun b o hb e => eb b o hb e) f0 f1 f3 f4 f5⟩
  self := fun _ _ _ _ _ st h => wpAny_pyIter_listiter st h
theorem turn_range {P : Program} {w : World} {K : PySem.W.Frag} {tg : Expr} (it : Addr) (lo : Int) (n : Nat) : Turn P w K tg (Itr lo n) [it] it (fun i h => IsRangeIter h it (lo + (i : Nat) * 1) ((n : Int) - (i : Nat)) 1) where
  mem := by simp
  obj := fun i h st b hb => by
    have e : b = it := by simpa using hb
    subst e
    exact ⟨_, st, fun v z => by
      have z' : Data.fields _ = Data.cell v := z
      cases z'⟩
  keep := fun i h h' st k => k it (by simp) _ st
  item := by
    intro X hP hw hK hc i pins s σ H E I hf st hg
    subst hP hw hK
    obtain ⟨f0, f1, f2, f3, f4, f5⟩ := hf it (by simp)
    have W := Walks.range (prog := X.prog) (w := X.w) (I.ok.hd hc) it lo 1 n
    refine W.item i s _ _ hg st fun v h' tk hv st' kk => ?_
    obtain ⟨t, rfl⟩ := hv
    have I1 : Inv X pins σ H { s with heap := h', toks := tk } := I.turned (fun b o hb e => kk b o (by simpa using hb) e) f0 f1 f3 f4 f5
    refine ⟨_, rfl, go_of (s := { s with heap := h', toks := tk }) (n := "range_iterator") st' rfl rfl (by decide) ⟨.int (lo + i), H, I1, ⟨t, ?_⟩, ⟨rfl, rfl⟩, st', fun b hb => (hf b hb).1⟩⟩
    rw [Int.mul_one]
  done := by
    intro X hP hw hK hc i pins s σ H E I hf st hg
    subst hP hw hK
    obtain ⟨f0, f1, f2, f3, f4, f5⟩ := hf it (by simp)
    exact wpAny_pyNext_range_end (I.ok.hd hc) st (by have : n ≤ i := hg; omega) fun h' eb => ⟨rfl, I.turned (t' := s.toks) (fun b o hb e => eb b o hb e) f0 f1 f3 f4 f5⟩
  self := fun _ _ _ _ _ st h => wpAny_pyIter_rangeiter st h
end L2
namespace L2
open PySem PySem.Spec PyProof.Rows
section
variable {X : Cx} {tg : Expr}
def iList (K : PySem.W.Frag) (tl : TE) : TI := fun σ H R => tl σ H fun x H1 => ∃ a, x = .ref a ∧ (∃ xs, SqL K H1 a xs) ∧ R (Itl K a) H1
theorem pi_list {l : Expr} {tl : TE} (hl : PE X l tl) : PI X tg l (iList X.K tl) := by
  intro pins s σ H R I h
  refine thn (hl pins s σ H _ I h) fun v s1 ⟨x, H1, I1, r1, q1⟩ => ?_
  obtain ⟨a, e, ⟨xs, hq⟩, q⟩ := q1
  subst e
  cases r1
  obtain ⟨its, rv, p, hz⟩ := I1.list hq
  refine wpAny_pyIter_list p.isList ?_
  refine ⟨s1.heap.objs.size, [s1.heap.objs.size], _, _, H1, rfl, I1.kept (t' := s1.toks) fun b o e => Heap.get?_push_of_some _ e, turn_list a _, ⟨_, Heap.get?_push_size _ rfl, rfl, rfl⟩, fun b hb => ?_, q⟩
  have e : b = s1.heap.objs.size := by simpa using hb
  subst e
  exact I1.fpOk (Nat.le_refl _) (I1.hok.fresh (Nat.le_refl _))
theorem range_it {pins : List (Addr × Obj)} {σ : St} {H : Hp} {s : Shared} {R : It → Hp → Prop} {E : Value → Shared → Prop} {lo hi : Int} {t u v : Tok} {tk : Nat} (I : Inv X pins σ H s) (h1 : -(2 ^ 62) ≤ lo) (h2 : lo < 2 ^ 62) (h3 : -(2 ^ 62) ≤ hi) (h4 : hi < 2 ^ 62)
    (q : R (Itr lo (hi - lo).toNat) H) : wpAny (model X.prog X.w) X.A (pyIter (.ref s.heap.objs.size)) (PIE X pins σ tg R) E { s with heap := s.heap.push { cls := .type "range", data := .fields #[.int lo t, .int hi u, .int 1 v] }, toks := tk } := by
  refine wpAny_pyIter_range (IsRange.new ..) (small_one h1 h2 h3 h4) ?_
  have I1 : Inv X pins σ H { s with heap := s.heap.push { cls := .type "range", data := .fields #[.int lo t, .int hi u, .int 1 v] }, toks := tk } := I.kept fun b o e => Heap.get?_push_of_some _ e
  refine ⟨(s.heap.push { cls := .type "range", data := .fields #[.int lo t, .int hi u, .int 1 v] }).objs.size, [(s.heap.push { cls := .type "range", data := .fields #[.int lo t, .int hi u, .int 1 v] }).objs.size], _, _, H, rfl,
    I1.kept (t' := tk) fun b o e => Heap.get?_push_of_some _ e, turn_range _ lo (hi - lo).toNat, ?_, fun b hb => ?_, q⟩
  · have e1 : lo + ((0 : Nat) : Int) * 1 = lo := by simp
    have e2 : (((hi - lo).toNat : Nat) : Int) - ((0 : Nat) : Int) = Builtin.Range.rangeSize lo hi 1 := by rw [rangeSize_one]; split <;> omega
    show IsRangeIter _ _ (lo + ((0 : Nat) : Int) * 1) ((((hi - lo).toNat : Nat) : Int) - ((0 : Nat) : Int)) 1
    rw [e1, e2]
    exact Heap.get?_push_size _ rfl
  · have e : b = (s.heap.push { cls := .type "range", data := .fields #[.int lo t, .int hi u, .int 1 v] }).objs.size := by simpa using hb
    subst e
    exact I1.fpOk (Nat.le_refl _) (I1.hok.fresh (Nat.le_refl _))
def iRng1 (ta : TA) : TI := fun σ H R => ta σ H fun vs H1 => ∃ j : Int, vs = [.int j] ∧ -(2 ^ 62) ≤ j ∧ j < 2 ^ 62 ∧ R (Itr 0 j.toNat) H1
theorem pi_range1 {a : Expr} {ta : TA} {p pos : Pos} (hg : Gl X "range") (hm : X.mg "range" = none) (ha : PA X [a] ta) (hs : starEach [a] X.env = [(false, eval a X.env)] := by rfl) : PI X tg (.Call (.Name "range" p) [a] [] pos) (iRng1 ta) := by
  intro pins s σ H R I h
  refine Call_ (ld_blt I hg hm boot_range (PyProof.Rows.callWith_type1 (thn (ha pos pins s σ H _ I h) fun us s1 ⟨vs, H1, I1, r1, q1⟩ => ?_) hs rfl))
  obtain ⟨j, e, q1, q2, q⟩ := q1
  subst e
  cases r1 with
  | cons r rr =>
    cases rr
    obtain ⟨t, rfl⟩ := r
    exact call_range_1 (range_it I1 (by omega) (by omega) q1 q2 (by simpa using q))
def tFor (wi : TI) (g : TG) (tb : TS) : TS := fun D σ H => wi σ H fun J H1 => ∃ W : Nat → Nat → St → Hp → Prop, (∃ m, W 0 m σ H1) ∧ ∀ i m σ H, W i m σ H →
  (J.stop i H ∧ D.nx σ H) ∨ (J.go i H ∧ ∃ N : St → Hp → Prop, (∀ σ' H', N σ' H' → ∃ m', m' < m ∧ W (i + 1) m' σ' H') ∧ ∀ x H', J.yld i H x H' → g x σ H' fun σ2 H2 => tb { D with nx := N, ct := N, bk := D.nx } σ2 H2)
def pinsAt (fp : List Addr) (h : Heap) : List (Addr × Obj) := fp.filterMap fun b => (h.get? b).map fun o => (b, o)
theorem mem_pinsAt {fp : List Addr} {h : Heap} {b : Addr} {o : Obj} (hb : b ∈ fp) (e : h.get? b = some o) : (b, o) ∈ pinsAt fp h := List.mem_filterMap.mpr ⟨b, hb, by rw [e]; rfl⟩
theorem of_pinsAt {fp : List Addr} {h : Heap} {p : Addr × Obj} (hp : p ∈ pinsAt fp h) : p.1 ∈ fp ∧ h.get? p.1 = some p.2 := by
  obtain ⟨b, hb, e⟩ := List.mem_filterMap.mp hp
  cases q : h.get? b with
  | none => rw [q] at e; cases e
  | some o =>
    rw [q] at e
    have e' : (b, o) = p := Option.some.inj e
    subst e'
    exact ⟨hb, q⟩
theorem Inv.pinned {pins : List (Addr × Obj)} {σ : St} {H : Hp} {s : Shared} {fp : List Addr} (I : Inv X pins σ H s) (hf : ∀ b ∈ fp, FpOk X pins H b) (ho : ∀ b ∈ fp, ∃ o, s.heap.get? b = some o ∧ ∀ v, o.data ≠ .cell v) : Inv X (pins ++ pinsAt fp s.heap) σ H s :=
  I.pins_of fun p hp => (List.mem_append.mp hp).elim (fun z => I.pin p (List.mem_append_right _ z)) fun z => by
    obtain ⟨hb, e⟩ := of_pinsAt z
    obtain ⟨f0, f1, f2, _⟩ := hf p.1 hb
    obtain ⟨o, e', d⟩ := ho p.1 hb
    rw [e] at e'; cases e'
    exact ⟨e, f0, f1, f2, d⟩
theorem Inv.unpinned {pins pl : List (Addr × Obj)} {σ : St} {H : Hp} {s : Shared} (I : Inv X (pins ++ pl) σ H s) : Inv X pins σ H s := I.pins_of fun p hp => I.pin p (List.mem_append_right _ (List.mem_append_left _ hp))
theorem ps_for {iter : Expr} {body : List Stmt} {wi : TI} {g : TG} {tb : TS} {pos : Pos} (hp : PassesOwn (model X.prog X.w) X.A X.env X.xe) (hc : X.calm = true) (hi : PI X tg iter wi) (hg : PG X tg g) (hb : PSs X body tb)
    (hs : ∀ x, foldedSetIterable iter X.env x = pure x := by intro _; rfl) : PS X (.For tg iter body [] pos) (tFor wi g tb) := by
  intro pins s σ H D I h
  refine wpAny_For (thn (hi pins s σ H _ I h) fun v s1 h1 => thn h1 fun itv s2 h2 => ?_) hs
  obtain ⟨it, fp, tn, J, H2, e, I2, T, st2, f2, W, ⟨m0, w0⟩, turn⟩ := h2
  subst e
  have stat : ∀ {H' : Hp}, (∀ b ∈ fp, H' b = none) → ∀ b ∈ fp, FpOk X pins H' b := fun hn b hb => ⟨hn b hb, (f2 b hb).2⟩
  refine codeAny_forLoop_any (fun n s' => ∃ i σ' H', Inv X pins σ' H' s' ∧ tn i s'.heap ∧ (∀ b ∈ fp, H' b = none) ∧ W i n σ' H') ?_ m0 ⟨0, σ, H2, I2, st2, fun b hb => (f2 b hb).1, w0⟩
  rintro n s3 ⟨i, σ3, H3, I3, st3, fr3, w3⟩
  rcases turn i n σ3 H3 w3 with ⟨stop, qn⟩ | ⟨go, N, hN, step⟩
  · refine wpAny_passesOwn hp (thn (T.done X rfl rfl rfl hc i pins s3 σ3 H3 X.xe I3 (stat fr3) st3 stop) fun r s4 ⟨hr, I4⟩ => ?_)
    subst hr
    exact wpAny_execs_nil ⟨σ3, H3, I4, qn⟩
  · refine wpAny_passesOwn hp (thn (T.item X rfl rfl rfl hc i pins s3 σ3 H3 X.xe I3 (stat fr3) st3 go) fun r s4 ⟨u, hr, h4⟩ => ?_)
    subst hr
    refine wpAny_passesOwn hp (thn h4 fun _ s5 ⟨x, H5, I5, r5, y5, st5, fr5⟩ => ?_)
    have I5' := I5.pinned (stat fr5) (T.obj _ _ st5)
    refine wpAny_passesOwn hp (thn (hg _ s5 σ3 H5 x u _ I5' r5 (step x H5 y5)) fun _ s6 ⟨σ6, H6, I6, q6⟩ => ?_)
    refine wpAny_passesOwn hp (thn (hb _ s6 σ6 H6 _ I6 q6) fun f s7 q7 => ?_)
    have again : ∀ {σ7 : St} {H7 : Hp}, Inv X (pins ++ pinsAt fp s5.heap) σ7 H7 s7 → N σ7 H7 → ∃ m, m < n ∧ ∃ i σ' H', Inv X pins σ' H' s7 ∧ tn i s7.heap ∧ (∀ b ∈ fp, H' b = none) ∧ W i m σ' H' := fun {σ7 H7} I7 n7 => by
      obtain ⟨m', hm, w7⟩ := hN σ7 H7 n7
      refine ⟨m', hm, i + 1, σ7, H7, I7.unpinned, T.keep _ _ _ st5 fun b hb o e => (I7.pin (b, o) (List.mem_append_right _ (List.mem_append_right _ (mem_pinsAt hb e)))).1, fun b hb => ?_, w7⟩
      obtain ⟨o, e, d⟩ := T.obj _ _ st5 b hb
      exact (I7.pin (b, o) (List.mem_append_right _ (List.mem_append_right _ (mem_pinsAt hb e)))).2.1
    cases f with
    | next => obtain ⟨σ7, H7, I7, n7⟩ := q7; exact again I7 n7
    | cont => obtain ⟨σ7, H7, I7, n7⟩ := q7; exact again I7 n7
    | brk => obtain ⟨σ7, H7, I7, q7⟩ := q7; exact ⟨σ7, H7, I7.unpinned, q7⟩
    | ret v => obtain ⟨x7, σ7, H7, I7, r7, q7⟩ := q7; exact ⟨x7, σ7, H7, I7.unpinned, r7, q7⟩
end
theorem for_list {K : PySem.W.Frag} {a : Addr} {xs : List V} {g : TG} {tb : TS} {D : Ends} {σ : St} {H : Hp} (Pv : Nat → St → Hp → Prop) (h0 : Pv 0 σ H) (hl : ∀ i σ H, i ≤ xs.length → Pv i σ H → SqL K H a xs)
    (hs : ∀ i x σ H, xs[i]? = some x → Pv i σ H → g x σ H fun σ2 H2 => tb { D with nx := Pv (i + 1), ct := Pv (i + 1), bk := D.nx } σ2 H2) (hd : ∀ σ H, Pv xs.length σ H → D.nx σ H) :
    ∃ W : Nat → Nat → St → Hp → Prop, (∃ m, W 0 m σ H) ∧ ∀ i m σ H, W i m σ H →
      ((Itl K a).stop i H ∧ D.nx σ H) ∨ ((Itl K a).go i H ∧ ∃ N : St → Hp → Prop, (∀ σ' H', N σ' H' → ∃ m', m' < m ∧ W (i + 1) m' σ' H') ∧ ∀ x H', (Itl K a).yld i H x H' → g x σ H' fun σ2 H2 => tb { D with nx := N, ct := N, bk := D.nx } σ2 H2) := by
  refine ⟨fun i m σ H => m = xs.length - i ∧ i ≤ xs.length ∧ Pv i σ H, ⟨xs.length, by simp, Nat.zero_le _, h0⟩, ?_⟩
  rintro i m σ H ⟨rfl, hi, p⟩
  have q := hl i σ H hi p
  by_cases hlt : i < xs.length
  · refine .inr ⟨⟨xs, xs[i], q, by simp [hlt]⟩, Pv (i + 1), fun σ' H' p' => ⟨xs.length - (i + 1), by omega, rfl, hlt, p'⟩, fun x H' y => ?_⟩
    obtain ⟨e, y⟩ := y
    subst e
    exact hs i x σ _ (y xs q) p
  · have e : i = xs.length := by omega
    subst e
    exact .inl ⟨⟨xs, q, Nat.le_refl _⟩, hd σ H p⟩
theorem for_range {lo : Int} {n : Nat} {g : TG} {tb : TS} {D : Ends} {σ : St} {H : Hp} (Pv : Nat → St → Hp → Prop) (h0 : Pv 0 σ H)
    (hs : ∀ i σ H, i < n → Pv i σ H → g (.int (lo + i)) σ H fun σ2 H2 => tb { D with nx := Pv (i + 1), ct := Pv (i + 1), bk := D.nx } σ2 H2) (hd : ∀ σ H, Pv n σ H → D.nx σ H) :
    ∃ W : Nat → Nat → St → Hp → Prop, (∃ m, W 0 m σ H) ∧ ∀ i m σ H, W i m σ H →
      ((Itr lo n).stop i H ∧ D.nx σ H) ∨ ((Itr lo n).go i H ∧ ∃ N : St → Hp → Prop, (∀ σ' H', N σ' H' → ∃ m', m' < m ∧ W (i + 1) m' σ' H') ∧ ∀ x H', (Itr lo n).yld i H x H' → g x σ H' fun σ2 H2 => tb { D with nx := N, ct := N, bk := D.nx } σ2 H2) := by
  refine ⟨fun i m σ H => m = n - i ∧ i ≤ n ∧ Pv i σ H, ⟨n, by simp, Nat.zero_le _, h0⟩, ?_⟩
  rintro i m σ H ⟨rfl, hi, p⟩
  by_cases hlt : i < n
  · refine .inr ⟨hlt, Pv (i + 1), fun σ' H' p' => ⟨n - (i + 1), by omega, rfl, hlt, p'⟩, fun x H' y => ?_⟩
    obtain ⟨e, y⟩ := y
    subst e y
    exact hs i σ _ hlt p
  · have e : i = n := by omega
    subst e
    exact .inl ⟨Nat.le_refl _, hd σ H p⟩
end L2
namespace L2
open PySem PySem.Spec PyProof.Rows
abbrev R2 := V → V → Hp → VK → Prop
def OpR (X : Cx) (f : Value → Value → Sem Value) (r : R2) : Prop :=
  ∀ (pins : List (Addr × Obj)) (s : Shared) (σ : St) (H : Hp) (x y : V) (v u : Value) (Q : VK), Inv X pins σ H s → RelV x v → RelV y u → r x y H Q →
    wpAny (model X.prog X.w) X.A (f v u) (EP X pins σ Q) X.xe s
def CallR (X : Cx) (f : Value) (r : List V → Hp → VK → Prop) : Prop :=
  ∀ (pins : List (Addr × Obj)) (s : Shared) (σ : St) (H : Hp) (xs : List V) (us : List Value) (Q : VK), Inv X pins σ H s → Vals xs us → r xs H Q →
    wpAny (model X.prog X.w) X.A (call f us) (EP X pins σ Q) X.xe s
def tOp (r : R2) (ta tb : TE) : TE := fun σ H Q => ta σ H fun x H1 => tb σ H1 fun y H2 => r x y H2 Q
def rI (C : Int → Int → Prop) (g : Int → Int → V) : R2 := fun x y H Q => ∃ i j, x = .int i ∧ y = .int j ∧ C i j ∧ Q (g i j) H
def rI0 (g : Int → Int → V) : R2 := fun x y H Q => ∃ i j, x = .int i ∧ y = .int j ∧ Q (g i j) H
section
variable {X : Cx} {a b c : Expr} {ta tb tc : TE} {pos : Pos}
theorem binT (ha : PE X a ta) (hb : PE X b tb) {pins : List (Addr × Obj)} {s : Shared} {σ : St} {H : Hp} {R : V → V → Hp → Prop} (I : Inv X pins σ H s)
    (h : ta σ H fun x H1 => tb σ H1 fun y H2 => R x y H2) {Q : Value → Shared → Prop} {f : Value → Value → Sem Value}
    (hf : ∀ v u s2 x y H2, Inv X pins σ H2 s2 → RelV x v → RelV y u → R x y H2 → wpAny (model X.prog X.w) X.A (f v u) Q X.xe s2) :
    wpAny (model X.prog X.w) X.A (eval a X.env) (fun v s₁ => wpAny (model X.prog X.w) X.A (eval b X.env) (fun u s₂ => wpAny (model X.prog X.w) X.A (f v u) Q X.xe s₂) X.xe s₁) X.xe s := by
  refine thn (ha pins s σ H _ I h) fun v s1 ⟨x, H1, I1, r1, q1⟩ => ?_
  refine thn (hb pins s1 σ H1 _ I1 q1) fun u s2 ⟨y, H2, I2, r2, q2⟩ => ?_
  exact hf v u s2 x y H2 I2 r1 r2 q2
theorem pe_op {op : Operator} {r : R2} (ho : OpR X (binaryOp op) r) (ha : PE X a ta) (hb : PE X b tb) : PE X (.BinOp a op b pos) (tOp r ta tb) := by
  intro pins s σ H Q I h
  exact wpAny_BinOp (binT ha hb I h fun v u s2 x y H2 I2 rx ry q => ho pins s2 σ H2 x y v u Q I2 rx ry q)
theorem opI {f : Value → Value → Sem Value} {C : Int → Int → Prop} {g : Int → Int → Int}
    (rule : ∀ (i j : Int) (t u : Tok) (s : Shared) (Q : Value → Shared → Prop) (E : Value → Shared → Prop), C i j → Q (.int (g i j) s.toks) { s with toks := s.toks + 1 } → wpAny (model X.prog X.w) X.A (f (.int i t) (.int j u)) Q E s) :
    OpR X f (rI C fun i j => .int (g i j)) := by
  intro pins s σ H x y v u Q I rx ry h
  obtain ⟨i, j, rfl, rfl, hc, q⟩ := h
  obtain ⟨t, rfl⟩ := rx
  obtain ⟨t', rfl⟩ := ry
  exact rule i j t t' s _ _ hc ⟨.int (g i j), H, I.tok _, ⟨_, rfl⟩, q⟩
theorem opI0 {f : Value → Value → Sem Value} {g : Int → Int → Int}
    (rule : ∀ (i j : Int) (t u : Tok) (s : Shared) (Q : Value → Shared → Prop) (E : Value → Shared → Prop), Q (.int (g i j) s.toks) { s with toks := s.toks + 1 } → wpAny (model X.prog X.w) X.A (f (.int i t) (.int j u)) Q E s) :
    OpR X f (rI0 fun i j => .int (g i j)) := by
  intro pins s σ H x y v u Q I rx ry h
  obtain ⟨i, j, rfl, rfl, q⟩ := h
  obtain ⟨t, rfl⟩ := rx
  obtain ⟨t', rfl⟩ := ry
  exact rule i j t t' s _ _ ⟨.int (g i j), H, I.tok _, ⟨_, rfl⟩, q⟩
theorem opB0 {f : Value → Value → Sem Value} {g : Int → Int → Bool}
    (rule : ∀ (i j : Int) (t u : Tok) (s : Shared) (Q : Value → Shared → Prop) (E : Value → Shared → Prop), Q (.bool (g i j)) s → wpAny (model X.prog X.w) X.A (f (.int i t) (.int j u)) Q E s) :
    OpR X f (rI0 fun i j => .bl (g i j)) := by
  intro pins s σ H x y v u Q I rx ry h
  obtain ⟨i, j, rfl, rfl, q⟩ := h
  obtain ⟨t, rfl⟩ := rx
  obtain ⟨t', rfl⟩ := ry
  exact rule i j t t' s _ _ ⟨.bl (g i j), H, I, rfl, q⟩
def CPow (i j : Int) : Prop := 0 ≤ j ∧ j ≤ 1000000 ∧ i.natAbs < 2 ^ 64
def CMul (i j : Int) : Prop := (-(2 ^ 64) < i ∧ i < 2 ^ 64) ∨ (-(2 ^ 64) < j ∧ j < 2 ^ 64)
theorem CMul.ok {i j : Int} (h : CMul i j) : IntMulOk i j := by
  rcases h with ⟨h1, h2⟩ | ⟨h1, h2⟩
  · exact .of_left (intBits_le_64 h1 h2)
  · exact .of_right (intBits_le_64 h1 h2)
theorem op_add : OpR X (binaryOp .Add) (rI0 fun i j => .int (i + j)) := opI0 fun _ _ _ _ _ _ _ q => add_int q
theorem op_sub : OpR X (binaryOp .Sub) (rI0 fun i j => .int (i - j)) := opI0 fun _ _ _ _ _ _ _ q => sub_int q
theorem op_mul : OpR X (binaryOp .Mult) (rI CMul fun i j => .int (i * j)) := opI fun _ _ _ _ _ _ _ hc q => mul_int q hc.ok
theorem op_mod : OpR X (binaryOp .Mod) (rI (fun _ j => 0 < j) fun i j => .int (i % j)) := opI fun i j _ _ _ _ _ hc q => by
  have h1 : (0 : Int) < j := hc
  exact mod_int' (by omega) (by rw [Int.fmod_eq_emod_of_nonneg i (by omega)]; exact q)
theorem op_pow : OpR X (binaryOp .Pow) (rI CPow fun i j => .int (i ^ j.toNat)) := opI fun _ _ _ _ _ _ _ hc q => pow_int_small hc.1 hc.2.1 hc.2.2 q
end
def scal : V → V → Bool
  | .non, .non => true | .non, .int _ => true | .int _, .non => true | .non, .bl _ => true | .bl _, .non => true | .non, .str _ => true | .str _, .non => true
  | .int _, .int _ => true | .bl _, .bl _ => true | .str _, .str _ => true | .byt _, .byt _ => true
  | .int _, .str _ => true | .str _, .int _ => true | .bl _, .str _ => true | .str _, .bl _ => true
  | _, _ => false
def rEq : R2 := fun x y H Q => scal x y = true ∧ Q (.bl (decide (x = y))) H
def rNe : R2 := fun x y H Q => scal x y = true ∧ Q (.bl (!decide (x = y))) H
theorem dec_int {i j : Int} : decide (V.int i = V.int j) = (i == j) := by
  rw [Bool.eq_iff_iff]
  simp
theorem dec_bl {i j : Bool} : decide (V.bl i = V.bl j) = (i == j) := by
  rw [Bool.eq_iff_iff]
  simp
theorem dec_str {i j : Str} : decide (V.str i = V.str j) = (i == j) := by
  rw [Bool.eq_iff_iff]
  simp
theorem dec_byt {i j : Array UInt8} : decide (V.byt i = V.byt j) = (i.toList == j.toList) := by
  rw [Bool.eq_iff_iff]
  cases i
  cases j
  simp
section
variable {X : Cx} {a b c : Expr} {ta tb tc : TE} {pos : Pos}
theorem fin_bl {pins : List (Addr × Obj)} {σ : St} {H : Hp} {s : Shared} {Q : VK} {k k' : Bool} (I : Inv X pins σ H s) (q : Q (.bl k) H) (e : k = k') : EP X pins σ Q (.bool k') s := by
  subst e
  exact ⟨.bl k, H, I, rfl, q⟩
theorem op_eq : OpR X (compareOp .Eq) rEq := by
  intro pins s σ H x y v u Q I rx ry h
  obtain ⟨hs, q⟩ := h
  cases x with
  | non =>
    cases rx
    cases y with
    | non => cases ry; exact PySem.EqNone.eq_none_none (fin_bl I q (by simp))
    | bl j => cases ry; exact PySem.EqNone.eq_none_bool (fin_bl I q (by simp))
    | int j => obtain ⟨t', rfl⟩ := ry; exact PySem.EqNone.eq_none_int (fin_bl I q (by simp))
    | str j => obtain ⟨t', rfl⟩ := ry; exact PySem.EqNone.eq_none_str (fin_bl I q (by simp))
    | _ => exact absurd (show false = true from hs) Bool.false_ne_true
  | bl i =>
    cases rx
    cases y with
    | non => cases ry; exact PySem.EqNone.eq_bool_none (fin_bl I q (by simp))
    | bl j => cases ry; exact eq_bool (fin_bl I q dec_bl)
    | str j => obtain ⟨t', rfl⟩ := ry; exact PySem.EqMixed.eq_bool_str (fin_bl I q (by simp))
    | _ => exact absurd (show false = true from hs) Bool.false_ne_true
  | int i =>
    obtain ⟨t, rfl⟩ := rx
    cases y with
    | non => cases ry; exact PySem.EqNone.eq_int_none (fin_bl I q (by simp))
    | int j => obtain ⟨t', rfl⟩ := ry; exact eq_int (fin_bl I q dec_int)
    | str j => obtain ⟨t', rfl⟩ := ry; exact PySem.EqMixed.eq_int_str (fin_bl I q (by simp))
    | _ => exact absurd (show false = true from hs) Bool.false_ne_true
  | str i =>
    obtain ⟨t, rfl⟩ := rx
    cases y with
    | non => cases ry; exact PySem.EqNone.eq_str_none (fin_bl I q (by simp))
    | bl j => cases ry; exact PySem.EqMixed.eq_str_bool (fin_bl I q (by simp))
    | int j => obtain ⟨t', rfl⟩ := ry; exact PySem.EqMixed.eq_str_int (fin_bl I q (by simp))
    | str j => obtain ⟨t', rfl⟩ := ry; exact eq_str (fin_bl I q dec_str)
    | _ => exact absurd (show false = true from hs) Bool.false_ne_true
  | byt i =>
    obtain ⟨t, rfl⟩ := rx
    cases y with
    | byt j => obtain ⟨t', rfl⟩ := ry; exact PySem.W.eq_bytes (fin_bl I q dec_byt)
    | _ => exact absurd (show false = true from hs) Bool.false_ne_true
  | _ => cases y <;> exact absurd (show false = true from hs) Bool.false_ne_true
theorem op_ne : OpR X (compareOp .NotEq) rNe := by
  intro pins s σ H x y v u Q I rx ry h
  obtain ⟨hs, q⟩ := h
  cases x with
  | non =>
    cases rx
    cases y with
    | non => cases ry; exact PySem.EqNone.ne_none_none (fin_bl I q (by simp))
    | bl j => cases ry; exact PySem.EqNone.ne_none_bool (fin_bl I q (by simp))
    | int j => obtain ⟨t', rfl⟩ := ry; exact PySem.EqNone.ne_none_int (fin_bl I q (by simp))
    | str j => obtain ⟨t', rfl⟩ := ry; exact PySem.EqNone.ne_none_str (fin_bl I q (by simp))
    | _ => exact absurd (show false = true from hs) Bool.false_ne_true
  | bl i =>
    cases rx
    cases y with
    | non => cases ry; exact PySem.EqNone.ne_bool_none (fin_bl I q (by simp))
    | bl j => cases ry; exact ne_bool (fin_bl I q (congrArg not dec_bl))
    | str j => obtain ⟨t', rfl⟩ := ry; exact PySem.EqMixed.ne_bool_str (fin_bl I q (by simp))
    | _ => exact absurd (show false = true from hs) Bool.false_ne_true
  | int i =>
    obtain ⟨t, rfl⟩ := rx
    cases y with
    | non => cases ry; exact PySem.EqNone.ne_int_none (fin_bl I q (by simp))
    | int j => obtain ⟨t', rfl⟩ := ry; exact ne_int (fin_bl I q (congrArg not dec_int))
    | str j => obtain ⟨t', rfl⟩ := ry; exact PySem.EqMixed.ne_int_str (fin_bl I q (by simp))
    | _ => exact absurd (show false = true from hs) Bool.false_ne_true
  | str i =>
    obtain ⟨t, rfl⟩ := rx
    cases y with
    | non => cases ry; exact PySem.EqNone.ne_str_none (fin_bl I q (by simp))
    | bl j => cases ry; exact PySem.EqMixed.ne_str_bool (fin_bl I q (by simp))
    | int j => obtain ⟨t', rfl⟩ := ry; exact PySem.EqMixed.ne_str_int (fin_bl I q (by simp))
    | str j => obtain ⟨t', rfl⟩ := ry; exact ne_str (fin_bl I q (congrArg not dec_str))
    | _ => exact absurd (show false = true from hs) Bool.false_ne_true
  | byt i =>
    obtain ⟨t, rfl⟩ := rx
    cases y with
    | byt j => obtain ⟨t', rfl⟩ := ry; exact PySem.W.ne_bytes (fin_bl I q (congrArg not dec_byt))
    | _ => exact absurd (show false = true from hs) Bool.false_ne_true
  | _ => cases y <;> exact absurd (show false = true from hs) Bool.false_ne_true
theorem op_lt : OpR X (compareOp .Lt) (rI0 fun i j => .bl (decide (i < j))) := opB0 fun _ _ _ _ _ _ _ q => lt_int q
theorem op_gt : OpR X (compareOp .Gt) (rI0 fun i j => .bl (decide (j < i))) := opB0 fun _ _ _ _ _ _ _ q => gt_int q
theorem op_isN : OpR X (compareOp .Is) (fun x y H Q => y = .non ∧ Q (.bl (decide (x = .non))) H) := by
  intro pins s σ H x y v u Q I rx ry h
  obtain ⟨rfl, q⟩ := h
  cases ry
  refine is_none_gen (fin_bl I q ?_)
  cases x <;> first
    | (cases rx; rfl)
    | (obtain ⟨t, rfl⟩ := rx; rfl)
theorem nomark (b : Expr) {op : CmpOp} (h : op ≠ .In := by decide) (h2 : op ≠ .NotIn := by decide) : behindInMarks op b = false := by
  have e1 : (op == CmpOp.In) = false := by cases op <;> first | rfl | exact absurd rfl h
  have e2 : (op == CmpOp.NotIn) = false := by cases op <;> first | rfl | exact absurd rfl h2
  cases b <;> simp [behindInMarks, e1, e2]
theorem pe_cmpR {op : CmpOp} {r : R2} (ho : OpR X (compareOp op) r) (ha : PE X a ta) (hb : PE X b tb) (hm : behindInMarks op b = false) : PE X (.Compare a [op] [b] pos) (tOp r ta tb) := by
  intro pins s σ H Q I h
  exact wpAny_Compare1 (binT ha hb I h fun v u s2 x y H2 I2 rx ry q => ho pins s2 σ H2 x y v u Q I2 rx ry q) hm
def tTest (t : TE) : TT := fun σ H Q => t σ H fun x H' => ∃ k, x = .bl k ∧ Q k H'
theorem pt_cmpR {op : CmpOp} {r : R2} (ho : OpR X (compareOp op) r) (ha : PE X a ta) (hb : PE X b tb) (hm : behindInMarks op b = false) : PT X (.Compare a [op] [b] pos) (tTest (tOp r ta tb)) := by
  intro pins s σ H Q I h
  refine wpAny_isTrue_Compare1 (thn (ha pins s σ H _ I h) fun v s1 ⟨x, H1, I1, r1, q1⟩ => thn (hb pins s1 σ H1 _ I1 q1) fun u s2 ⟨y, H2, I2, r2, q2⟩ =>
    thn (ho pins s2 σ H2 x y v u _ I2 r1 r2 q2) fun c s3 ⟨z, H3, I3, r3, k, e, q3⟩ => ?_) hm
  subst e
  cases r3
  exact wpAny_truthy_bool ⟨H3, I3, q3⟩
theorem line63 : (sizeLine : Nat) < 2 ^ 63 := by rw [sizeLine_eq]; decide
theorem vals1 {x : V} {us : List Value} (r : Vals [x] us) : ∃ u, us = [u] ∧ RelV x u := by
  cases r with
  | cons r1 r2 => cases r2; exact ⟨_, rfl, r1⟩
theorem vals2 {x y : V} {us : List Value} (r : Vals [x, y] us) : ∃ u w', us = [u, w'] ∧ RelV x u ∧ RelV y w' := by
  cases r with
  | cons r1 r2 =>
    cases r2 with
    | cons r3 r4 => cases r4; exact ⟨_, _, rfl, r1, r3⟩
def LenV (K : PySem.W.Frag) (x : V) (H : Hp) (n : Nat) : Prop :=
  match x with
  | .str y => y.length ≤ sizeLine ∧ n = y.length
  | .byt y => y.size ≤ sizeLine ∧ n = y.size
  | .ref p => (∃ xs, SqL K H p xs ∧ n = xs.length) ∨ ∃ xs, SqT K H p xs ∧ n = xs.length
  | _ => False
theorem call_len : CallR X (.builtin "len") (fun xs H Q => ∃ x n, xs = [x] ∧ LenV X.K x H n ∧ Q (.int n) H) := by
  intro pins s σ H xs us Q I r h
  obtain ⟨x, n, rfl, e, q⟩ := h
  obtain ⟨u, rfl, rx⟩ := vals1 r
  have hl := line63
  have hs : sizeLine = 16777216 := sizeLine_eq
  cases x with
  | str y =>
    obtain ⟨t, rfl⟩ := rx
    obtain ⟨hy, e'⟩ : y.length ≤ sizeLine ∧ n = y.length := e
    subst e'
    exact len_str (by omega) ⟨.int _, H, I.tok _, ⟨_, rfl⟩, q⟩
  | byt y =>
    obtain ⟨t, rfl⟩ := rx
    obtain ⟨hy, e'⟩ : y.size ≤ sizeLine ∧ n = y.size := e
    subst e'
    exact PySem.W.len_bytes (by omega) ⟨.int _, H, I.tok _, ⟨_, rfl⟩, q⟩
  | ref p =>
    cases rx
    have e' : (∃ xs, SqL X.K H p xs ∧ n = xs.length) ∨ ∃ xs, SqT X.K H p xs ∧ n = xs.length := e
    rcases e' with ⟨xs, hx, e'⟩ | ⟨xs, hx, e'⟩
    · subst e'
      obtain ⟨its, r', pl, hz⟩ := I.list hx
      have hlen := r'.length
      exact Calls.call_len_list pl.isList (by simp only [List.size_toArray]; omega) ⟨.int xs.length, H, I.tok _, ⟨_, by simp only [List.size_toArray]; rw [hlen]⟩, q⟩
    · subst e'
      obtain ⟨its, r', pl, hz⟩ := I.tuple hx
      have hlen := r'.length
      exact len_tuple pl (by simp only [List.size_toArray]; omega) ⟨.int xs.length, H, I.tok _, ⟨_, by simp only [List.size_toArray]; rw [hlen]⟩, q⟩
  | _ => exact (show False from e).elim
end
end L2
namespace L2
open PySem PySem.Spec PyProof.Rows
structure ObjM (h : Heap) (x dx C : Addr) (mA : Str → Option Value) : Prop where
  obj : h.get? x = some (PySem.W.instObj C dx)
  ns : h.Ns1 dx mA
  ne : dx ≠ x
theorem lookIn_ns {h : Heap} {dx : Addr} {mA : Str → Option Value} (n : h.Ns1 dx mA) : ∃ od, h.get? dx = some od ∧ ∀ name, PySem.W.lookIn name od = some (mA name) := by
  obtain ⟨o, es, ep, ho, hd, hk, _, hm⟩ := n
  refine ⟨o, ho, fun name => ?_⟩
  have e := hm name
  unfold nsFind findBy at e
  rw [← Array.find?_toList] at e
  unfold PySem.W.lookIn
  rw [hd]
  dsimp only
  split
  · rename_i y q
    rw [q] at e
    exact congrArg some e
  · rename_i q
    rw [q] at e
    have a : es.toList.any (·.refKey) = false := by
      rw [List.any_eq_false]
      intro y hy
      obtain ⟨z, t, hkey⟩ := hk y (Array.mem_toList_iff.mp hy)
      simp [DictEntry.refKey, hkey]
    have a' : ¬ es.toList.any (·.refKey) = true := by rw [a]; exact Bool.false_ne_true
    rw [if_neg a']
    exact congrArg some e
theorem ObjM.look {h : Heap} {x dx C : Addr} {mA : Str → Option Value} (I : ObjM h x dx C mA) : ∃ od, PySem.W.InstAt h x (PySem.W.instObj C dx) C (some od) ∧ ∀ name, PySem.W.lookIn name od = some (mA name) :=
  let ⟨od, ho, hl⟩ := lookIn_ns I.ns
  ⟨od, ⟨I.obj, rfl, rfl, ho⟩, hl⟩
section
variable {prog : Program} {w : World} {A : Around} {E : Value → Shared → Prop} {s : Shared} {K : PySem.W.Frag} {x dx C f : Addr} {mA : Str → Option Value} {name : Str} {v : Value}
theorem get_map {expr : Bool} {Q : Value → Shared → Prop} (X : K.In s.heap) (I : ObjM s.heap x dx C mA) (hg : PySem.W.plainGet K C name = true) (hh : PySem.W.hasDictIn K C = true)
    (ha : PySem.W.findIn K (.ref C) name = some none) (hv : mA name = some v) (hv' : PySem.W.handedIn v = true) (h : Q v { s with toks := s.toks + 1 }) :
    wpAny (model prog w) A (getAttr (.ref x) name expr) Q E s := by
  obtain ⟨od, J, hl⟩ := I.look
  exact PySem.W.get_value X J (PySem.W.plainGet_of hg).1 (PySem.W.findObj_own hh ha rfl (by rw [hl, hv])) hv' h
theorem get_meth {pl : Sem Bool} {Q : Value × List Value → Shared → Prop} (X : K.In s.heap) (I : ObjM s.heap x dx C mA) (hg : PySem.W.plainGet K C name = true)
    (hf : PySem.W.findIn K (.ref C) name = some (some (.ref f))) (ht : PySem.W.isFn K (.ref f) = true) (hv : mA name = none) (h : Q (.ref f, [.ref x]) s) :
    wpAny (model prog w) A (getMethod (.ref x) name pl) Q E s := by
  obtain ⟨od, J, hl⟩ := I.look
  exact PySem.W.method_fn X J (PySem.W.plainGet_of hg).1 (PySem.W.plainGet_of hg).2 hf (beq_iff_eq.mp ht) (by show (PySem.W.lookIn name od).map (·.isSome) = some false; rw [hl, hv]; rfl) h
theorem set_map {ns : List Str} {Q : Unit → Shared → Prop} (X : K.In s.heap) (I : ObjM s.heap x dx C mA)
    (hs : PySem.W.findIn K (.ref C) "__setattr__" = some (some (.builtin "object.__setattr__"))) (hp : PySem.W.plainOver K C = true) (ht : PySem.W.takerIn K C name = some none) (hh : PySem.W.hasDictIn K C = true)
    (hw : PySem.Within mA ns) (hsz : ns.length ≤ sizeLine)
    (h : ∀ h', ObjM h' x dx C (fun y => if y = name then some v else mA y) → Heap.SameBut dx s.heap h' → Q () { s with heap := h', toks := s.toks + 2 }) :
    wpAny (model prog w) A (setAttr (.ref x) name v) Q E s := by
  obtain ⟨od, J, hl⟩ := I.look
  refine PySem.W.set_plain X J hs (PySem.W.osa_open (s := { s with toks := s.toks + 1 }) (r := none) X J hp ht fun b => ?_)
  obtain ⟨cd, hc, hd'⟩ := PySem.W.any_some hh
  have hx : s.heap.get? x = some ⟨.ref C, some dx, .plain, #[]⟩ := I.obj
  refine wpAny_bind (wpAny_pure (wpAny_bind (wpAny_bind (wpAny_loadPart hx (wpAny_bind (PySem.W.Looks.here (s := { s with toks := s.toks + 1 }) (PySem.W.looks_clsIn X hc) ?_))))))
  rw [hd']
  refine wpAny_pure (a := some dx) (wpAny_bind (wpAny_pure (wpAny_bind ?_)))
  refine wpAny_nsSet1 (s := { s with toks := s.toks + 1 }) I.ns fun h' hn2 hs2 => ?_
  obtain ⟨oD, esD, epD, hoD, hdD, hcD⟩ := hn2.count (PySem.Within.cons name v hw)
  refine wpAny_bind (wpAny_lookBehind hoD (by rw [hdD]; exact pastItsLine_dict (Nat.le_trans hcD (by rw [List.length_cons]; omega))) ?_)
  exact wpAny_pure (h _ ⟨(hs2.2 _ (Ne.symm I.ne)).trans I.obj, hn2, I.ne⟩ hs2)
theorem make_map {R : Result → Shared → Prop} {vs : List Value} {kw : List (Str × Value)} (X : K.In s.heap) (hm : PySem.W.makesIn K C = true)
    (hi : PySem.W.findIn K (.ref C) "__init__" = some (some (.ref f))) (hf : PySem.W.typeIn K (.ref f) = some (.type "function"))
    (h : codeAny (model prog w) (A.under (.builtin "type.__call__" ⟨.ref C :: vs, kw⟩)) (.call (.ref f) ⟨.ref (s.heap.objs.size + 1) :: vs, kw⟩) (PySem.W.InitBack (s.heap.objs.size + 1) R)
      { s with heap := (s.heap.push PySem.W.emptyDict).push (PySem.W.instObj C s.heap.objs.size) }) :
    codeAny (model prog w) A (.call (.ref C) ⟨vs, kw⟩) R s := by
  obtain ⟨hh, g, d, t, os⟩ := s
  exact PySem.W.make_core (PySem.W.makes_of X hm) (PySem.W.looks_findIn X hi) (fun self => PySem.W.bind_fn X self hf) (.inl rfl) h
end
def putF (f : Str) (v : V) : List (Str × V) → List (Str × V)
  | [] => [(f, v)]
  | (g, x) :: r => if g = f then (g, v) :: r else (g, x) :: putF f v r
theorem lookup_putF (f g : Str) (v : V) : ∀ fs : List (Str × V), (putF f v fs).lookup g = if g = f then some v else fs.lookup g
  | [] => by
    show List.lookup g [(f, v)] = _
    by_cases h : g = f
    · have hb : (g == f) = true := beq_iff_eq.mpr h
      simp only [List.lookup, hb, if_pos h]
    · have hb : (g == f) = false := beq_eq_false_iff_ne.mpr h
      simp only [List.lookup, hb, if_neg h]
  | (k, x) :: r => by
    have ih := lookup_putF f g v r
    rw [show putF f v ((k, x) :: r) = (if k = f then (k, v) :: r else (k, x) :: putF f v r) from rfl]
    by_cases hk : k = f
    · rw [if_pos hk]
      by_cases h : g = k
      · have hb : (g == k) = true := beq_iff_eq.mpr h
        simp only [List.lookup, hb, if_pos (h.trans hk)]
      · have hb : (g == k) = false := beq_eq_false_iff_ne.mpr h
        simp only [List.lookup, hb, if_neg (fun e : g = f => h (e.trans hk.symm))]
    · rw [if_neg hk]
      by_cases h : g = k
      · have hb : (g == k) = true := beq_iff_eq.mpr h
        simp only [List.lookup, hb, if_neg (fun e : g = f => hk (h.symm.trans e))]
      · have hb : (g == k) = false := beq_eq_false_iff_ne.mpr h
        simp only [List.lookup, hb]
        exact ih
theorem keys_putF (f : Str) (v : V) : ∀ fs : List (Str × V), f ∈ (putF f v fs).map (·.1) ∧ ∀ g, g ∈ fs.map (·.1) → g ∈ (putF f v fs).map (·.1)
  | [] => ⟨by simp [putF], fun g h => by simp at h⟩
  | (k, x) :: r => by
    obtain ⟨i1, i2⟩ := keys_putF f v r
    rw [show putF f v ((k, x) :: r) = (if k = f then (k, v) :: r else (k, x) :: putF f v r) from rfl]
    by_cases hk : k = f
    · rw [if_pos hk]
      subst hk
      exact ⟨by simp, fun g h => by simpa using h⟩
    · rw [if_neg hk]
      refine ⟨?_, fun g h => ?_⟩
      · rw [List.map_cons]
        exact List.mem_cons_of_mem _ i1
      · rw [List.map_cons] at h ⊢
        rcases List.mem_cons.mp h with e | e
        · exact List.mem_cons.mpr (.inl e)
        · exact List.mem_cons_of_mem _ (i2 g e)
theorem length_putF (f : Str) (v : V) : ∀ fs : List (Str × V), (putF f v fs).length ≤ fs.length + 1
  | [] => by simp [putF]
  | (k, x) :: r => by
    have ih := length_putF f v r
    rw [show putF f v ((k, x) :: r) = (if k = f then (k, v) :: r else (k, x) :: putF f v r) from rfl]
    by_cases hk : k = f
    · rw [if_pos hk, List.length_cons, List.length_cons]; omega
    · rw [if_neg hk, List.length_cons, List.length_cons]; omega
theorem RelO.some_of {v : V} {o : Option Value} (r : RelO (some v) o) : ∃ u, o = some u ∧ RelV v u := by
  cases o with
  | none => exact (show False from r).elim
  | some u => exact ⟨u, rfl, r⟩
theorem RelO.none_of {o : Option Value} (r : RelO none o) : o = none := by
  cases o with
  | none => rfl
  | some u => exact (show False from r).elim
theorem handed_of {v : V} {u : Value} (r : RelV v u) : PySem.W.handedIn u = true := by
  cases v with
  | non => cases (show u = Value.none from r); rfl
  | bl b => cases (show u = Value.bool b from r); rfl
  | int i => obtain ⟨t, e⟩ := (show ∃ t, u = Value.int i t from r); cases e; rfl
  | str x => obtain ⟨t, e⟩ := (show ∃ t, u = Value.str x t from r); cases e; rfl
  | byt b => obtain ⟨t, e⟩ := (show ∃ t, u = Value.bytes b t from r); cases e; rfl
  | flt b => obtain ⟨t, e⟩ := (show ∃ t, u = Value.float b t from r); cases e; rfl
  | ref a => cases (show u = Value.ref a from r); rfl
  | ty n => cases (show u = Value.type n from r); rfl
section
variable {P : Program} {w : World} {H H' : Hp} {h h' : Heap} {a C dx : Addr} {fs fs' : List (Str × V)}
theorem ins_get (hok : HOk P w H h) (e : H a = some (.ins C dx fs)) : ∃ mA, ObjM h a dx C mA ∧ (∀ f, RelO (fs.lookup f) (mA f)) ∧ PySem.Within mA (fs.map (·.1)) ∧ fs.length ≤ 1000 ∧ H dx = some (.own a) := by
  obtain ⟨d, z, ne, ob, mA, n, r, q⟩ := (show ObjOk P w H h a (.ins C dx fs) from hok a _ e)
  exact ⟨mA, ⟨ob, n, ne⟩, r, q, z, d⟩
end
structure Cls (K : PySem.W.Frag) (C : Addr) : Prop where
  pg : PySem.W.plainGet K C Str.empty = true
  hd : PySem.W.hasDictIn K C = true
  po : PySem.W.plainOver K C = true
  sa : PySem.W.findIn K (.ref C) "__setattr__" = some (some (.builtin "object.__setattr__"))
theorem Cls.get {K : PySem.W.Frag} {C : Addr} (c : Cls K C) (f : Str) : PySem.W.plainGet K C f = true := c.pg
def NoAttr (K : PySem.W.Frag) (C : Addr) (f : Str) : Prop := PySem.W.findIn K (.ref C) f = some none
theorem NoAttr.taker {K : PySem.W.Frag} {C : Addr} {f : Str} (n : NoAttr K C f) : PySem.W.takerIn K C f = some none := by
  unfold PySem.W.takerIn
  rw [show PySem.W.findIn K (.ref C) f = some none from n]
  rfl
structure Con (K : PySem.W.Frag) (C : Addr) (f : Str) (v : V) (u : Value) : Prop where
  at_ : PySem.W.findIn K (.ref C) f = some (some u)
  rel : RelV v u
  get : PySem.W.specialIn K u "__get__" = some none
  cp : PySem.W.copiedNames.contains f = false
structure Meth (K : PySem.W.Frag) (C : Addr) (m : Str) (f : Addr) : Prop where
  at_ : PySem.W.findIn K (.ref C) m = some (some (.ref f))
  fn : PySem.W.isFn K (.ref f) = true
  kp : PySem.W.keepIn K (.ref f) = true
section
variable {X : Cx} {pins : List (Addr × Obj)} {σ : St} {H : Hp} {s : Shared} {a C dx : Addr} {fs : List (Str × V)} {f : Str} {v : V} {A : Around} {E : Value → Shared → Prop}
theorem getattr_ok {b : Bool} {Q : Value → Shared → Prop} (I : Inv X pins σ H s) (e : H a = some (.ins C dx fs)) (c : Cls X.K C) (n : NoAttr X.K C f) (l : fs.lookup f = some v)
    (h : ∀ u s', Inv X pins σ H s' → RelV v u → Q u s') : wpAny (model X.prog X.w) A (getAttr (.ref a) f b) Q E s := by
  obtain ⟨mA, O, r, _, _, _⟩ := ins_get I.hok e
  obtain ⟨u, hu, ru⟩ := RelO.some_of (v := v) (o := mA f) (by rw [← l]; exact r f)
  exact get_map I.kIn O (c.get f) c.hd n hu (handed_of ru) (h u _ (I.tok _) ru)
theorem getmeth_ok {m : Str} {g : Addr} {pl : Sem Bool} {Q : Value × List Value → Shared → Prop} (I : Inv X pins σ H s) (e : H a = some (.ins C dx fs)) (c : Cls X.K C) (k : Meth X.K C m g) (l : fs.lookup m = none)
    (h : Q (.ref g, [.ref a]) s) : wpAny (model X.prog X.w) A (getMethod (.ref a) m pl) Q E s := by
  obtain ⟨mA, O, r, _, _, _⟩ := ins_get I.hok e
  have hn : mA m = none := RelO.none_of (by rw [← l]; exact r m)
  exact get_meth I.kIn O (c.get m) k.at_ k.fn hn h
theorem setattr_ok {y : V} {u : Value} {Q : Unit → Shared → Prop} (I : Inv X pins σ H s) (e : H a = some (.ins C dx fs)) (c : Cls X.K C) (n : NoAttr X.K C f) (hl : fs.length < 1000) (ry : RelV y u)
    (h : ∀ s', Inv X pins σ (upd H a (.ins C dx (putF f y fs))) s' → Q () s') : wpAny (model X.prog X.w) A (setAttr (.ref a) f u) Q E s := by
  obtain ⟨mA, O, r, wi, _, ho⟩ := ins_get I.hok e
  have hz : (fs.map (·.1)).length ≤ sizeLine := by rw [List.length_map, sizeLine_eq]; omega
  refine set_map I.kIn O c.sa c.po n.taker c.hd wi hz fun h' O' sb => h _ ?_
  have hd : ∃ o, h'.get? dx = some o := let ⟨o, _, _, e', _⟩ := O'.ns; ⟨o, e'⟩
  refine I.write (x := a) (e := dx) (by rw [e]; exact True.intro) (.inr ho) (fun b q hb z => (sb.2 b hb).trans z) hd ?_
  refine ⟨by rw [upd_ne O.ne]; exact ho, ?_, O.ne, O'.obj, _, O'.ns, fun g => ?_, fun g hg => ?_⟩
  · have := length_putF f y fs; omega
  · show RelO ((putF f y fs).lookup g) (if g = f then some u else mA g)
    rw [lookup_putF]
    by_cases q : g = f
    · rw [if_pos q, if_pos q]; exact ry
    · rw [if_neg q, if_neg q]; exact r g
  · by_cases q : g = f
    · rw [q]; exact (keys_putF f y fs).1
    · refine (keys_putF f y fs).2 g (wi g fun z => hg ?_)
      show (if g = f then some u else mA g) = none
      rw [if_neg q]; exact z
theorem Inv.made (I : Inv X pins σ H s) : Inv X pins σ (upd (upd H s.heap.objs.size (.own (s.heap.objs.size + 1))) (s.heap.objs.size + 1) (.ins C s.heap.objs.size []))
    { s with heap := (s.heap.push PySem.W.emptyDict).push (PySem.W.instObj C s.heap.objs.size) } := by
  have e1 : (s.heap.push PySem.W.emptyDict).get? s.heap.objs.size = some PySem.W.emptyDict := Heap.get?_push_size s.heap rfl
  have e2 : ((s.heap.push PySem.W.emptyDict).push (PySem.W.instObj C s.heap.objs.size)).get? (s.heap.objs.size + 1) = some (PySem.W.instObj C s.heap.objs.size) := by
    have := Heap.get?_push_size (s.heap.push PySem.W.emptyDict) (o := PySem.W.instObj C s.heap.objs.size) rfl
    rwa [Heap.size_push] at this
  have e3 : (s.heap.push PySem.W.emptyDict).Ns s.heap.objs.size (fun _ => none) := ⟨PySem.W.emptyDict, #[], _, e1, rfl, (fun e he => absurd he (by simp)), fun _ => rfl⟩
  have I1 := I.laid (a := s.heap.objs.size) (o := .own (s.heap.objs.size + 1)) (h' := s.heap.push PySem.W.emptyDict) (t' := s.toks) (fun b u q => Heap.get?_push_of_some _ q) (Nat.le_refl _) ⟨_, e1⟩
  refine I1.laid (a := s.heap.objs.size + 1) (o := .ins C s.heap.objs.size []) (t' := s.toks) (fun b u q => Heap.get?_push_of_some _ q) (Nat.le_of_eq (Heap.size_push _ _)) ?_
  have ne : s.heap.objs.size ≠ s.heap.objs.size + 1 := Nat.ne_of_lt (Nat.lt_succ_self _)
  refine ⟨by rw [upd_ne ne, upd_same], Nat.zero_le _, ne, e2, fun _ => none, (Heap.Ns1.of_empty e3).at fun o q => Heap.get?_push_of_some _ q, fun _ => True.intro, fun y hy => absurd rfl hy⟩
theorem attr_of {prog : Program} {w : World} {env : Env} {e : Expr} {f : Str} {pos : Pos} {s : Shared} {Q : Value → Shared → Prop} (hb : attributeBase e f env (eval e env) = eval e env)
    (h : wpAny (model prog w) A (eval e env) (fun o s₁ => wpAny (model prog w) A (getAttr o f true) Q E s₁) E s) : wpAny (model prog w) A (eval (.Attribute e f pos) env) Q E s :=
  Attribute_any_ h (by rw [arm_eval_Attribute, hb])
end
def tFld (K : PySem.W.Frag) (ta : TE) (f : Str) : TE := fun σ H Q => ta σ H fun x H1 => ∃ a C dx fs v, x = .ref a ∧ H1 a = some (.ins C dx fs) ∧ Cls K C ∧ NoAttr K C f ∧ fs.lookup f = some v ∧ Q v H1
def sFld (K : PySem.W.Frag) (ta tv : TE) (f : Str) : TS := fun D σ H => tv σ H fun y H1 => ta σ H1 fun x H2 => ∃ a C dx fs, x = .ref a ∧ H2 a = some (.ins C dx fs) ∧ Cls K C ∧ NoAttr K C f ∧ fs.length < 1000 ∧
  D.nx σ (upd H2 a (.ins C dx (putF f y fs)))
section
variable {X : Cx} {o e value : Expr} {f : Str} {pos pos' tpos : Pos} {ta tv : TE}
theorem pe_fld (he : PE X e ta) (hb : attributeBase e f X.env (eval e X.env) = eval e X.env) : PE X (.Attribute e f pos) (tFld X.K ta f) := by
  intro pins s σ H Q I h
  refine attr_of hb (thn (he pins s σ H _ I h) fun u s1 ⟨x, H1, I1, rx, a, C, dx, fs, v, ex, ea, c, n, l, q⟩ => ?_)
  subst ex
  obtain rfl : u = Value.ref a := rx
  exact getattr_ok I1 ea c n l fun u' s2 I2 ru => ⟨v, H1, I2, ru, q⟩
theorem ps_fld (ha : PE X o ta) (hv : PE X value tv) (hs : swapsWith value (some (.Attribute o f pos')) pos.line X.env = pure false) : PS X (.Assign [.Attribute o f pos'] value pos) (sFld X.K ta tv f) := by
  intro pins s σ H D I h
  refine plainObj_wpAny_Assign_Attribute (thn (hv pins s σ H _ I h) fun u s1 ⟨y, H1, I1, ry, q⟩ => thn (ha pins s1 σ H1 _ I1 q) fun ov s2 ⟨x, H2, I2, rx, a, C, dx, fs, ex, ea, c, n, l, q2⟩ => ?_) hs
  subst ex
  obtain rfl : ov = Value.ref a := rx
  exact setattr_ok I2 ea c n l ry fun s3 I3 => ⟨σ, _, I3, q2⟩
end
section
variable {X : Cx} {pins : List (Addr × Obj)} {σ : St} {H : Hp} {s : Shared} {A : Around} {E : Value → Shared → Prop} {Q : Value → Shared → Prop} {c : Value} {b : Bool}
inductive TyOf (K : PySem.W.Frag) (H : Hp) : V → Value → Prop where
  | non : TyOf K H .non (.type "NoneType")
  | bl (x : Bool) : TyOf K H (.bl x) (.type "bool")
  | int (i : Int) : TyOf K H (.int i) (.type "int")
  | str (x : Str) : TyOf K H (.str x) (.type "str")
  | flt (x : UInt64) : TyOf K H (.flt x) (.type "float")
  | lst {a : Addr} {xs : List V} (e : H a = some (.lst xs)) : TyOf K H (.ref a) (.type "list")
  | frz {a : Addr} {o : Obj} {xs : List V} (e : H a = some (.frz o (.lst xs))) : TyOf K H (.ref a) (.type "list")
  | tup {a : Addr} {xs : List V} (e : H a = some (.tup xs)) : TyOf K H (.ref a) (.type "tuple")
  | dK {a : Addr} {kvs : List (Key × V)} (e : H a = some (.dK kvs)) : TyOf K H (.ref a) (.type "dict")
  | dT {a : Addr} {kvs : List (List Key × V)} (e : H a = some (.dT kvs)) : TyOf K H (.ref a) (.type "dict")
  | ins {a C dx : Addr} {fs : List (Str × V)} (e : H a = some (.ins C dx fs)) (cl : Cls K C) (ha : PySem.W.findIn K (.ref C) "__class__" = some (some (.builtin "object.__class__")))
      (hn : PySem.W.specialIn K (.builtin "object.__class__") "__get__" = some (some (.builtin "getset_descriptor.__get__"))) (htk : PySem.W.takesIn K (.builtin "object.__class__") = some true)
      (hm : PySem.W.mroIn K C (.type "object") = some true) : TyOf K H (.ref a) (.ref C)
theorem isinst_ok {x : V} {u t : Value} (I : Inv X pins σ H s) (rx : RelV x u) (ty : TyOf X.K H x t) (e : PySem.W.kitOne X.K t c = some b) (h : ∀ tk, Q (.bool b) { s with toks := tk }) :
    wpAny (model X.prog X.w) A (call (.builtin "isinstance") [u, c]) Q E s := by
  cases ty with
  | non => cases (show u = Value.none from rx); exact PySem.W.kia_one PySem.W.kitx_none I.kIn True.intro e (fun z => nomatch z) h
  | bl y => cases (show u = Value.bool y from rx); exact PySem.W.kia_one PySem.W.kitx_bool I.kIn True.intro e (fun z => nomatch z) h
  | int i => obtain ⟨t, q⟩ := (show ∃ t, u = Value.int i t from rx); cases q; exact PySem.W.kia_one PySem.W.kitx_int I.kIn True.intro e (fun z => nomatch z) h
  | str y => obtain ⟨t, q⟩ := (show ∃ t, u = Value.str y t from rx); cases q; exact PySem.W.kia_one PySem.W.kitx_str I.kIn True.intro e (fun z => nomatch z) h
  | flt y => obtain ⟨t, q⟩ := (show ∃ t, u = Value.float y t from rx); cases q; exact PySem.W.kia_one PySem.W.kitx_float I.kIn True.intro e (fun z => nomatch z) h
  | @lst a xs ea =>
    cases (show u = Value.ref a from rx)
    obtain ⟨_, _, n, _, h1⟩ := (show ObjOk X.prog X.w H s.heap a (.lst xs) from I.hok a _ ea)
    exact PySem.W.kia_one PySem.W.kitx_list I.kIn ⟨_, h1, rfl⟩ e (fun z => nomatch z) h
  | @frz a ob xs ea =>
    cases (show u = Value.ref a from rx)
    obtain ⟨_, _, _, n, _, h1⟩ := (show ObjOk X.prog X.w H s.heap a (.frz ob (.lst xs)) from I.hok a _ ea)
    exact PySem.W.kia_one PySem.W.kitx_list I.kIn ⟨_, h1, rfl⟩ e (fun z => nomatch z) h
  | @tup a xs ea =>
    cases (show u = Value.ref a from rx)
    obtain ⟨_, _, _, p⟩ := (show ObjOk X.prog X.w H s.heap a (.tup xs) from I.hok a _ ea)
    obtain ⟨o, h1, h2, _⟩ := p
    exact PySem.W.kia_one PySem.W.kitx_tuple I.kIn ⟨o, h1, h2⟩ e (fun z => nomatch z) h
  | @dK a kvs ea =>
    cases (show u = Value.ref a from rx)
    obtain ⟨_, _, vs, _, p⟩ := (show ObjOk X.prog X.w H s.heap a (.dK kvs) from I.hok a _ ea)
    obtain ⟨o, es, ep, h1, h2, _⟩ := p
    exact PySem.W.kia_one PySem.W.kitx_dict I.kIn ⟨o, h1, h2.1⟩ e (fun z => nomatch z) h
  | @dT a kvs ea =>
    cases (show u = Value.ref a from rx)
    obtain ⟨_, _, xs, _, o, es, ep, h1, h2, _⟩ := (show ObjOk X.prog X.w H s.heap a (.dT kvs) from I.hok a _ ea)
    exact PySem.W.kia_one PySem.W.kitx_dict I.kIn ⟨o, h1, h2.1⟩ e (fun z => nomatch z) h
  | @ins a C dx fs ea cl ha hn htk hm =>
    cases (show u = Value.ref a from rx)
    obtain ⟨mA, O, _⟩ := ins_get I.hok ea
    obtain ⟨od, J, _⟩ := O.look
    exact PySem.W.kia_one (PySem.W.kitx_own (cl.get _) cl.hd ha hn htk hm) I.kIn J e (fun z => nomatch z) h
end
end L2
namespace L2
open PySem PySem.Spec PyProof.Rows
structure Room (k : Nat) (A : Around) : Prop where
  hd : A.handled = none
  dp : A.depth + 3 * k + 5 < recursionLimit
  un : A.units + 16 * k + 200 < cLine
  gd : A.guards = some []
theorem Room.mono {j k : Nat} {A : Around} (r : Room k A) (h : j ≤ k) : Room j A := ⟨r.hd, by have := r.dp; omega, by have := r.un; omega, r.gd⟩
theorem Room.deeper {k : Nat} {A : Around} (r : Room (k + 1) A) (env : Env) : Room k (A.deeper env) :=
  ⟨r.hd, by have := r.dp; show A.depth + 1 + 3 * k + 5 < _; omega, by have := r.un; show A.units + 3 + 16 * k + 200 < _; omega, r.gd⟩
theorem Room.in1 {k : Nat} {A : Around} (r : Room (k + 1) A) : Room k A.in1 :=
  ⟨r.hd, by have := r.dp; show A.depth + 3 * k + 5 < _; omega, by have := r.un; show A.units + 1 + 16 * k + 200 < _; omega, r.gd⟩
theorem make_depth {A : Around} {C : Addr} {us : List Value} {kw : List (Str × Value)} : (A.under (.builtin "type.__call__" ⟨.ref C :: us, kw⟩)).depth = A.depth + 1 := by
  first | rfl | simp [Around.under, Code.weight, Code.isCreation, Code.isGuard, Code.isCaller, Code.frames, Code.isFrame, guardIds]
theorem make_units {A : Around} {C : Addr} {us : List Value} {kw : List (Str × Value)} : (A.under (.builtin "type.__call__" ⟨.ref C :: us, kw⟩)).units = A.units + 1 := by
  first | rfl | simp [Around.under, Code.cUnits, Code.frames, Code.isFrame]
theorem make_guards {A : Around} {C : Addr} {us : List Value} {kw : List (Str × Value)} : (A.under (.builtin "type.__call__" ⟨.ref C :: us, kw⟩)).guards = A.guards := by
  first | rfl | simp [Around.under, Code.isGuard, Code.guards, guardIds]
theorem Room.make {k : Nat} {A : Around} (r : Room (k + 1) A) (C : Addr) (us : List Value) (kw : List (Str × Value)) : Room k (A.under (.builtin "type.__call__" ⟨.ref C :: us, kw⟩)) :=
  ⟨r.hd, by have := r.dp; rw [make_depth]; omega, by have := r.un; rw [make_units]; omega, by rw [make_guards]; exact r.gd⟩
theorem Room.depth {k : Nat} {A : Around} (r : Room k A) : A.depth < recursionLimit := by have := r.dp; omega
theorem Room.units {k : Nat} {A : Around} (r : Room k A) : A.units + 64 < cLine := by have := r.un; omega
def tNil : TA := fun _ H Q => Q [] H
def tCons (ta : TE) (tr : TA) : TA := fun σ H Q => ta σ H fun x H1 => tr σ H1 fun xs H2 => Q (x :: xs) H2
section
variable {X : Cx} {e : Expr} {es : List Expr} {te : TE} {t : TA} {pos : Pos}
theorem pa_nil : PA X [] tNil := fun _ _ _ _ H Q I h => Calls.spliced_nil ⟨[], H, I, .nil, h⟩
theorem pa_cons (ha : PE X e te) (hr : PA X es t) (hs : starEach (e :: es) X.env = (false, eval e X.env) :: starEach es X.env := by rfl) : PA X (e :: es) (tCons te t) := by
  intro pos pins s σ H Q I h
  rw [hs]
  show wpAny _ _ (spliced ((false, eval e X.env) :: backTo pos (starEach es X.env))) _ _ s
  refine Calls.spliced_cons (thn (ha pins s σ H _ I h) fun u s1 ⟨x, H1, I1, r1, q1⟩ => ?_)
  exact thn (hr pos pins s1 σ H1 _ I1 q1) fun us s2 ⟨xs, H2, I2, r2, q2⟩ => ⟨x :: xs, H2, I2, .cons r1 r2, q2⟩
def tTup (t : TA) : TE := fun σ H Q => t σ H fun xs H1 => xs.length ≤ sizeLine ∧ ∀ p, H1 p = none → Q (.ref p) (upd H1 p (.tup xs))
def tLst (t : TA) : TE := fun σ H Q => t σ H fun xs H1 => xs.length ≤ sizeLine ∧ ∀ p, H1 p = none → Q (.ref p) (upd H1 p (.lst xs))
theorem pe_tup {x1} (h : PA X es t) : PE X (.Tuple es x1 pos) (tTup t) := by
  intro pins s σ H Q I hq
  refine wpAny_Tuple_spliced (thn (h pos pins s σ H _ I hq) fun us s1 ⟨xs, H1, I1, r, z, q⟩ => ⟨by rw [← r.length]; exact z, ?_⟩)
  have hf : H1 s1.heap.objs.size = none := I1.hok.fresh (Nat.le_refl _)
  refine ⟨.ref s1.heap.objs.size, upd H1 s1.heap.objs.size (.tup xs), I1.laid (t' := s1.toks) (fun b u e => Heap.get?_push_of_some _ e) (Nat.le_refl _) ?_, rfl, q _ hf⟩
  exact ⟨z, us, r, ⟨_, Heap.get?_push_size _ rfl, rfl, _, rfl⟩⟩
theorem pe_lst (h : PA X es t) : PE X (.List es pos) (tLst t) := by
  intro pins s σ H Q I hq
  refine wpAny_List_spliced (thn (h pos pins s σ H _ I hq) fun us s1 ⟨xs, H1, I1, r, z, q⟩ => ⟨by rw [← r.length]; exact z, ?_⟩)
  have hf : H1 s1.heap.objs.size = none := I1.hok.fresh (Nat.le_refl _)
  refine ⟨.ref s1.heap.objs.size, upd H1 s1.heap.objs.size (.lst xs), I1.laid (t' := s1.toks) (fun b u e => Heap.get?_push_of_some _ e) (Nat.le_refl _) ?_, rfl, q _ hf⟩
  exact ⟨z, us, 0, r, Heap.get?_push_size _ rfl⟩
end
abbrev Sp := List V → Hp → VK → XK → Prop
abbrev CXT := List Env → Hp → Shared → XK → Value → Shared → Prop
structure Env0 (P : Program) (w : World) (K : PySem.W.Frag) (mg : Str → Option Value) (base : Heap) (A : Around) (outer : List Env) (s : Shared) (H : Hp) : Prop where
  frames : A.frames = some outer
  mod : Mod K mg base
  bs : ∀ b o, base.get? b = some o → s.heap.get? b = some o ∧ H b = none
  bsz : base.objs.size ≤ s.heap.objs.size
  funs : s.heap.FunFrames base outer
  frf : ∀ b ∈ frs outer, H b = none
  hok : HOk P w H s.heap
  bare : AllBare s.gens
def CE (outer : List Env) (P : Program) (w : World) (H : Hp) (s : Shared) (Q : VK) (u : Value) (s' : Shared) : Prop :=
  ∃ v H', s'.os = s.os ∧ AllBare s'.gens ∧ Un (frs outer) [] H H' s.heap s'.heap ∧ HOk P w H' s'.heap ∧ RelV v u ∧ Q v H'
def CR (CX : CXT) (outer : List Env) (P : Program) (w : World) (H : Hp) (s : Shared) (Q : VK) (E : XK) (r : Result) (s' : Shared) : Prop :=
  match r with
  | .ok (.ret u) => CE outer P w H s Q u s'
  | .ok _ => False
  | .error e => CX outer H s E e s'
structure FnOk (P : Program) (w : World) (K : PySem.W.Frag) (mg : Str → Option Value) (base : Heap) (CX : CXT) (k : Nat) (f : Addr) (fd : FuncData) (ps : List Str) (sp : Sp) : Prop where
  len : ∀ vs H Q E, sp vs H Q E → vs.length = ps.length
  run : ∀ (A : Around) (outer : List Env) (s : Shared) (H : Hp) (args : Args) (us : List Value) (vs : List V) (Q : VK) (E : XK), Room k A → Env0 P w K mg base A outer s H → BindsTo s fd args (ps.zip us) → Vals vs us → sp vs H Q E →
    codeAny (model P w) A (.call (.ref f) args) (CR CX outer P w H s Q E) s
theorem FnOk.mono {P : Program} {w : World} {K : PySem.W.Frag} {mg : Str → Option Value} {base : Heap} {CX : CXT} {j k : Nat} {f : Addr} {fd : FuncData} {ps : List Str} {sp : Sp} (F : FnOk P w K mg base CX j f fd ps sp) (h : j ≤ k) :
    FnOk P w K mg base CX k f fd ps sp := ⟨F.len, fun A outer s H args us vs Q E hr => F.run A outer s H args us vs Q E (hr.mono h)⟩
theorem Env0.make {P : Program} {w : World} {K : PySem.W.Frag} {mg : Str → Option Value} {base : Heap} {A : Around} {outer : List Env} {s : Shared} {H : Hp} (e : Env0 P w K mg base A outer s H) (C : Addr) (us : List Value) (kw : List (Str × Value)) :
    Env0 P w K mg base (A.under (.builtin "type.__call__" ⟨.ref C :: us, kw⟩)) outer s H := ⟨by first | exact e.frames | (simpa [Around.under, Code.envs, Code.isFrame, pushEnvs] using e.frames), e.mod, e.bs, e.bsz, e.funs, e.frf, e.hok, e.bare⟩
theorem Env0.in1 {P : Program} {w : World} {K : PySem.W.Frag} {mg : Str → Option Value} {base : Heap} {A : Around} {outer : List Env} {s : Shared} {H : Hp} (e : Env0 P w K mg base A outer s H) :
    Env0 P w K mg base A.in1 outer s H := ⟨e.frames, e.mod, e.bs, e.bsz, e.funs, e.frf, e.hok, e.bare⟩
section
variable {X : Cx} {pins : List (Addr × Obj)} {σ : St} {H : Hp} {s s' : Shared}
theorem Inv.env0 (I : Inv X pins σ H s) : Env0 X.prog X.w X.K X.mg X.base X.A X.stack s H :=
  ⟨I.ok.frames, I.ok.mod, I.bs, Nat.le_trans I.ok.bsz I.sz, I.stack, I.stkFree, I.hok, I.bare⟩
theorem Inv.after {Q : VK} {u : Value} (I : Inv X pins σ H s) (h : CE X.stack X.prog X.w H s Q u s') : EP X pins σ Q u s' := by
  obtain ⟨v, H', os, bare, un, hok, r, q⟩ := h
  obtain ⟨hh, g, d, t, os'⟩ := s'
  obtain rfl : os' = s.os := os
  exact ⟨v, H', I.call (h' := hh) (g' := g) (d' := d) (t' := t) (ch := []) un hok bare (fun b z => absurd z (by simp)), r, q⟩
end
def tCall (sp : Sp) (dvs : List V) (E : XK) (t : TA) : TE := fun σ H Q => t σ H fun vs H1 => sp (vs ++ dvs) H1 Q E
def tMeth (C : Addr) (m : Str) (sp : Sp) (dvs : List V) (E : XK) (ta : TE) (t : TA) : TE := fun σ H Q => ta σ H fun x H1 => ∃ a dx fs, x = .ref a ∧ H1 a = some (.ins C dx fs) ∧ fs.lookup m = none ∧
  t σ H1 fun vs H2 => sp (x :: (vs ++ dvs)) H2 Q E
def tMake (C : Addr) (sp : Sp) (dvs : List V) (E : XK) (t : TA) : TE := fun σ H Q => t σ H fun vs H1 => ∀ x dx, H1 x = none → H1 dx = none → dx ≠ x →
  sp (.ref x :: (vs ++ dvs)) (upd (upd H1 dx (.own x)) x (.ins C dx [])) (fun v H2 => v = .non ∧ Q (.ref x) H2) E
def Binds (K : PySem.W.Frag) (fd : FuncData) (ps : List Str) (ds : List Value) : Prop :=
  ∀ (s : Shared) (us : List Value), K.In s.heap → (us ++ ds).length = ps.length → BindsTo s fd ⟨us, []⟩ (ps.zip (us ++ ds))
theorem Binds.all {K : PySem.W.Frag} {fd : FuncData} {ps : List Str} (h : ∀ us : List Value, us.length = ps.length → bindArgs fd ⟨us, []⟩ = pure (ps.zip us)) : Binds K fd ps [] := fun s us _ hl => by
  rw [List.append_nil] at hl ⊢
  exact .of_eq (h us hl)
def Passes (CX : CXT) (X : Cx) (E : XK) : Prop := ∀ (pins : List (Addr × Obj)) (σ : St) (H : Hp) (s : Shared) (e : Value) (s' : Shared), Inv X pins σ H s → CX X.stack H s E e s' → X.xe e s'
section
variable {X : Cx} {CX : CXT} {k : Nat} {f C : Addr} {fd : FuncData} {ps : List Str} {sp : Sp} {dvs : List V} {ds : List Value} {E : XK} {x m : Str} {p pos apos : Pos} {e o : Expr} {es : List Expr} {ta : TE} {t : TA}
theorem run_fn {pins : List (Addr × Obj)} {σ : St} {H : Hp} {s : Shared} {Q : VK} {us : List Value} {vs : List V} (F : FnOk X.prog X.w X.K X.mg X.base CX k f fd ps sp) (hr : Room k X.A) (hb : Binds X.K fd ps ds) (hd : Vals dvs ds) (hx : Passes CX X E)
    (I : Inv X pins σ H s) (r : Vals vs us) (h : sp (vs ++ dvs) H Q E) : wpAny (model X.prog X.w) X.A (call (.ref f) us) (EP X pins σ Q) X.xe s := by
  have r2 : Vals (vs ++ dvs) (us ++ ds) := r.append hd
  have hl : (us ++ ds).length = ps.length := by rw [← r2.length]; exact F.len _ _ _ _ h
  refine wpAny_call (codeAny_mono (F.run X.A X.stack s H ⟨us, []⟩ (us ++ ds) (vs ++ dvs) Q E hr I.env0 (hb s us I.kIn hl) r2 h) fun r s' hq => ?_)
  cases r with
  | error e => exact hx pins σ H s e s' I hq
  | ok fl =>
    cases fl with
    | ret u => exact I.after hq
    | next => exact False.elim hq
    | brk => exact False.elim hq
    | cont => exact False.elim hq
theorem pe_call (F : FnOk X.prog X.w X.K X.mg X.base CX k f fd ps sp) (hr : Room k X.A) (hg : Gl X x) (hm : X.mg x = some (.ref f)) (hk : PySem.W.keepIn X.K (.ref f) = true) (hb : Binds X.K fd ps ds) (hd : Vals dvs ds) (hx : Passes CX X E)
    (ha : PA X (e :: es) t) (hdb : (x == ("__debug__" : Str)) = false := by decide) (he : starEach (e :: es) X.env = (false, eval e X.env) :: starEach es X.env := by rfl) (hpl : (backTo pos (starEach es X.env)).any (·.1) = false := by rfl) :
    PE X (.Call (.Name x p) (e :: es) [] pos) (tCall sp dvs E t) := by
  intro pins s σ H Q I h
  refine wpAny_Call_Name_kw (ld_glob I hg hm ?_ hdb)
  refine PySem.W.callWith_K (h₀ := X.base) I.ok.mod.kin hk (thn (ha pos pins s σ H _ I h) fun us s1 ⟨vs, H1, I1, r, q⟩ => ⟨I1.kIn, ?_⟩) he hpl
  exact run_fn F hr hb hd hx I1 r q
theorem pe_meth {pl : Sem Bool} (he : PE X o ta) (c : Cls X.K C) (hm : Meth X.K C m f) (F : FnOk X.prog X.w X.K X.mg X.base CX k f fd ps sp) (hr : Room k X.A) (hb : Binds X.K fd ps ds) (hd : Vals dvs ds) (hx : Passes CX X E) (ha : PA X (e :: es) t)
    (hst : starEach (e :: es) X.env = (false, eval e X.env) :: starEach es X.env := by rfl) (hpl : (backTo pos (starEach es X.env)).any (·.1) = false := by rfl)
    (ht : eval (.Call (.Attribute o m apos) (e :: es) [] pos) X.env = (do
      let ov ← eval o X.env
      standAt apos.atName
      let (f, first) ← holding [ov] (getMethod ov m pl)
      callWith pos f first (backTo pos (starEach (e :: es) X.env)) (backToKw pos (keywordEach [] X.env))) := by rfl) :
    PE X (.Call (.Attribute o m apos) (e :: es) [] pos) (tMeth C m sp dvs E ta t) := by
  intro pins s σ H Q I h
  refine PySem.W.methodCall_KW (pl := pl) (thn (he pins s σ H _ I h) fun u s1 ⟨x, H1, I1, rx, a, dx, fs, ex, ea, l, q⟩ => ?_) ht
  subst ex
  obtain rfl : u = Value.ref a := rx
  refine getmeth_ok I1 ea c hm l ?_
  refine PySem.W.callWith_K (first := [.ref a]) (h₀ := X.base) I.ok.mod.kin hm.kp (thn (ha pos pins s1 σ H1 _ I1 q) fun us s2 ⟨vs, H2, I2, r, q2⟩ => ⟨I2.kIn, ?_⟩) hst hpl
  exact run_fn (us := .ref a :: us) (vs := .ref a :: vs) F hr hb hd hx I2 (.cons rfl r) q2
theorem pe_meth0 {pl : Sem Bool} (he : PE X o ta) (c : Cls X.K C) (hm : Meth X.K C m f) (F : FnOk X.prog X.w X.K X.mg X.base CX k f fd ps sp) (hr : Room k X.A) (hb : Binds X.K fd ps ds) (hd : Vals dvs ds) (hx : Passes CX X E)
    (ht : eval (.Call (.Attribute o m apos) [] [] pos) X.env = (do
      let ov ← eval o X.env
      standAt apos.atName
      let (f, first) ← holding [ov] (getMethod ov m pl)
      callWith pos f first (backTo pos (starEach [] X.env)) (backToKw pos (keywordEach [] X.env))) := by rfl) :
    PE X (.Call (.Attribute o m apos) [] [] pos) (tMeth C m sp dvs E ta tNil) := by
  intro pins s σ H Q I h
  refine PySem.W.methodCall_KW (pl := pl) (thn (he pins s σ H _ I h) fun u s1 ⟨x, H1, I1, rx, a, dx, fs, ex, ea, l, q⟩ => ?_) ht
  subst ex
  obtain rfl : u = Value.ref a := rx
  refine getmeth_ok I1 ea c hm l ?_
  exact PySem.W.callWith_K0 (first := [.ref a]) I1.kIn hm.kp (run_fn (us := [.ref a]) (vs := [.ref a]) F hr hb hd hx I1 (.cons rfl .nil) q)
structure Mk (K : PySem.W.Frag) (C f : Addr) : Prop where
  makes : PySem.W.makesIn K C = true
  init : PySem.W.findIn K (.ref C) "__init__" = some (some (.ref f))
  fn : PySem.W.isFn K (.ref f) = true
  kp : PySem.W.keepIn K (.ref C) = true
theorem run_make {pins : List (Addr × Obj)} {σ : St} {H : Hp} {s : Shared} {Q : VK} {us : List Value} {vs : List V} (M : Mk X.K C f) (F : FnOk X.prog X.w X.K X.mg X.base CX k f fd ps sp) (hr : Room (k + 1) X.A) (hb : Binds X.K fd ps ds) (hd : Vals dvs ds)
    (hx : Passes CX X E) (I : Inv X pins σ H s) (r : Vals vs us)
    (h : ∀ x dx, H x = none → H dx = none → dx ≠ x → sp (.ref x :: (vs ++ dvs)) (upd (upd H dx (.own x)) x (.ins C dx [])) (fun v H2 => v = .non ∧ Q (.ref x) H2) E) :
    wpAny (model X.prog X.w) X.A (call (.ref C) us) (EP X pins σ Q) X.xe s := by
  have hq := h (s.heap.objs.size + 1) s.heap.objs.size (I.hok.fresh (Nat.le_succ _)) (I.hok.fresh (Nat.le_refl _)) (Nat.ne_of_lt (Nat.lt_succ_self _))
  have I2 := Inv.made (C := C) I
  have r2 : Vals (V.ref (s.heap.objs.size + 1) :: (vs ++ dvs)) (Value.ref (s.heap.objs.size + 1) :: (us ++ ds)) := .cons rfl (r.append hd)
  have hl : (Value.ref (s.heap.objs.size + 1) :: us ++ ds).length = ps.length := by
    have e := r2.length
    rw [F.len _ _ _ _ hq] at e
    exact e.symm
  refine wpAny_call (make_map (f := f) I.kIn M.makes M.init (beq_iff_eq.mp M.fn) (codeAny_mono (F.run _ X.stack _ _ ⟨Value.ref (s.heap.objs.size + 1) :: us, []⟩ (Value.ref (s.heap.objs.size + 1) :: (us ++ ds)) _ _ E (hr.make C us [])
    (I2.env0.make C us []) (hb _ (Value.ref (s.heap.objs.size + 1) :: us) I2.kIn hl) r2 hq) fun r s' hq' => ?_))
  cases r with
  | error e => exact hx pins σ _ _ e s' I2 hq'
  | ok fl =>
    cases fl with
    | ret u =>
      obtain ⟨v, H', I3, rv, ev, q3⟩ := I2.after hq'
      subst ev
      exact ⟨rv, ⟨V.ref (s.heap.objs.size + 1), H', I3, rfl, q3⟩⟩
    | next => exact False.elim hq'
    | brk => exact False.elim hq'
    | cont => exact False.elim hq'
theorem pe_make0 (M : Mk X.K C f) (F : FnOk X.prog X.w X.K X.mg X.base CX k f fd ps sp) (hr : Room (k + 1) X.A) (hg : Gl X x) (hm : X.mg x = some (.ref C)) (hb : Binds X.K fd ps ds) (hd : Vals dvs ds) (hx : Passes CX X E)
    (hdb : (x == ("__debug__" : Str)) = false := by decide) : PE X (.Call (.Name x p) [] [] pos) (tMake C sp dvs E tNil) := by
  intro pins s σ H Q I h
  refine wpAny_Call_Name_kw (ld_glob I hg hm ?_ hdb)
  exact PySem.W.callWith_K0 I.kIn M.kp (run_make (us := []) M F hr hb hd hx I .nil h)
end
section
variable {X : Cx} {CX : CXT} {k : Nat} {f C : Addr} {fd : FuncData} {ps ks : List Str} {sp : Sp} {E : XK} {x m : Str} {p pos apos kpos : Pos} {e o : Expr} {es : List Expr} {kws : List Keyword} {te ta : TE} {t tk : TA} {nm : Option Str}
structure KBinds (K : PySem.W.Frag) (fd : FuncData) (ps ks : List Str) (g : List Value → List Value → List Value) (gV : List V → List V → List V) : Prop where
  to : ∀ (s : Shared) (us ws : List Value), K.In s.heap → (g us ws).length = ps.length → BindsTo s fd ⟨us, ks.zip ws⟩ (ps.zip (g us ws))
  rel : ∀ {vs : List V} {us : List Value} {zs : List V} {ws : List Value}, Vals vs us → Vals zs ws → Vals (gV vs zs) (g us ws)
variable {g : List Value → List Value → List Value} {gV : List V → List V → List V}
end
structure FnScope (N P : List Str) (sc : Scope) : Prop where
  kind : sc.kind = .function
  co : sc.isCoroutine = false
  gen : sc.isGenerator = false
  nd : N.Nodup
  pre : N.take P.length = P
  par : ∀ x ∈ P, sc.names.lookup x = some .local ∨ sc.names.lookup x = some .cell
  nofree : ∀ y ∈ sc.names, y.2 ≠ .free
theorem bindL_out {kindOf : Str → Option NameKind} {x : Str} : ∀ {binds : List (Str × Value)} {m : Str → Option Value}, (∀ v, (x, v) ∉ binds) → bindL kindOf binds m x = m x
  | [], _, _ => rfl
  | (n, v) :: r, m, h => by
    unfold bindL
    rw [bindL_out fun w hw => h w (List.mem_cons_of_mem _ hw)]
    split
    · have : x ≠ n := by rintro rfl; exact h v List.mem_cons_self
      simp [this]
    · rfl
theorem bindC_out {kindOf : Str → Option NameKind} {x : Str} : ∀ {binds : List (Str × Value)} {m : Str → Option Value}, (∀ v, (x, v) ∉ binds) → bindC kindOf binds m x = m x
  | [], _, _ => rfl
  | (n, v) :: r, m, h => by
    unfold bindC
    rw [bindC_out fun w hw => h w (List.mem_cons_of_mem _ hw)]
    split
    · rfl
    · have : x ≠ n := by rintro rfl; exact h v List.mem_cons_self
      simp [this]
theorem bindL_get {kindOf : Str → Option NameKind} {x : Str} {v : Value} : ∀ {P : List Str} {vs : List Value} {i : Nat} {m : Str → Option Value}, P.Nodup → P[i]? = some x → vs[i]? = some v → kindOf x = some .local →
    bindL kindOf (P.zip vs) m x = some v
  | [], _, _, _, _, h, _, _ => by simp at h
  | _ :: _, [], _, _, _, _, h, _ => by simp at h
  | p :: P, w :: vs, 0, m, nd, h1, h2, hk => by
    simp at h1 h2; subst h1; subst h2
    show bindL kindOf ((p, w) :: P.zip vs) m p = _
    unfold bindL
    rw [bindL_out fun v hv => (List.nodup_cons.mp nd).1 (List.of_mem_zip hv).1, if_pos hk]
    simp
  | p :: P, w :: vs, i + 1, m, nd, h1, h2, hk => by
    show bindL kindOf ((p, w) :: P.zip vs) m x = _
    unfold bindL
    exact bindL_get (i := i) (List.nodup_cons.mp nd).2 (by simpa using h1) (by simpa using h2) hk
theorem bindC_get {kindOf : Str → Option NameKind} {x : Str} {v : Value} : ∀ {P : List Str} {vs : List Value} {i : Nat} {m : Str → Option Value}, P.Nodup → P[i]? = some x → vs[i]? = some v → kindOf x ≠ some .local →
    bindC kindOf (P.zip vs) m x = some v
  | [], _, _, _, _, h, _, _ => by simp at h
  | _ :: _, [], _, _, _, _, h, _ => by simp at h
  | p :: P, w :: vs, 0, m, nd, h1, h2, hk => by
    simp at h1 h2; subst h1; subst h2
    show bindC kindOf ((p, w) :: P.zip vs) m p = _
    unfold bindC
    rw [bindC_out fun v hv => (List.nodup_cons.mp nd).1 (List.of_mem_zip hv).1, if_neg hk]
    simp
  | p :: P, w :: vs, i + 1, m, nd, h1, h2, hk => by
    show bindC kindOf ((p, w) :: P.zip vs) m x = _
    unfold bindC
    exact bindC_get (i := i) (List.nodup_cons.mp nd).2 (by simpa using h1) (by simpa using h2) hk
def start (N : List Str) (vs : List V) : St := vs.map some ++ List.replicate (N.length - vs.length) none
def cxOf (CX : CXT) (P : Program) (w : World) (K : PySem.W.Frag) (mg : Str → Option Value) (base : Heap) (N : List Str) (qual : Str) (scope : Scope) (f : Addr) (cd : Value) (A : Around) (outer : List Env) (s : Shared) (H : Hp) (E : XK) : Cx where
  prog := P
  w := w
  K := K
  mg := mg
  base := base
  A := A.deeper (envOfC qual scope s.heap.objs.size f cd)
  N := N
  s₀ := s
  H₀ := H
  env := envOfC qual scope s.heap.objs.size f cd
  outer := outer
  stack := envOfC qual scope s.heap.objs.size f cd :: outer
  ex := []
  calm := true
  fn := fun _ => true
  pn := []
  xe := fun e s' => wpAny (model P w) (A.deeper (envOfC qual scope s.heap.objs.size f cd)) (leaving (envOfC qual scope s.heap.objs.size f cd) e) (fun _ s'' => CX outer H s E e s'') (fun e' s'' => CX outer H s E e' s'') s'
theorem cell_has {sc : Scope} {n : Nat} {x : Str} (h : sc.names.lookup x = some .cell) : ∃ c, (cellsFrom n sc.names []).lookup x = some c := by
  have q := PySem.W.cellsFrom_some sc.names n [] (.inl h)
  exact Option.isSome_iff_exists.mp q
theorem inv_start {CX : CXT} {P : Program} {w : World} {K : PySem.W.Frag} {mg : Str → Option Value} {base : Heap} {N ps : List Str} {qual : Str} {scope : Scope} {f : Addr} {cd : Value} {A : Around} {outer : List Env} {s s1 : Shared} {H : Hp} {E : XK} {us : List Value} {vs : List V}
    (S : FnScope N ps scope) (hd : A.handled = none) (e0 : Env0 P w K mg base A outer s H) (hl : vs.length = ps.length) (r : Vals vs us)
    (x : InCallC s s.heap.objs.size (bindL (envOfC qual scope s.heap.objs.size f cd).kindOf (ps.zip us) fun _ => none) (cellsFrom (s.heap.objs.size + 1) scope.names []) (bindC (envOfC qual scope s.heap.objs.size f cd).kindOf (ps.zip us) fun _ => none) s1) :
    Inv (cxOf CX P w K mg base N qual scope f cd A outer s H E) [] (start N vs) H s1 := by
  have hpl : ps.length ≤ N.length := by have := congrArg List.length S.pre; rw [List.length_take] at this; omega
  obtain ⟨h1, tk, rfl, hk⟩ := x.done
  have noA : ∀ b : Addr, b ∉ (cxOf CX P w K mg base N qual scope f cd A outer s H E).ex := fun b z => absurd (show b ∈ ([] : List Addr) from z) (by simp)
  refine ⟨⟨e0.mod, S.kind, rfl, rfl, Nat.le_refl _, fun y z c h1 h2 => ?_, fun y hy => ?_, fun y c _ h => ?_, fun _ => hd, Around.frames_deeper e0.frames, .inr ⟨rfl, rfl⟩, fun b z => absurd z (noA b), e0.bs, e0.bsz, fun b _ _ => noA b, fun b z => absurd z (noA b), e0.funs, e0.frf⟩,
    rfl, e0.bare, Un.kept hk, ⟨_, x.toInCall.ns, fun i y v h1 h2 h3 => ?_⟩, fun y c h => ⟨_, x.cell y c h⟩, e0.hok.fresh (Nat.le_refl _), fun y c h => ?_, fun p hp => absurd (show p ∈ ([] : List (Addr × Obj)) from hp) (by simp), e0.hok.kept hk, ?_⟩
  · exact name_of_addr x.apart (PySem.mem_of_lookup h1) (PySem.mem_of_lookup h2)
  · have hy : scope.names.lookup y = some .cell ∨ scope.names.lookup y = some .free := hy
    rcases hy with hy | hy
    · exact cell_has hy
    · exact absurd rfl (S.nofree _ (PySem.mem_of_lookup hy))
  · exact Nat.le_of_lt (x.above y c (PySem.mem_of_lookup h))
  · have hi : i < vs.length := by
      unfold start at h2
      by_cases hi : i < vs.length
      · exact hi
      · rw [List.getElem?_append_right (by simpa using hi)] at h2
        rw [List.getElem?_replicate] at h2
        split at h2 <;> cases h2
    have ha : vs[i]? = some v := by
      unfold start at h2
      rw [List.getElem?_append_left (by simpa using hi), List.getElem?_map] at h2
      cases e : vs[i]? with
      | none => rw [e] at h2; cases h2
      | some a => rw [e] at h2; cases h2; rfl
    obtain ⟨u, hu, rv⟩ := r.get ha
    have hp : ps[i]? = some y := by
      rw [← S.pre, List.getElem?_take_of_lt (by omega)]; exact h1
    have ndP : ps.Nodup := by rw [← S.pre]; exact S.nd.sublist (List.take_sublist _ _)
    refine ⟨u, rv, ?_⟩
    rcases S.par y (List.mem_of_getElem? hp) with k | k
    · exact .inl ⟨k, bindL_get ndP hp hu k⟩
    · obtain ⟨c, e⟩ := cell_has (n := s.heap.objs.size + 1) k
      refine .inr ⟨.inl k, c, e, ?_⟩
      have q := x.cell y c e
      rw [bindC_get ndP hp hu (by show scope.names.lookup y ≠ _; rw [k]; decide)] at q
      exact q
  · exact e0.hok.fresh (Nat.le_of_lt (x.above y c (PySem.mem_of_lookup h)))
  · unfold start
    show _ = N.length
    rw [List.length_append, List.length_map, List.length_replicate]
    omega
theorem fn_of {CX : CXT} {P : Program} {w : World} {K : PySem.W.Frag} {mg : Str → Option Value} {base : Heap} {k : Nat} {f : Addr} {name qual : Str} {params : Arguments} {body : List Stmt} {scope : Scope} {dV kV doc pm cdv ct oc : Value} {an od : Option Addr}
    {osl : Array (Option Value)} {N ps : List Str} {sp : Sp} (lk : K.lookup f = some ⟨oc, od, .func (PySem.W.fnOf name qual params body scope dV kV doc pm an cdv ct), osl⟩) (hcd : PySem.W.codeIn K cdv qual = true) (S : FnScope N ps scope)
    (len : ∀ vs H Q E, sp vs H Q E → vs.length = ps.length)
    (hbody : ∀ (A : Around) (outer : List Env) (s : Shared) (H : Hp) (vs : List V) (Q : VK) (E : XK), Room k (A.deeper (envOfC qual scope s.heap.objs.size f cdv)) → sp vs H Q E →
      ∃ t, PSs (cxOf CX P w K mg base N qual scope f cdv A outer s H E) body t ∧ t { nx := fun _ H' => Q .non H', rt := Q } (start N vs) H) :
    FnOk P w K mg base CX (k + 1) f (PySem.W.fnOf name qual params body scope dV kV doc pm an cdv ct) ps sp := by
  refine ⟨len, fun A outer s H args us vs Q E hr e0 hb r hsp => ?_⟩
  have hl := len _ _ _ _ hsp
  have KX : K.In s.heap := e0.mod.kin.keeps fun b o e => (e0.bs b o e).1
  have lim : s.heap.NoLimit := e0.mod.nolimit.keeps fun b o e => (e0.bs b o e).1
  have hkind : ∀ y ∈ ps.zip us, scope.names.lookup y.1 = some .local ∨ (scope.names.lookup y.1 = some .cell ∧ ((cellsFrom (s.heap.objs.size + 1) scope.names []).lookup y.1).isSome = true) := fun ⟨n, v⟩ hy => by
    rcases S.par n (List.of_mem_zip hy).1 with q | q
    · exact .inl q
    · exact .inr ⟨q, PySem.W.cellsFrom_some _ _ _ (.inl q)⟩
  refine codeAny_call_function hr.depth (KX _ _ lk) rfl S.co S.gen rfl (PySem.W.codeRec_of KX hcd) (hb _ _ _ _ ?_)
  refine wpAny_newFunctionEnv_cells S.kind hkind fun env he s1 x => ?_
  subst he
  refine ⟨lim.keeps x.toInCall.keep, codeAny_func ?_⟩
  obtain ⟨t, ht, hq⟩ := hbody A outer s H vs Q E (hr.deeper _) hsp
  have I : Inv (cxOf CX P w K mg base N qual scope f cdv A outer s H E) [] (start N vs) H s1 := inv_start S hr.hd e0 hl r x
  refine wpAny_mono (ht [] s1 (start N vs) H _ I hq) (fun fl s' hs => ?_) fun e s' hs => hs
  have fin : ∀ {σ' : St} {H' : Hp} {v : V} {u : Value}, Inv (cxOf CX P w K mg base N qual scope f cdv A outer s H E) [] σ' H' s' → RelV v u → Q v H' → CE outer P w H s Q u s' :=
    fun {σ' H' v u} J rv q => ⟨v, H', J.os, J.bare, J.base, J.hok, rv, q⟩
  cases fl with
  | ret u =>
    obtain ⟨v, σ', H', J, rv, q⟩ := hs
    exact fin J rv q
  | next =>
    obtain ⟨σ', H', J, q⟩ := hs
    exact fin (v := V.non) (u := Value.none) J rfl q
  | brk =>
    obtain ⟨_, _, _, q⟩ := hs
    exact False.elim q
  | cont =>
    obtain ⟨_, _, _, q⟩ := hs
    exact False.elim q
end L2
namespace L2
open PySem PySem.Spec PyProof.Rows
section
variable {X : Cx} {x : Str} {p pos : Pos} {e : Expr} {es : List Expr} {t : TA} {id T : String} {r : List V → Hp → VK → Prop}
def tCB (r : List V → Hp → VK → Prop) (t : TA) : TE := fun σ H Q => t σ H fun vs H1 => r vs H1 Q
theorem pe_callB (hc : CallR X (.builtin id) r) (hg : Gl X x) (hm : X.mg x = none) (hv : bootBuiltins x = some (.builtin id)) (ha : PA X (e :: es) t) (hn : x ≠ "__name__" := by decide) (hdb : (x == ("__debug__" : Str)) = false := by decide)
    (he : starEach (e :: es) X.env = (false, eval e X.env) :: starEach es X.env := by rfl) (hpl : (backTo pos (starEach es X.env)).any (·.1) = false := by rfl) : PE X (.Call (.Name x p) (e :: es) [] pos) (tCB r t) := by
  intro pins s σ H Q I h
  refine wpAny_Call_Name_kw (ld_blt I hg hm hv ?_ hn hdb)
  exact PyProof.Rows.callWith_builtin1 (thn (ha pos pins s σ H _ I h) fun us s1 ⟨vs, H1, I1, r1, q1⟩ => hc pins s1 σ H1 vs us Q I1 r1 q1) he hpl
theorem pe_callTy (hc : CallR X (.type T) r) (hg : Gl X x) (hm : X.mg x = none) (hv : bootBuiltins x = some (.type T)) (ha : PA X (e :: es) t) (hn : x ≠ "__name__" := by decide) (hdb : (x == ("__debug__" : Str)) = false := by decide)
    (he : starEach (e :: es) X.env = (false, eval e X.env) :: starEach es X.env := by rfl) (hpl : (backTo pos (starEach es X.env)).any (·.1) = false := by rfl) : PE X (.Call (.Name x p) (e :: es) [] pos) (tCB r t) := by
  intro pins s σ H Q I h
  refine wpAny_Call_Name_kw (ld_blt I hg hm hv ?_ hn hdb)
  exact PyProof.Rows.callWith_type1 (thn (ha pos pins s σ H _ I h) fun us s1 ⟨vs, H1, I1, r1, q1⟩ => hc pins s1 σ H1 vs us Q I1 r1 q1) he hpl
end
end L2
namespace HT
open PySem PyProof.Rows
def lexLt : List Int → List Int → Bool
  | [], [] => false
  | [], _ :: _ => true
  | _ :: _, [] => false
  | x :: xs, y :: ys => if x = y then lexLt xs ys else decide (x < y)
theorem lexLt_cons (x y : Int) (xs ys : List Int) : lexLt (x :: xs) (y :: ys) = if x = y then lexLt xs ys else decide (x < y) := rfl
theorem lexLt_nil_nil : lexLt [] [] = false := rfl
theorem lexLt_nil_cons (y : Int) (ys : List Int) : lexLt [] (y :: ys) = true := rfl
theorem lexLt_cons_nil (x : Int) (xs : List Int) : lexLt (x :: xs) [] = false := rfl
theorem eqAt_int (A : Around) (s : Shared) (a : Int) (t : Tok) (c : Int) (u : Tok) : ∃ e, SeqAt.EqAt A s (.int a t) (.int c u) e ∧ (e = true ↔ a = c) :=
  ⟨(a == c), SeqAt.EqAt.int_int a t c u, by simp⟩
theorem rcLt_int (A : Around) (s : Shared) (a : Int) (t : Tok) (c : Int) (u : Tok) (prog : Program) (w : World) (E : Value → Shared → Prop) (Q : Value → Shared → Prop) (h : Q (.bool (decide (a < c))) s) :
    wpAny (model prog w) A (richCompare .Lt (.int a t) (.int c u)) Q E s :=
  (PyProof.Rows.lt_int h : wpAny (model prog w) A (compareOp .Lt (.int a t) (.int c u)) Q E s)
section
open PySem.SeqAt
open PySem.AutoSeq1 (wpAny_loadPart')
open PySem.MeetsSeq PySem.MeetsSeq2 PySem.MeetsSeq3
theorem tuple_lt_ints (l b : Addr) (items items2 : Array Value) (n n2 : Nat) (dd dd2 : Option Addr) (sl sl2 : Array (Option Value)) (ns ms : List Int) (hi : IntsAre items.toList ns) (hj : IntsAre items2.toList ms) :
    Meets (Builtin.«tuple.__lt__» ⟨[.ref l, .ref b], []⟩)
      (fun _ R s => s.heap.get? l = some { cls := .type "tuple", dict := dd, data := .seq items n, slots := sl } ∧ s.heap.get? b = some { cls := .type "tuple", dict := dd2, data := .seq items2 n2, slots := sl2 } ∧
        R (.ok (.ret (.bool (lexLt ns ms)))) s) :=
  .of_wp fun prog w A R s h => by
    obtain ⟨hp, g, d, tk, os⟩ := s; obtain ⟨hl, hb, h⟩ := h
    have f2 := AutoSeq1.sub_tuple_tuple
    have z1 : items.size = ns.length := by rw [← hi.length]; simp
    have z2 : items2.size = ms.length := by rw [← hj.length]; simp
    wp_walk using wpAny_loadPart' hl, wpAny_loadPart' hb, wpAny_forIn_list _ (fun rest b s' => b.1 = none ∧ s' = ⟨hp, g, d, tk, os⟩ ∧ ∃ (vs ws : List Value) (ns' ms' : List Int), rest = vs.zip ws ∧
      IntsAre vs ns' ∧ IntsAre ws ms' ∧ ns'.length + items2.size = ms'.length + items.size ∧ R (.ok (.ret (.bool (lexLt ns' ms')))) ⟨hp, g, d, tk, os⟩) _
    case turn =>
      rintro ⟨y, x⟩ rest b s' ⟨hb', rfl, vs, ws, ns', ms', hz, hvi, hwi, hlen, hR⟩
      cases hvi with
      | nil => rw [List.zip_nil_left] at hz; cases hz
      | cons a t hvi' =>
        cases hwi with
        | nil => rw [List.zip_nil_right] at hz; cases hz
        | cons c u hwi' =>
          rw [List.zip_cons_cons] at hz
          injection hz with hyx hrest
          injection hyx with hy hx
          subst hy hx
          rw [lexLt_cons] at hR
          simp only [List.length_cons] at hlen
          obtain ⟨e, he, hiff⟩ := eqAt_int A.in1 ⟨hp, g, d, tk, os⟩ a t c u
          refine wpAny_bind (he prog w _ _ ?_)
          cases e with
          | true =>
            rw [if_pos (hiff.mp rfl)] at hR
            wp_walk
            exact ⟨rfl, rfl, _, _, _, _, hrest, hvi', hwi', by omega, hR⟩
          | false =>
            rw [if_neg (fun q => absurd (hiff.mpr q) Bool.false_ne_true)] at hR
            have hri := rcLt_int A.in1 ⟨hp, g, d, tk, os⟩ a t c u prog w
            wp_walk using hri
            exact ⟨_, rfl, by simpa using hR⟩
    case fin =>
      rintro ⟨b1, b2⟩ s' ⟨hb', rfl, vs, ws, ns', ms', hz, hvi, hwi, hlen, hR⟩
      simp only at hb'
      subst hb'
      have hv : lexLt ns' ms' = decide (items.size < items2.size) := by
        cases hvi with
        | nil =>
          cases hwi with
          | nil =>
            simp only [List.length_nil] at hlen
            rw [lexLt_nil_nil]
            exact (decide_eq_false (by omega)).symm
          | cons c u hw =>
            simp only [List.length_nil, List.length_cons] at hlen
            rw [lexLt_nil_cons]
            exact (decide_eq_true (by omega)).symm
        | cons a t hv =>
          cases hwi with
          | nil =>
            simp only [List.length_nil, List.length_cons] at hlen
            rw [lexLt_cons_nil]
            exact (decide_eq_false (by omega)).symm
          | cons c u hw =>
            rw [List.zip_cons_cons] at hz
            cases hz
      rw [hv] at hR
      wp_walk
      exact ⟨_, rfl, by simpa [Builtin.Tuple.tupleCompareSizes] using hR⟩
    case h =>
      exact ⟨rfl, rfl, items.toList, items2.toList, ns, ms, rfl, hi, hj, by omega, h⟩
end
section
variable {prog : Program} {w : World} {A : Around} {E : Value → Shared → Prop} {s : Shared}
theorem lt_tupInts {l b : Addr} {items items2 : Array Value} {ns ms : List Int} {Q : Value → Shared → Prop} (hl : IsTup s.heap l items) (hb : IsTup s.heap b items2) (hi : IntsAre items.toList ns) (hj : IntsAre items2.toList ms)
    (hu : A.units < cLine) (h : Q (.bool (lexLt ns ms)) s) : wpAny (model prog w) A (compareOp .Lt (.ref l) (.ref b)) Q E s := by
  obtain ⟨⟨cls, dd, data, sl⟩, ho, hc, n, hd⟩ := id hl
  obtain ⟨⟨cls2, dd2, data2, sl2⟩, ho2, hc2, n2, hd2⟩ := id hb
  simp only at hc hd hc2 hd2
  subst hc hd hc2 hd2
  exact richCompare_meets_room (op := .Lt) ⟨_, ho, rfl⟩ ⟨_, ho2, rfl⟩ PySem.F.slot_tuple_lt PySem.F.entry_tuple_lt (PySem.F.args_tuple_lt_2 _ _) (tuple_lt_ints l b items items2 n n2 dd dd2 sl sl2 ns ms hi hj)
    ⟨ho, ho2, show Value.bool (lexLt ns ms) ≠ Value.notImplemented ∧ Q (.bool (lexLt ns ms)) s from ⟨(fun x => nomatch x), h⟩⟩ hu
def sIx (n d : Nat) : Option Int → Nat
  | none => d
  | some v => if v < 0 then (v + (n : Int)).toNat else min v.toNat n
end
end HT
namespace L2
open PySem PySem.Spec PyProof.Rows
abbrev TO := St → Hp → (Option Int → Hp → Prop) → Prop
def PO (X : Cx) (e : Option Expr) (t : TO) : Prop :=
  ∀ (pins : List (Addr × Obj)) (s : Shared) (σ : St) (H : Hp) (Q : Option Int → Hp → Prop), Inv X pins σ H s → t σ H Q →
    wpAny (model X.prog X.w) X.A (evalPart e X.env) (fun u s' => ∃ o H', Inv X pins σ H' s' ∧ IsPart u o ∧ Q o H') X.xe s
def tNoPart : TO := fun _ H Q => Q none H
def tPart (t : TE) : TO := fun σ H Q => t σ H fun x H1 => ∃ i, x = .int i ∧ Q (some i) H1
theorem intsAre_of {ns : List Int} : ∀ {us : List Value}, Vals (ns.map V.int) us → IntsAre us ns := by
  induction ns with
  | nil => intro us r; rw [List.map_nil] at r; cases r; exact .nil
  | cons n ns ih =>
    intro us r
    rw [List.map_cons] at r
    cases r with
    | cons r1 r2 =>
      obtain ⟨t, e⟩ := r1
      subst e
      exact .cons n t (ih r2)
section
variable {X : Cx} {e : Expr} {te : TE} {lo hi : Option Expr} {tl th : TO} {pos p2 : Pos}
theorem po_none : PO X none tNoPart := by
  intro pins s σ H Q I h
  rw [evalPart_none]
  exact wpAny_pure ⟨none, H, I, .none, h⟩
theorem po_some (h : PE X e te) : PO X (some e) (tPart te) := by
  intro pins s σ H Q I hw
  rw [evalPart_some]
  refine thn (h pins s σ H _ I hw) fun u s1 ⟨x, H1, I1, r1, q1⟩ => ?_
  obtain ⟨i, rfl, q⟩ := q1
  obtain ⟨t, rfl⟩ := r1
  exact ⟨some i, H1, I1, .int i t, q⟩
def SlR (X : Cx) (r : V → Option Int → Option Int → Hp → VK → Prop) : Prop :=
  ∀ (pins : List (Addr × Obj)) (s : Shared) (σ : St) (H : Hp) (x : V) (v vl vu : Value) (lo hi : Option Int) (sl : Addr) (Q : VK), Inv X pins σ H s → RelV x v → s.heap.IsSliceOf sl vl vu .none → IsPart vl lo → IsPart vu hi → r x lo hi H Q →
    ∃ T id, typeLookup (.type T) "__getitem__" = pure (some (.builtin id)) ∧ s.TypeIs v T ∧ wpAny (model X.prog X.w) X.A (getItem v (.ref sl)) (EP X pins σ Q) X.xe s
def tSl (r : V → Option Int → Option Int → Hp → VK → Prop) (te : TE) (tl th : TO) : TE := fun σ H Q => te σ H fun x H1 => tl σ H1 fun l H2 => th σ H2 fun u H3 => r x l u H3 Q
theorem pe_slice {r : V → Option Int → Option Int → Hp → VK → Prop} (hr : SlR X r) (he : PE X e te) (hl : PO X lo tl) (hu : PO X hi th) : PE X (.Subscript e (.Slice lo hi none p2) pos) (tSl r te tl th) := by
  intro pins s σ H Q I h
  refine Subscript_ (thn (he pins s σ H _ I h) fun v s1 ⟨x, H1, I1, r1, q1⟩ => ?_)
  refine wpAny_Slice (thn (hl pins s1 σ H1 _ I1 q1) fun vl s2 ⟨l, H2, I2, pl, q2⟩ => thn (hu pins s2 σ H2 _ I2 q2) fun vu s3 ⟨u, H3, I3, pu, q3⟩ => ?_)
  rw [evalPart_none]
  refine wpAny_pure ?_
  have I4 : Inv X pins σ H3 { s3 with heap := s3.heap.push { cls := .type "slice", data := .fields #[vl, vu, .none] } } := I3.kept (t' := s3.toks) fun b ob q => Heap.get?_push_of_some _ q
  obtain ⟨T, id, hT, ht, hg⟩ := hr pins { s3 with heap := s3.heap.push { cls := .type "slice", data := .fields #[vl, vu, .none] } } σ H3 x v vl vu l u s3.heap.objs.size Q I4 r1 (Heap.IsSliceOf.new ..) pl pu q3
  show wpAny (model X.prog X.w) X.A (subscriptTail e (.Slice lo hi none p2) v (.ref s3.heap.objs.size)) (EP X pins σ Q) X.xe { s3 with heap := s3.heap.push { cls := .type "slice", data := .fields #[vl, vu, .none] } }
  exact tail_any (ops := [.ref s3.heap.objs.size, v]) ht hT hg (by with_unfolding_all rfl)
def cutV (xs : List V) (lo hi : Option Int) : List V := (xs.drop (HT.sIx xs.length 0 lo)).take (HT.sIx xs.length xs.length hi - HT.sIx xs.length 0 lo)
theorem cutV_length (xs : List V) (lo hi : Option Int) : (cutV xs lo hi).length ≤ xs.length := by
  unfold cutV
  rw [List.length_take, List.length_drop]
  omega
end
end L2
namespace L2
open PySem PySem.Spec PyProof.Rows
def ixN (n : Nat) (i : Int) : Option Nat := if 0 ≤ i then (if i < n then some i.toNat else none) else if -(n : Int) ≤ i then some (i + n).toNat else none
def atI {α : Type} (xs : List α) (i : Int) : Option α := (ixN xs.length i).bind fun j => xs[j]?
theorem ixN_seq {n : Nat} {i : Int} {j : Nat} (h : ixN n i = some j) : seqIndex? i n = some j ∧ j < n ∧ -(n : Int) ≤ i ∧ i < n := by
  unfold ixN at h
  by_cases h0 : 0 ≤ i
  · rw [if_pos h0] at h
    by_cases h1 : i < n
    · rw [if_pos h1] at h
      have e : i.toNat = j := Option.some.inj h
      exact ⟨by rw [seqIndex_of h0 h1, e], by omega, by omega, h1⟩
    · rw [if_neg h1] at h; cases h
  · rw [if_neg h0] at h
    by_cases h1 : -(n : Int) ≤ i
    · rw [if_pos h1] at h
      have e : (i + n).toNat = j := Option.some.inj h
      exact ⟨by rw [seqIndex_neg (by omega) h1, e], by omega, h1, by omega⟩
    · rw [if_neg h1] at h; cases h
theorem atI_get {α : Type} {xs : List α} {i : Int} {v : α} (h : atI xs i = some v) : ∃ j, seqIndex? i xs.length = some j ∧ xs[j]? = some v ∧ j < xs.length ∧ -(xs.length : Int) ≤ i ∧ i < xs.length := by
  unfold atI at h
  cases e : ixN xs.length i with
  | none => rw [e] at h; cases h
  | some j =>
    rw [e] at h
    obtain ⟨h1, h2, h3, h4⟩ := ixN_seq e
    exact ⟨j, h1, h, h2, h3, h4⟩
theorem atI_nat {α : Type} {xs : List α} {j : Nat} {v : α} (h : xs[j]? = some v) : atI xs (j : Int) = some v := by
  have hj : j < xs.length := (List.getElem?_eq_some_iff.mp h).1
  have e : ixN xs.length (j : Int) = some j := by
    unfold ixN
    rw [if_pos (by omega), if_pos (by omega)]; simp
  unfold atI; rw [e]; exact h
def PlainIx (b : Expr) : Prop := ∀ o i, subscripted b false o i = operate [o, i] (getItem o i)
def IxR (X : Cx) (r : R2) : Prop :=
  ∀ (value slice : Expr) (pins : List (Addr × Obj)) (s : Shared) (σ : St) (H : Hp) (x y : V) (v u : Value) (Q : VK), Inv X pins σ H s → RelV x v → RelV y u → r x y H Q →
    subscripted slice false v u = operate [v, u] (getItem v u) → wpAny (model X.prog X.w) X.A (subscriptTail value slice v u) (EP X pins σ Q) X.xe s
def MtR (X : Cx) (id : String) (r : V → List V → Hp → VK → Prop) : Prop :=
  ∀ (pins : List (Addr × Obj)) (s : Shared) (σ : St) (H : Hp) (x : V) (xs : List V) (v : Value) (us : List Value) (Q : VK), Inv X pins σ H s → RelV x v → Vals xs us → r x xs H Q →
    wpAny (model X.prog X.w) X.A (call (.builtin id) (v :: us)) (EP X pins σ Q) X.xe s
section
variable {X : Cx} {a b : Expr} {ta tb : TE} {pos : Pos}
theorem pe_ix {r : R2} (hr : IxR X r) (ha : PE X a ta) (hb : PE X b tb) (hs : PlainIx b) : PE X (.Subscript a b pos) (tOp r ta tb) := by
  intro pins s σ H Q I h
  exact Subscript_ (binT ha hb I h fun v u s2 x y H2 I2 rx ry q => hr a b pins s2 σ H2 x y v u Q I2 rx ry q (hs _ _))
def rIxL (K : PySem.W.Frag) : R2 := fun x y H Q => ∃ p xs i v, x = .ref p ∧ y = .int i ∧ SqL K H p xs ∧ atI xs i = some v ∧ Q v H
def rIxT (K : PySem.W.Frag) : R2 := fun x y H Q => ∃ p xs i v, x = .ref p ∧ y = .int i ∧ SqT K H p xs ∧ atI xs i = some v ∧ Q v H
theorem ix_list : IxR X (rIxL X.K) := by
  intro value slice pins s σ H x y v u Q I rx ry h hs
  obtain ⟨p, xs, i, z, rfl, rfl, hq, he, q⟩ := h
  cases rx
  obtain ⟨t, rfl⟩ := ry
  obtain ⟨its, r, pl, hz⟩ := I.list hq
  obtain ⟨j, h1, h2, h3, h4, h5⟩ := atI_get he
  obtain ⟨w, ew, rw'⟩ := r.get h2
  have hl := r.length
  have hn := line63
  have fin : EP X pins σ Q w s := ⟨z, H, I, rw', q⟩
  by_cases h0 : 0 ≤ i
  · have hj : i.toNat = j := by
      rw [seqIndex_of h0 h5] at h1
      exact Option.some.inj h1
    exact item_listR pl.isList h0 (by omega) (by rw [hj]; simpa using ew) fin hs
  · have hj : (i + (its.toArray.size : Int)).toNat = j := by
      rw [seqIndex_neg (by omega) h4] at h1
      rw [List.size_toArray, ← hl]
      exact Option.some.inj h1
    exact subscriptTail_builtinR (x := w) pl.isList.typeIs slot_list_getitem.lookup
      (wpAny_getItem_list_neg (Q := fun r s' => r = w ∧ EP X pins σ Q r s') pl.isList (by omega) (by rw [List.size_toArray] <;> omega) (by omega) (by rw [hj]; simpa using ew) ⟨rfl, fin⟩) hs
theorem ix_tup : IxR X (rIxT X.K) := by
  intro value slice pins s σ H x y v u Q I rx ry h hs
  obtain ⟨p, xs, i, z, rfl, rfl, hq, he, q⟩ := h
  cases rx
  obtain ⟨t, rfl⟩ := ry
  obtain ⟨its, r, pl, hz⟩ := I.tuple hq
  obtain ⟨j, h1, h2, h3, h4, h5⟩ := atI_get he
  obtain ⟨w, ew, rw'⟩ := r.get h2
  have hl := r.length
  have hn := line63
  have fin : EP X pins σ Q w s := ⟨z, H, I, rw', q⟩
  exact subscriptTail_builtinR (x := w) pl.typeIs slot_tuple_getitem.lookup
    (getItem_tuple (j := j) (Q := fun r s' => r = w ∧ EP X pins σ Q r s') pl (by omega) (by omega) (by rw [List.size_toArray, ← hl]; exact h1) (by simpa using ew) ⟨rfl, fin⟩) hs
theorem mapSeq_set (its : List Value) (n j : Nat) (u : Value) : Obj.mapSeq (·.setIfInBounds j u) { cls := .type "list", data := .seq its.toArray n } = { cls := .type "list", data := .seq (its.set j u).toArray n } := by
  simp [Obj.mapSeq]
theorem Inv.lst {pins : List (Addr × Obj)} {σ : St} {H : Hp} {s : Shared} {p : Addr} {xs : List V} (I : Inv X pins σ H s) (h : H p = some (.lst xs)) :
    ∃ (its : List Value) (n : Nat), Vals xs its ∧ s.heap.get? p = some { cls := .type "list", data := .seq its.toArray n } ∧ xs.length ≤ sizeLine := by
  obtain ⟨z, its, n, r, e⟩ := I.hok p _ h
  exact ⟨its, n, r, e, z⟩
theorem Inv.lstUpd {pins : List (Addr × Obj)} {σ : St} {H : Hp} {s : Shared} {p : Addr} {xs ys : List V} {its its' : List Value} {n n' : Nat} {f : Obj → Obj} (I : Inv X pins σ H s) (h : H p = some (.lst xs))
    (ho : s.heap.get? p = some { cls := .type "list", data := .seq its.toArray n }) (hf : f { cls := .type "list", data := .seq its.toArray n } = { cls := .type "list", data := .seq its'.toArray n' }) (r : Vals ys its') (hz : ys.length ≤ sizeLine) (t : Nat) :
    Inv X pins σ (upd H p (.lst ys)) { s with heap := s.heap.update p f, toks := t } := by
  have e : (s.heap.update p f).get? p = some { cls := .type "list", data := .seq its'.toArray n' } := by
    rw [Heap.get?_update_self f ho (by rw [hf] <;> rfl), hf]
  refine I.write (x := p) (e := p) (by rw [h]; trivial) (.inl rfl) (fun b u hb q => (Heap.get?_update_other _ _ (Ne.symm hb)).trans q) ⟨_, e⟩ ?_
  exact ⟨hz, its', n', r, e⟩
def rSetL : V → V → V → Hp → (Hp → Prop) → Prop := fun o i v H Q => ∃ p xs k j, o = .ref p ∧ i = .int k ∧ H p = some (.lst xs) ∧ ixN xs.length k = some j ∧ Q (upd H p (.lst (xs.set j v)))
theorem set_list : PSet X rSetL := by
  intro pins s σ H o i v ov iv u Q I ro ri rv h
  obtain ⟨p, xs, k, j, rfl, rfl, hp, hj, q⟩ := h
  cases ro
  obtain ⟨t, rfl⟩ := ri
  obtain ⟨its, n, r, ho, hz⟩ := I.lst hp
  obtain ⟨h1, h2, h3, h4⟩ := ixN_seq hj
  have hl := r.length
  have hn := line63
  have I' : Inv X pins σ (upd H p (.lst (xs.set j v))) { s with heap := s.heap.update p (Obj.mapSeq (·.setIfInBounds j u)) } :=
    I.lstUpd hp ho (mapSeq_set its n j u) (r.set rv j) (by rw [List.length_set]; exact hz) s.toks
  by_cases h0 : 0 ≤ k
  · have hk : k.toNat = j := by
      rw [seqIndex_of h0 h4] at h1
      exact Option.some.inj h1
    exact PySem.W.ki_setAt ho h0 (by omega) (by rw [List.size_toArray, ← hl]; exact h4) (by rw [hk]; exact ⟨_, I', q⟩)
  · have hk : (k + (its.toArray.size : Int)).toNat = j := by
      rw [seqIndex_neg (by omega) h3] at h1
      rw [List.size_toArray, ← hl]
      exact Option.some.inj h1
    exact PySem.W.ki_setBack ho (by omega) (by rw [List.size_toArray, ← hl]; exact h3) (by omega) (by rw [hk]; exact ⟨_, I', q⟩)
theorem slice_bounds (lo hi : Option Int) (n : Nat) : (sliceBounds lo hi none n).1 = ((HT.sIx n 0 lo : Nat) : Int) ∧ (sliceBounds lo hi none n).2.1 = ((HT.sIx n n hi : Nat) : Int) ∧ (sliceBounds lo hi none n).2.2 = 1 := by
  refine ⟨?_, ?_, rfl⟩
  · cases lo with
    | none => simp [sliceBounds, HT.sIx]
    | some i =>
      simp only [sliceBounds, HT.sIx, Option.getD_none, show (1 : Int) > 0 by decide, if_true]
      by_cases h : i < 0
      · simp only [h, if_true] <;> omega
      · simp only [h, if_false] <;> omega
  · cases hi with
    | none => simp [sliceBounds, HT.sIx]
    | some i =>
      simp only [sliceBounds, HT.sIx, Option.getD_none, show (1 : Int) > 0 by decide, if_true]
      by_cases h : i < 0
      · simp only [h, if_true] <;> omega
      · simp only [h, if_false] <;> omega
theorem slicePick_cut (its : List Value) (lo hi : Option Int) : slicePick its.toArray lo hi none = ((its.drop (HT.sIx its.length 0 lo)).take (HT.sIx its.length its.length hi - HT.sIx its.length 0 lo)).toArray := by
  obtain ⟨h1, h2, h3⟩ := slice_bounds lo hi its.toArray.size
  unfold slicePick
  rw [h1, h2, h3]
  simp only [sliceRange_one, pick_run, List.size_toArray] <;> rfl
def rSlL (K : PySem.W.Frag) : V → Option Int → Option Int → Hp → VK → Prop := fun x lo hi H Q => ∃ a xs, x = .ref a ∧ SqL K H a xs ∧ ∀ p, H p = none → Q (.ref p) (upd H p (.lst (cutV xs lo hi)))
theorem sl_list : SlR X (rSlL X.K) := by
  intro pins s σ H x v vl vu lo hi sl Q I rx hs pl pu h
  obtain ⟨a, xs, rfl, hx, q⟩ := h
  cases rx
  obtain ⟨its, r, ht, hz⟩ := I.list hx
  have hlen := r.length
  refine ⟨"list", _, slot_list_getitem.lookup, ht.isList.typeIs, ?_⟩
  refine wpAny_getItem_list_slice ht.isList hs pl pu .none (by simp) ?_ (by rw [List.size_toArray] <;> omega)
  rw [slicePick_cut, ← hlen]
  refine ⟨.ref s.heap.objs.size, _, I.laid (t' := s.toks) (o := .lst (cutV xs lo hi)) (fun b ob q => Heap.get?_push_of_some _ q) (Nat.le_refl _) ?_, rfl, q _ (I.hok.fresh (Nat.le_refl _))⟩
  exact ⟨Nat.le_trans (cutV_length xs lo hi) hz, _, 0, (r.drop (HT.sIx xs.length 0 lo)).take (HT.sIx xs.length xs.length hi - HT.sIx xs.length 0 lo), Heap.get?_push_size _ rfl⟩
theorem call_list_of : CallR X (.type "list") (fun xs H Q => ∃ p ys, xs = [.ref p] ∧ (SqL X.K H p ys ∨ SqT X.K H p ys) ∧ ∀ l, H l = none → Q (.ref l) (upd H l (.lst ys))) := by
  intro pins s σ H xs us Q I r h
  obtain ⟨p, ys, rfl, hq, q⟩ := h
  obtain ⟨u, rfl, rx⟩ := vals1 r
  cases rx
  have fin : ∀ (its : List Value), Vals ys its → ys.length ≤ sizeLine → ∀ (h' : Heap) (c' : Nat), (∀ b o', s.heap.get? b = some o' → h'.get? b = some o') →
      h'.get? s.heap.objs.size = some { cls := .type "list", dict := none, data := .seq its.toArray c', slots := #[] } → EP X pins σ Q (.ref s.heap.objs.size) { s with heap := h' } := fun its r' hz h' c' kp e =>
    ⟨.ref s.heap.objs.size, _, I.laid (t' := s.toks) kp (Nat.le_refl _) (show ObjOk X.prog X.w _ h' _ (.lst ys) from ⟨hz, its, c', r', e⟩), rfl, q _ (I.hok.fresh (Nat.le_refl _))⟩
  rcases hq with hq | hq
  · obtain ⟨its, r', pl, hz⟩ := I.list hq
    have hlen := r'.length
    obtain ⟨o, ho, hc, n, hd⟩ := pl.isList
    exact call_list_seq p (.inl rfl) ho hc hd (fun h' c' kp e => fin its r' hz h' c' kp e) (by simp only [List.size_toArray] <;> omega)
  · obtain ⟨its, r', pl, hz⟩ := I.tuple hq
    have hlen := r'.length
    obtain ⟨o, ho, hc, n, hd⟩ := pl
    exact call_list_seq p (.inr rfl) ho hc hd (fun h' c' kp e => fin its r' hz h' c' kp e) (by simp only [List.size_toArray] <;> omega)
def tyV (K : PySem.W.Frag) (T : String) (x : V) (H : Hp) : Prop := match x with
  | .str _ => T = "str"
  | .int _ => T = "int"
  | .ref p => (T = "list" ∧ ∃ xs, SqL K H p xs) ∨ (T = "tuple" ∧ ∃ o, K.lookup p = some o ∧ o.cls = .type "tuple" ∧ o.dict = none) ∨
      (T = "dict" ∧ ((∃ kvs, H p = some (.dK kvs)) ∨ ∃ kvs, H p = some (.dT kvs))) ∨ (T = "set" ∧ ∃ S n, H p = some (.set S n))
  | _ => False
theorem tyV_is {pins : List (Addr × Obj)} {σ : St} {H : Hp} {s : Shared} {T : String} {x : V} {v : Value} (I : Inv X pins σ H s) (r : RelV x v) (ty : tyV X.K T x H) :
    s.TypeIs v T ∧ ∀ a, v = .ref a → ∃ ob, s.heap.get? a = some ob ∧ ob.dict = none := by
  cases x with
  | str z =>
    obtain ⟨t, rfl⟩ := r
    cases (show T = "str" from ty)
    exact ⟨typeIs_str s z t, fun _ e => nomatch e⟩
  | int i =>
    obtain ⟨t, rfl⟩ := r
    cases (show T = "int" from ty)
    exact ⟨typeIs_int s i t, fun _ e => nomatch e⟩
  | ref p =>
    cases r
    rcases ty with ⟨rfl, xs, hq⟩ | ⟨rfl, o, hk, hc, hd⟩ | ⟨rfl, hk⟩ | ⟨rfl, S, n, hk⟩
    · obtain ⟨its, _, pl, _⟩ := I.list hq
      refine ⟨pl.isList.typeIs, fun a e => ?_⟩
      cases e
      obtain ⟨o, n, e, c, hd, _⟩ := pl
      exact ⟨o, e, hd⟩
    · refine ⟨⟨o, I.kIn p o hk, hc⟩, fun a e => ?_⟩
      cases e
      exact ⟨o, I.kIn _ o hk, hd⟩
    · have z : ∃ o, s.heap.get? p = some o ∧ o.ExactDict := by
        rcases hk with ⟨kvs, hk⟩ | ⟨kvs, hk⟩
        · obtain ⟨_, _, _, _, o, _, _, e, ex, _⟩ := I.hok p _ hk
          exact ⟨o, e, ex⟩
        · obtain ⟨_, _, _, _, o, _, _, e, ex, _⟩ := I.hok p _ hk
          exact ⟨o, e, ex⟩
      obtain ⟨o, e, ex⟩ := z
      refine ⟨⟨o, e, ex.1⟩, fun a e2 => ?_⟩
      cases e2
      exact ⟨o, e, ex.2.1⟩
    · obtain ⟨o, _, _, _, e, ex, _⟩ := I.hok p _ hk
      refine ⟨⟨o, e, ex.1⟩, fun a e2 => ?_⟩
      cases e2
      exact ⟨o, e, ex.2.1⟩
  | _ => exact False.elim ty
def tBM0 (K : PySem.W.Frag) (T : String) (r : V → List V → Hp → VK → Prop) (to : TE) : TE := fun σ H Q => to σ H fun x H1 => tyV K T x H1 ∧ r x [] H1 Q
def tBM (K : PySem.W.Frag) (T : String) (r : V → List V → Hp → VK → Prop) (to : TE) (t : TA) : TE := fun σ H Q => to σ H fun x H1 => tyV K T x H1 ∧ t σ H1 fun xs H2 => r x xs H2 Q
variable {o e : Expr} {es : List Expr} {to : TE} {t : TA} {name : Str} {apos cpos : Pos} {T id : String} {r : V → List V → Hp → VK → Prop}
theorem pe_bm0 (pa : PlainAttrs T) (slot : Slot T name id) (hty : typeOf (.builtin id) = pure (.type "method_descriptor")) (hm : MtR X id r) (ho : PE X o to)
    (hbase : attributeBase o name X.env (eval o X.env) = eval o X.env := by rfl) (hline : (apos.endLine == cpos.line) = true := by rfl) : PE X (.Call (.Attribute o name apos) [] [] cpos) (tBM0 X.K T r to) := by
  intro pins s σ H Q I h
  refine wpAny_Call_method0_late hbase hline (thn (ho pins s σ H _ I h) fun v s1 ⟨x, H1, I1, r1, ty, q1⟩ => ?_)
  obtain ⟨h1, h2⟩ := tyV_is I1 r1 ty
  exact ⟨T, id, pa, slot, hty, h1, h2, Calls.callWith_builtin rfl (PySem.evalArgs_none (hm pins s1 σ H1 x [] v [] Q I1 r1 .nil q1))⟩
theorem pe_bm (pa : PlainAttrs T) (slot : Slot T name id) (hty : typeOf (.builtin id) = pure (.type "method_descriptor")) (hm : MtR X id r) (ho : PE X o to) (ha : PA X (e :: es) t)
    (hbase : attributeBase o name X.env (eval o X.env) = eval o X.env := by rfl)
    (hfew : ((backTo cpos (starEach (e :: es) X.env)).all (fun x => !x.1) && (backToKw cpos (keywordEach [] X.env)).all (fun x => x.1.isSome)
      && decide ((e :: es).length + ([] : List Keyword).length + (if ([] : List Keyword).isEmpty then 0 else 1) < 30)) = true := by rfl)
    (hline : (apos.endLine == cpos.line) = true := by rfl) (hs : starEach (e :: es) X.env = (false, eval e X.env) :: starEach es X.env := by rfl) (hplain : (backTo cpos (starEach es X.env)).any (·.1) = false := by rfl) :
    PE X (.Call (.Attribute o name apos) (e :: es) [] cpos) (tBM X.K T r to t) := by
  intro pins s σ H Q I h
  refine wpAny_Call_method_late hbase hfew hline rfl (thn (ho pins s σ H _ I h) fun v s1 ⟨x, H1, I1, r1, ty, q1⟩ => ?_)
  obtain ⟨h1, h2⟩ := tyV_is I1 r1 ty
  refine ⟨T, id, pa, slot, hty, h1, h2, ?_⟩
  have hA := ha cpos pins s1 σ H1 _ I1 q1
  rw [hs] at hA ⊢
  refine Calls.callWith_builtin (by show (false || (backTo cpos (starEach es X.env)).any (·.1)) = false; rw [hplain] <;> rfl) (Calls.evalArgs_plain ?_)
  exact thn hA fun us s2 ⟨vs, H2, I2, r2, q2⟩ => hm pins s2 σ H2 x vs v us Q I2 r1 r2 q2
end
end L2
namespace L2
open PySem PySem.Spec PyProof.Rows
def MtM (X : Cx) (id : String) (r : V → List V → Hp → VK → Prop) : Prop :=
  ∀ (pins : List (Addr × Obj)) (s : Shared) (σ : St) (H : Hp) (x : V) (xs : List V) (v : Value) (us : List Value) (Q : VK), Inv X pins σ H s → RelV x v → Vals xs us → r x xs H Q →
    wpAny (model X.prog X.w) X.A (call (.builtin id) (v :: us)) (EP X pins σ Q) X.xe s
theorem Vals.one : ∀ {x : V} {us : List Value}, Vals [x] us → ∃ u, us = [u] ∧ RelV x u
  | _, _, .cons r .nil => ⟨_, rfl, r⟩
theorem Vals.two : ∀ {x y : V} {us : List Value}, Vals [x, y] us → ∃ u v, us = [u, v] ∧ RelV x u ∧ RelV y v
  | _, _, _, .cons r (.cons q .nil) => ⟨_, _, rfl, r, q⟩
theorem Vals.zero : ∀ {us : List Value}, Vals [] us → us = []
  | _, .nil => rfl
theorem Vals.dropLast {xs : List V} {us : List Value} (h : Vals xs us) : Vals xs.dropLast us.dropLast := by
  induction h with
  | nil => exact .nil
  | cons r t ih =>
    cases t with
    | nil => exact .nil
    | cons q t' => exact .cons r ih
theorem Vals.eraseIdx : ∀ {xs : List V} {us : List Value} (i : Nat), Vals xs us → Vals (xs.eraseIdx i) (us.eraseIdx i)
  | _, _, _, .nil => .nil
  | _, _, 0, .cons _ t => t
  | _, _, i + 1, .cons r t => .cons r (Vals.eraseIdx i t)
theorem Vals.reverse {xs : List V} {us : List Value} (h : Vals xs us) : Vals xs.reverse us.reverse := by
  induction h with
  | nil => exact .nil
  | cons r t ih => rw [List.reverse_cons, List.reverse_cons]; exact Vals.append ih (.cons r .nil)
theorem erase_last {α : Type} (l : List α) : l.eraseIdx (l.length - 1) = l.dropLast := by
  induction l with
  | nil => rfl
  | cons a r ih =>
    cases r with
    | nil => rfl
    | cons b r =>
      have e : (a :: b :: r).length - 1 = ((b :: r).length - 1) + 1 := by
        have h1 : (a :: b :: r).length = r.length + 2 := rfl
        have h2 : (b :: r).length = r.length + 1 := rfl
        omega
      rw [e, List.eraseIdx_cons_succ, ih]
      all_goals rfl
section
variable {X : Cx} {pins : List (Addr × Obj)} {σ : St} {H : Hp} {s : Shared} {l b : Addr} {xs ys zs : List V}
theorem Inv.lset {its its' : List Value} {n : Nat} {f : Array Value → Array Value} {t' : Nat} (I : Inv X pins σ H s) (hH : H l = some (.lst xs))
    (e : s.heap.get? l = some { cls := .type "list", data := .seq its.toArray n }) (hf : f its.toArray = its'.toArray) (hv : Vals ys its') (hz : ys.length ≤ sizeLine) :
    Inv X pins σ (upd H l (.lst ys)) { s with heap := s.heap.update l (Obj.mapSeq f), toks := t' } := by
  have q := PySem.IsL.update e f
  rw [hf] at q
  refine I.write (x := l) (e := l) (by rw [hH]; exact trivial) (.inl rfl) (fun b' u hb hu => (Heap.get?_update_other s.heap (Obj.mapSeq f) (Ne.symm hb)).trans hu) ⟨_, q⟩ ?_
  exact ⟨hz, its', _, hv, q⟩
theorem Inv.lnew {its : List Value} {t' : Nat} (I : Inv X pins σ H s) (hv : Vals ys its) (hz : ys.length ≤ sizeLine) :
    Inv X pins σ (upd H s.heap.objs.size (.lst ys)) { s with heap := s.heap.push { cls := .type "list", data := .seq its.toArray }, toks := t' } :=
  I.laid (fun _ _ q => Heap.get?_push_of_some _ q) (Nat.le_refl _) ⟨hz, its, 0, hv, Heap.get?_push_size _ rfl⟩
theorem Inv.fresh (I : Inv X pins σ H s) : H s.heap.objs.size = none := I.hok.fresh (Nat.le_refl _)
theorem Inv.lstM (I : Inv X pins σ H s) (hH : H l = some (.lst xs)) : xs.length ≤ sizeLine ∧ ∃ (its : List Value) (n : Nat), Vals xs its ∧ xs.length = its.length ∧ s.heap.get? l = some { cls := .type "list", data := .seq its.toArray n } := by
  obtain ⟨z, its, n, r, e⟩ := I.hok l _ hH
  exact ⟨z, its, n, r, r.length, e⟩
theorem notLongL {n : Nat} (h : n ≤ sizeLine) : Builtin.List.listTooLong n = false := by
  unfold Builtin.List.listTooLong
  exact decide_eq_false (by omega)
end
section
variable {X : Cx}
def rAppend : V → List V → Hp → VK → Prop := fun x vs H Q => ∃ l xs y, x = .ref l ∧ vs = [y] ∧ H l = some (.lst xs) ∧ xs.length < sizeLine ∧ Q .non (upd H l (.lst (xs ++ [y])))
theorem mt_append : MtM X "list.append" rAppend := by
  intro pins s σ H x vs v us Q I rx rv h
  obtain ⟨l, xs, y, rfl, rfl, hH, hz, q⟩ := h
  cases rx
  obtain ⟨u, rfl, ru⟩ := rv.one
  obtain ⟨z, its, n, r, hl, e⟩ := I.lstM hH
  refine call_meets F.slot_list_append ⟨_, e, rfl⟩ F.entry_list_append (F.args_list_append_2 _ _) (PySem.list_append l its.toArray n u (by rw [List.size_toArray]; omega)) ⟨e, ?_⟩
  refine ⟨.non, _, I.lset (its' := its ++ [u]) hH e (by simp) (r.append (.cons ru .nil)) ?_, rfl, q⟩
  rw [List.length_append, List.length_singleton]
  omega
def rPop : V → List V → Hp → VK → Prop := fun x vs H Q => ∃ l xs y, x = .ref l ∧ vs = [] ∧ H l = some (.lst xs) ∧ xs[xs.length - 1]? = some y ∧ Q y (upd H l (.lst xs.dropLast))
theorem mt_pop : MtM X "list.pop" rPop := by
  intro pins s σ H x vs v us Q I rx rv h
  obtain ⟨l, xs, y, rfl, rfl, hH, hy, q⟩ := h
  cases rx
  have hus := rv.zero
  subst hus
  obtain ⟨z, its, n, r, hl, e⟩ := I.lstM hH
  obtain ⟨u, hu, ru⟩ := r.get hy
  have hy' : its.toArray[its.toArray.size - 1]? = some u := by
    show its.toArray[its.length - 1]? = some u
    rw [← Array.getElem?_toList, ← hl]
    exact hu
  refine call_meets F.slot_list_pop ⟨_, e, rfl⟩ F.entry_list_pop (F.args_list_pop_1 _) (MeetsSeq.list_pop_last l its.toArray n u hy' (by rw [List.size_toArray]; omega)) ⟨e, ?_⟩
  refine ⟨y, _, I.lset (its' := its.dropLast) hH e ?_ r.dropLast ?_, ru, q⟩
  · show its.toArray.eraseIdxIfInBounds (its.toArray.size - 1) = its.dropLast.toArray
    rw [List.size_toArray, List.eraseIdxIfInBounds_toArray, erase_last]
  · rw [List.length_dropLast]
    omega
end
section
variable {prog : Program} {w : World} {A : Around} {E : Value → Shared → Prop} {s : Shared}
theorem bounds_run {a c n : Nat} (hac : a ≤ c) (hc : c ≤ n) : sliceBounds (some (a : Int)) (some (c : Int)) none n = ((a : Int), (c : Int), 1) := by
  simp only [sliceBounds, Option.getD_none]
  have h1 : ¬ ((a : Int) < 0) := by omega
  have h2 : ¬ ((c : Int) < 0) := by omega
  simp only [h1, h2, if_false, show (1 : Int) > 0 by decide, if_true]
  congr 1
  · omega
  · congr 1; omega
set_option maxRecDepth 100000 in
theorem setItem_slice {l b sl : Addr} {items new : Array Value} {n n2 : Nat} {vl vu : Value} {a c : Nat} {Q : Unit → Shared → Prop}
    (e : s.heap.get? l = some { cls := .type "list", data := .seq items n }) (e2 : s.heap.get? b = some { cls := .type "list", data := .seq new n2 }) (hne : l ≠ b)
    (hs : s.heap.IsSliceOf sl vl vu .none) (pl : IsPart vl (some (a : Int))) (pu : IsPart vu (some (c : Int))) (hac : a ≤ c) (hc : c ≤ items.size)
    (hsz : items.size + new.size ≤ sizeLine) (h : Q () { s with heap := s.heap.update l (Obj.mapSeq fun xs => xs.extract 0 a ++ new ++ xs.extract c xs.size) }) :
    wpAny (model prog w) A (setItem (.ref l) (.ref sl) (.ref b)) Q E s := by
  have hl : s.heap.IsList l items := PySem.IsL.isList e
  have hb : s.heap.IsList b new := PySem.IsL.isList e2
  obtain ⟨os, hos, hcs, hds⟩ := id hs
  have hTs : s.TypeIs (.ref sl) "slice" := ⟨os, hos, hcs⟩
  have hstep : ¬ ((rawPart none == rawInt 0) = true) := Bool.false_ne_true
  have hsame : Builtin.List.listSameRef (.ref l) (.ref b) = false := by
    unfold Builtin.List.listSameRef
    exact beq_eq_false_iff_ne.mpr hne
  have hmax : (max (a : Int) (c : Int)).toNat = c := by omega
  have hz' : ((fun xs : Array Value => xs.extract 0 a ++ new ++ xs.extract c xs.size) items).size ≤ sizeLine + 1 := by
    simp only [Array.size_append, Array.size_extract]
    omega
  unfold setItem
  try with_reducible refine wpAny_holding ?_
  first | refine wpAny_bind (wpAny_pure ?_) | skip
  refine wpAny_bind (wpAny_sequenceKey hl.typeIs (by decide) ?_)
  refine wpAny_bind (wpAny_callSpecial?_slot (name := Str.ofString "__setitem__") hl.typeIs slot_list_setitem
    (wpAny_call_entry slot_list_setitem hl.typeIs entry_list_setitem ?_ (args_list_setitem _ _ _)))
  show wpAny _ _ (Builtin.List.listSubscript? (.ref sl) >>= _) _ _ s
  refine wpAny_bind ?_
  unfold Builtin.List.listSubscript?
  refine wpAny_bind (wpAny_specialOf hTs slice_no_index ?_)
  simp only [Option.isNone_none, if_true]
  refine wpAny_pure ?_
  show wpAny _ _ (typeOf (.ref sl) >>= _) _ _ s
  refine wpAny_bind (wpAny_typeOf hTs ?_)
  first
    | rw [if_neg (by decide)]
    | refine PySem.W.KFB.if_not (by decide) ?_
  rw [listSliceParts_eq]
  refine wpAny_bind (wpAny_bind (wpAny_field hos hds (x := .none) rfl (wpAny_bind (wpAny_listPart .none ?_))))
  rw [if_neg hstep]
  refine wpAny_bind (wpAny_field hos hds (x := vl) rfl (wpAny_bind (wpAny_listPart pl ?_)))
  refine wpAny_bind (wpAny_field hos hds (x := vu) rfl (wpAny_bind (wpAny_listPart pu (wpAny_pure ?_))))
  first
    | simp only [hsame, Bool.false_eq_true, if_false]
    | refine PySem.W.KFB.if_not hsame ?_
    | (dsimp only
       rw [if_neg (by rw [hsame]; exact Bool.false_ne_true)])
  refine wpAny_bind (m := Builtin.List.listAllItems (.ref b) "must assign iterable to extended slice") ?_
  unfold Builtin.List.listAllItems
  refine wpAny_bind (wpAny_typeOf hb.typeIs ?_)
  first
    | refine PySem.W.KFB.if_so (by decide) ?_
    | rw [if_pos (by decide)]
    | simp only [beq_self_eq_true, Bool.true_or, if_true]
  unfold Builtin.List.listItems
  refine wpAny_bind (wpAny_seqItems e2 rfl (wpAny_pure ?_))
  refine wpAny_bind (wpAny_bind (wpAny_seqItems e rfl (wpAny_pure ?_)))
  refine wpAny_bind (wpAny_of_eq ((sliceIndices_raw (some (a : Int)) (some (c : Int)) none items.size (by simp)).trans (congrArg (pure : Int × Int × Int → Sem (Int × Int × Int)) (bounds_run hac hc))) ?_)
  show wpAny _ _ (if ((1 : Int) == 1) = true then _ else _) _ _ s
  rw [if_pos (by decide)]
  refine wpAny_bind (wpAny_rule ?_)
  first
    | simp only [notLongL hsz, Bool.false_eq_true, if_false]
    | refine PySem.W.KFB.if_not (notLongL hsz) ?_
  first | refine wpAny_bind (wpAny_pure ?_) | skip
  show wpAny _ _ (updateSeq l (fun xs => xs.extract 0 ((a : Int)).toNat ++ new ++ xs.extract (max (a : Int) (c : Int)).toNat xs.size) >>= _) _ _ s
  rw [hmax, Int.toNat_natCast]
  refine wpAny_bind (wpAny_updateSeq (hz := Nat.le_trans (Nat.le_add_right _ _) hsz) (_hz' := hz') e rfl ?_)
  refine wpAny_bind (wpAny_letGo ?_)
  first
    | exact wpAny_bind (wpAny_pure (wpAny_pure ⟨.none, rfl, wpAny_pure h⟩))
    | exact wpAny_pure ⟨.none, rfl, wpAny_pure h⟩
end
section
variable {X : Cx}
end
end L2
namespace L2
open PySem PySem.Spec PyProof.Rows
section
variable {κ : Type} [DecidableEq κ]
def valV (kvs : List (κ × V)) (k : κ) : Option V := (kvs.find? fun kv => decide (kv.1 = k)).map (·.2)
def putK (kvs : List (κ × V)) (k : κ) (v : V) : List (κ × V) :=
  if (kvs.any fun kv => decide (kv.1 = k)) = true then kvs.map (fun kv => if kv.1 = k then (kv.1, v) else kv) else kvs ++ [(k, v)]
def dropK (kvs : List (κ × V)) (k : κ) : List (κ × V) := kvs.filter fun kv => decide (kv.1 ≠ k)
theorem valV_pos {p : κ × V} {r : List (κ × V)} {k : κ} (e : p.1 = k) : valV (p :: r) k = some p.2 := by simp [valV, List.find?_cons, e]
theorem valV_neg {p : κ × V} {r : List (κ × V)} {k : κ} (e : ¬ p.1 = k) : valV (p :: r) k = valV r k := by simp [valV, List.find?_cons, e]
theorem valV_any (k : κ) : ∀ kvs : List (κ × V), (kvs.any fun kv => decide (kv.1 = k)) = (valV kvs k).isSome
  | [] => rfl
  | p :: r => by
    rw [List.any_cons]
    by_cases e : p.1 = k
    · simp only [valV_pos e, decide_eq_true e, Bool.true_or, Option.isSome_some]
    · rw [valV_neg e, decide_eq_false e, Bool.false_or]; exact valV_any k r
theorem valV_map (k j : κ) (y : V) : ∀ kvs : List (κ × V), valV (kvs.map fun kv => if kv.1 = k then (kv.1, y) else kv) j = (valV kvs j).map fun x => if j = k then y else x
  | [] => rfl
  | p :: r => by
    have ih := valV_map k j y r
    rw [List.map_cons]
    by_cases h : p.1 = k
    · rw [if_pos h]
      by_cases e : p.1 = j
      · rw [valV_pos (p := (p.1, y)) e, valV_pos e, Option.map_some, if_pos (e.symm.trans h)]
      · rw [valV_neg (p := (p.1, y)) e, valV_neg e, ih]
    · rw [if_neg h]
      by_cases e : p.1 = j
      · rw [valV_pos (p := p) e, valV_pos e, Option.map_some, if_neg (fun z => h (e.trans z))]
      · rw [valV_neg (p := p) e, valV_neg e, ih]
theorem valV_snoc (k j : κ) (y : V) : ∀ kvs : List (κ × V), valV kvs k = none → valV (kvs ++ [(k, y)]) j = if j = k then some y else valV kvs j
  | [], _ => by
    by_cases e : k = j
    · rw [if_pos e.symm]; exact valV_pos (p := (k, y)) e
    · rw [if_neg (fun z => e z.symm)]; exact valV_neg (p := (k, y)) e
  | p :: r, hn => by
    rw [List.cons_append]
    have hk : ¬ p.1 = k := fun z => by rw [valV_pos z] at hn; cases hn
    rw [valV_neg hk] at hn
    have ih := valV_snoc k j y r hn
    by_cases e : p.1 = j
    · rw [valV_pos e, valV_pos e, if_neg (fun z => hk (e.trans z))]
    · rw [valV_neg e, valV_neg e, ih]
theorem valV_put (kvs : List (κ × V)) (k j : κ) (y : V) : valV (putK kvs k y) j = if j = k then some y else valV kvs j := by
  unfold putK
  by_cases a : (kvs.any fun kv => decide (kv.1 = k)) = true
  · rw [if_pos a, valV_map]
    rw [valV_any] at a
    by_cases e : j = k
    · obtain ⟨x, hx⟩ := Option.isSome_iff_exists.mp a
      rw [if_pos e, e, hx, Option.map_some, if_pos rfl]
    · rw [if_neg e]
      cases valV kvs j with
      | none => rfl
      | some x => rw [Option.map_some, if_neg e]
  · rw [if_neg a]
    refine valV_snoc k j y kvs ?_
    rw [valV_any] at a
    cases q : valV kvs k with
    | none => rfl
    | some x => rw [q] at a; exact (a rfl).elim
theorem length_putK (kvs : List (κ × V)) (k : κ) (v : V) : (putK kvs k v).length ≤ kvs.length + 1 := by
  unfold putK
  split
  · rw [List.length_map]; omega
  · rw [List.length_append, List.length_cons, List.length_nil]; omega
theorem putK_new {kvs : List (κ × V)} {k : κ} (v : V) (h : valV kvs k = none) : putK kvs k v = kvs ++ [(k, v)] := by
  unfold putK
  rw [valV_any, h]
  exact if_neg (by decide)
theorem RelO.isSome_eq {o : Option V} {u : Option Value} (r : RelO o u) : o.isSome = u.isSome := by
  cases o with
  | none => cases u with
    | none => rfl
    | some _ => exact (show False from r).elim
  | some _ => cases u with
    | none => exact (show False from r).elim
    | some _ => rfl
theorem RelO.getD {o : Option V} {u : Option Value} {d : V} {d' : Value} (r : RelO o u) (rd : RelV d d') : RelV (o.getD d) (u.getD d') := by
  cases o with
  | none => cases u with
    | none => exact rd
    | some _ => exact (show False from r).elim
  | some _ => cases u with
    | none => exact (show False from r).elim
    | some _ => exact r
theorem KV.val {kvs : List (κ × V)} {vs : List (κ × Value)} (r : KV kvs vs) (k : κ) : RelO (valV kvs k) (valueAt vs k) := by
  unfold KV at r
  induction r with
  | nil => exact True.intro
  | @cons p q ps qs h t ih =>
    obtain ⟨h1, h2⟩ := h
    by_cases e : p.1 = k
    · have e' : q.1 = k := h1.symm.trans e
      have b : valueAt (q :: qs) k = some q.2 := by simp [valueAt, List.find?_cons, e']
      rw [valV_pos e, b]; exact h2
    · have e' : ¬ q.1 = k := fun z => e (h1.trans z)
      have b : valueAt (q :: qs) k = valueAt qs k := by simp [valueAt, List.find?_cons, e']
      rw [valV_neg e, b]; exact ih
theorem KV.any {kvs : List (κ × V)} {vs : List (κ × Value)} (r : KV kvs vs) (k : κ) : (kvs.any fun kv => decide (kv.1 = k)) = vs.any fun kv => decide (kv.1 = k) := by
  unfold KV at r
  induction r with
  | nil => rfl
  | cons h t ih => rw [List.any_cons, List.any_cons, ih, h.1]
theorem KV.repl {kvs : List (κ × V)} {vs : List (κ × Value)} (r : KV kvs vs) (k : κ) {y : V} {u : Value} (ry : RelV y u) :
    KV (kvs.map fun kv => if kv.1 = k then (kv.1, y) else kv) (vs.map fun kv => if kv.1 = k then (kv.1, u) else kv) := by
  unfold KV at r ⊢
  induction r with
  | nil => exact .nil
  | @cons p q ps qs h t ih =>
    rw [List.map_cons, List.map_cons]
    refine .cons ?_ ih
    obtain ⟨h1, h2⟩ := h
    by_cases e : p.1 = k
    · rw [if_pos e, if_pos (h1.symm.trans e)]; exact ⟨h1, ry⟩
    · rw [if_neg e, if_neg (fun z => e (h1.trans z))]; exact ⟨h1, h2⟩
theorem KV.put {kvs : List (κ × V)} {vs : List (κ × Value)} (r : KV kvs vs) (k : κ) {y : V} {u : Value} (ry : RelV y u) : KV (putK kvs k y) (stored vs k u) := by
  unfold putK stored
  rw [r.any k]
  by_cases e : (vs.any fun kv => decide (kv.1 = k)) = true
  · rw [if_pos e, if_pos e]; exact r.repl k ry
  · rw [if_neg e, if_neg e]; exact Paired.snoc r ⟨rfl, ry⟩
theorem KV.drop {kvs : List (κ × V)} {vs : List (κ × Value)} (r : KV kvs vs) (k : κ) : KV (dropK kvs k) (without vs k) := by
  unfold KV at r ⊢
  unfold dropK without
  induction r with
  | nil => exact .nil
  | @cons p q ps qs h t ih =>
    obtain ⟨h1, h2⟩ := h
    rw [List.filter_cons, List.filter_cons]
    by_cases e : p.1 = k
    · have a : ¬ decide (p.1 ≠ k) = true := by simp [e]
      have b : ¬ decide (q.1 ≠ k) = true := by simp [h1.symm.trans e]
      rw [if_neg a, if_neg b]; exact ih
    · have e' : ¬ q.1 = k := fun z => e (h1.trans z)
      have a : decide (p.1 ≠ k) = true := by simp [e]
      have b : decide (q.1 ≠ k) = true := by simp [e']
      rw [if_pos a, if_pos b]; exact .cons ⟨h1, h2⟩ ih
theorem KV.length {kvs : List (κ × V)} {vs : List (κ × Value)} (r : KV kvs vs) : kvs.length = vs.length := Paired.length r
end
theorem kV_is {P : Program} {w : World} {k : Key} {u : Value} (r : RelV (kV k) u) : (mixKind P w).is k u = true := by
  cases k with
  | inl i => obtain ⟨t, e⟩ := (show ∃ t, u = Value.int i t from r); subst e; exact mixKind_int P w i t
  | inr x => obtain ⟨t, e⟩ := (show ∃ t, u = Value.str x t from r); subst e; exact mixKind_str P w x t
theorem kV_inj {a b : Key} (e : kV a = kV b) : a = b := by
  cases a with
  | inl i => cases b with
    | inl j => have e' : V.int i = V.int j := e; injection e' with e'; rw [e']
    | inr y => exact nomatch (show V.int i = V.str y from e)
  | inr x => cases b with
    | inl j => exact nomatch (show V.str x = V.int j from e)
    | inr y => have e' : V.str x = V.str y := e; injection e' with e'; rw [e']
theorem kVs_inj : ∀ {a b : List Key}, a.map kV = b.map kV → a = b
  | [], [], _ => rfl
  | [], _ :: _, e => by simp at e
  | _ :: _, [], e => by simp at e
  | x :: xs, y :: ys, e => by
    rw [List.map_cons, List.map_cons] at e
    injection e with e1 e2
    rw [kV_inj e1, kVs_inj e2]
theorem items_are {P : Program} {w : World} : ∀ {ks : List Key} {us : List Value}, Vals (ks.map kV) us → ItemsAre (mixKind P w) ks us
  | [], _, r => by rw [List.map_nil] at r; cases r; exact .nil
  | k :: ks, _, r => by
    rw [List.map_cons] at r
    cases r with
    | cons h t => exact .cons (kV_is h) (items_are t)
abbrev KT (H : Hp) : List (List Key × V) → List (List Key × Addr × Value) → Prop := Paired fun p q => p.1 = q.1 ∧ H q.2.1 = some (.tup (p.1.map kV)) ∧ RelV p.2 q.2.2
theorem KT.val {H : Hp} {kvs : List (List Key × V)} {xs : List (List Key × Addr × Value)} (r : KT H kvs xs) (k : List Key) : RelO (valV kvs k) ((atKey xs k).map (·.2)) := by
  induction r with
  | nil => exact True.intro
  | @cons p q ps qs h t ih =>
    obtain ⟨h1, _, h2⟩ := h
    by_cases e : p.1 = k
    · have e' : q.1 = k := h1.symm.trans e
      have b : atKey (q :: qs) k = some q.2 := by simp [atKey, List.find?_cons, e']
      rw [valV_pos e, b]; exact h2
    · have e' : ¬ q.1 = k := fun z => e (h1.trans z)
      have b : atKey (q :: qs) k = atKey qs k := by simp [atKey, List.find?_cons, e']
      rw [valV_neg e, b]; exact ih
theorem KT.repl {H : Hp} {kvs : List (List Key × V)} {xs : List (List Key × Addr × Value)} (r : KT H kvs xs) (k : List Key) {y : V} {u : Value} (ry : RelV y u) :
    KT H (kvs.map fun kv => if kv.1 = k then (kv.1, y) else kv) (xs.map (putAt k u)) := by
  induction r with
  | nil => exact .nil
  | @cons p q ps qs h t ih =>
    rw [List.map_cons, List.map_cons]
    refine .cons ?_ ih
    obtain ⟨h1, h2, h3⟩ := h
    unfold putAt
    by_cases e : p.1 = k
    · rw [if_pos e, if_pos (h1.symm.trans e)]; exact ⟨h1, h2, ry⟩
    · rw [if_neg e, if_neg (fun z => e (h1.trans z))]; exact ⟨h1, h2, h3⟩
theorem KT.put {H : Hp} {kvs : List (List Key × V)} {xs : List (List Key × Addr × Value)} (r : KT H kvs xs) (k : List Key) {b : Addr} {y : V} {u : Value} (hb : H b = some (.tup (k.map kV))) (ry : RelV y u) :
    KT H (putK kvs k y) (storedH xs k b u) := by
  have e : (kvs.any fun kv => decide (kv.1 = k)) = (atKey xs k).isSome := by
    rw [valV_any, (r.val k).isSome_eq, Option.isSome_map]
  unfold putK storedH
  rw [e]
  by_cases q : (atKey xs k).isSome = true
  · rw [if_pos q, if_pos q]; exact r.repl k ry
  · rw [if_neg q, if_neg q]; exact Paired.snoc r ⟨rfl, hb, ry⟩
theorem KT.keeps {H H' : Hp} {kvs : List (List Key × V)} {xs : List (List Key × Addr × Value)} (r : KT H kvs xs) (ht : ∀ b ys, H b = some (.tup ys) → H' b = some (.tup ys)) : KT H' kvs xs :=
  Paired.mapP r fun _ _ z => ⟨z.1, ht _ _ z.2.1, z.2.2⟩
section
variable {P : Program} {w : World} {H : Hp} {h : Heap} {a : Addr}
theorem rd_of {u : HO} (ok : HOk P w H h) (e : Rd H a u) : ObjOk P w H h a u := e.ok ok
theorem dk_rd {kvs : List (Key × V)} (ok : HOk P w H h) (e : Rd H a (.dK kvs)) : kvs.length ≤ sizeLine ∧ (a == sysModules) = false ∧ ∃ vs, KV kvs vs ∧ h.DictOf (mixKind P w) a vs :=
  show ObjOk P w H h a (.dK kvs) from rd_of ok e
theorem dk_of {kvs : List (Key × V)} (ok : HOk P w H h) (e : H a = some (.dK kvs)) : kvs.length ≤ sizeLine ∧ (a == sysModules) = false ∧ ∃ vs, KV kvs vs ∧ h.DictOf (mixKind P w) a vs := dk_rd ok (.inl e)
theorem key_of {ks : List Key} (ok : HOk P w H h) (e : H a = some (.tup (ks.map kV))) : (tupleKind (mixKind P w)).is h ks a := by
  obtain ⟨_, its, r, o, h1, h2, n, h3⟩ := (show ObjOk P w H h a (.tup (ks.map kV)) from ok a _ e)
  exact ⟨o, its.toArray, n, h1, h2, h3, by simpa using items_are r⟩
theorem dt_rd {kvs : List (List Key × V)} (ok : HOk P w H h) (e : Rd H a (.dT kvs)) : kvs.length ≤ sizeLine ∧ (a == sysModules) = false ∧
    ∃ xs, KT H kvs xs ∧ h.DictOfH (tupleKind (mixKind P w)) a xs := by
  obtain ⟨z, y, xs, r, o, es, ep, h1, h2, h3, h4, h5⟩ := (show ObjOk P w H h a (.dT kvs) from rd_of ok e)
  refine ⟨z, y, xs, r, o, es, ep, h1, h2, h3, h4, fun x hx => ?_, h5⟩
  have all : ∀ {l : List (List Key × V)} {m : List (List Key × Addr × Value)}, KT H l m → ∀ x ∈ m, (tupleKind (mixKind P w)).is h x.1 x.2.1 := by
    intro l m q
    induction q with
    | nil => intro x hx; exact nomatch hx
    | @cons p q ps qs hq t ih =>
      intro x hx
      rcases List.mem_cons.mp hx with e | hx
      · subst e
        exact key_of ok (by rw [← hq.1]; exact hq.2.1)
      · exact ih x hx
  exact all r x hx
theorem dt_of {kvs : List (List Key × V)} (ok : HOk P w H h) (e : H a = some (.dT kvs)) : kvs.length ≤ sizeLine ∧ (a == sysModules) = false ∧
    ∃ xs, KT H kvs xs ∧ h.DictOfH (tupleKind (mixKind P w)) a xs := dt_rd ok (.inl e)
end
def DGet (H : Hp) (a : Addr) (y : V) (r : Option V) : Prop :=
  (∃ kvs k, Rd H a (.dK kvs) ∧ y = kV k ∧ r = valV kvs k) ∨ ∃ kvs k b, Rd H a (.dT kvs) ∧ y = .ref b ∧ H b = some (.tup (k.map kV)) ∧ r = valV kvs k
def DPut (H : Hp) (a : Addr) (y v : V) (H' : Hp) : Prop :=
  (∃ kvs k, H a = some (.dK kvs) ∧ y = kV k ∧ kvs.length < sizeLine ∧ H' = upd H a (.dK (putK kvs k v))) ∨
  ∃ kvs k b, H a = some (.dT kvs) ∧ y = .ref b ∧ H b = some (.tup (k.map kV)) ∧ kvs.length < sizeLine ∧ H' = upd H a (.dT (putK kvs k v))
theorem DGet.k {H : Hp} {a : Addr} {kvs : List (Key × V)} {k : Key} (e : H a = some (.dK kvs)) : DGet H a (kV k) (valV kvs k) := .inl ⟨kvs, k, .inl e, rfl, rfl⟩
theorem DGet.t {H : Hp} {a b : Addr} {kvs : List (List Key × V)} {k : List Key} (e : H a = some (.dT kvs)) (eb : H b = some (.tup (k.map kV))) : DGet H a (.ref b) (valV kvs k) := .inr ⟨kvs, k, b, .inl e, rfl, eb, rfl⟩
theorem DPut.k {H : Hp} {a : Addr} {kvs : List (Key × V)} {k : Key} {v : V} (e : H a = some (.dK kvs)) (hl : kvs.length < sizeLine) : DPut H a (kV k) v (upd H a (.dK (putK kvs k v))) := .inl ⟨kvs, k, e, rfl, hl, rfl⟩
theorem DPut.t {H : Hp} {a b : Addr} {kvs : List (List Key × V)} {k : List Key} {v : V} (e : H a = some (.dT kvs)) (eb : H b = some (.tup (k.map kV))) (hl : kvs.length < sizeLine) :
    DPut H a (.ref b) v (upd H a (.dT (putK kvs k v))) := .inr ⟨kvs, k, b, e, rfl, eb, hl, rfl⟩
section
variable {X : Cx} {pins : List (Addr × Obj)} {σ : St} {H : Hp} {s : Shared} {a : Addr} {y v : V} {u r : Value} {o : Option V} {A : Around} {E : Value → Shared → Prop}
theorem Inv.big (I : Inv X pins σ H s) : sysModules < s.heap.objs.size := by
  have h : mainGlobals < s.heap.objs.size := (I.mod.glob.keeps I.bk).lt
  exact Nat.lt_trans (by decide) h
theorem d_getItem {Q : Value → Shared → Prop} (hu : A.units + 1 < cLine) (I : Inv X pins σ H s) (g : DGet H a y (some v)) (ry : RelV y u) (h : ∀ w' s', Inv X pins σ H s' → RelV v w' → Q w' s') :
    wpAny (model X.prog X.w) A (getItem (.ref a) u) Q E s := by
  rcases g with ⟨kvs, k, e, ey, l⟩ | ⟨kvs, k, b, e, ey, eb, l⟩
  · subst ey
    obtain ⟨z, hd, vs, rel, dd⟩ := dk_rd I.hok e
    obtain ⟨w', hw, rw'⟩ := RelO.some_of (v := v) (o := valueAt vs k) (by rw [l]; exact rel.val k)
    exact wpAny_getItem_of (kV_is ry) dd.mapOf hw (h w' _ (I.tok _) rw')
  · subst ey
    cases (show u = Value.ref b from ry)
    obtain ⟨z, hd, xs, rel, dd⟩ := dt_rd I.hok e
    obtain ⟨w', hw, rw'⟩ := RelO.some_of (v := v) (o := (atKey xs k).map (·.2)) (by rw [l]; exact rel.val k)
    obtain ⟨p, hp, hp2⟩ := Option.map_eq_some_iff.mp hw
    refine wpAny_getItem_heap (tupleKind_room_in1 hu) (key_of I.hok eb) dd hp ?_
    rw [hp2]
    exact h w' _ (I.tok _) rw'
theorem d_notIn {Q : Value → Shared → Prop} (hu : A.units + 1 < cLine) (I : Inv X pins σ H s) (g : DGet H a y o) (ry : RelV y u) (h : ∀ s', Inv X pins σ H s' → Q (.bool (!o.isSome)) s') :
    wpAny (model X.prog X.w) A (compareOp .NotIn u (.ref a)) Q E s := by
  rcases g with ⟨kvs, k, e, ey, l⟩ | ⟨kvs, k, b, e, ey, eb, l⟩
  · subst ey
    obtain ⟨z, hd, vs, rel, dd⟩ := dk_rd I.hok e
    refine wpAny_notIn_of (kV_is ry) hd dd.mapOf ?_
    rw [← (rel.val k).isSome_eq, ← l]
    exact h _ (I.tok _)
  · subst ey
    cases (show u = Value.ref b from ry)
    obtain ⟨z, hd, xs, rel, dd⟩ := dt_rd I.hok e
    refine wpAny_notIn_heap (tupleKind_room_in1 hu) (key_of I.hok eb) hd dd ?_
    have q := (rel.val k).isSome_eq
    rw [Option.isSome_map] at q
    rw [← q, ← l]
    exact h _ (I.tok _)
theorem d_write {h' : Heap} {t' : Nat} {ob : HO} (I : Inv X pins σ H s) (mu : Mut (H a)) (hs : Heap.SameBut a s.heap h') (he : ∃ q, h'.get? a = some q) (new : ObjOk X.prog X.w (upd H a ob) h' a ob) :
    Inv X pins σ (upd H a ob) { s with heap := h', toks := t' } :=
  I.write (x := a) (e := a) mu (.inl rfl) (fun b q hb z => (hs.2 b hb).trans z) he new
theorem dk_new {P : Program} {w : World} {H' : Hp} {h' : Heap} {kvs : List (Key × V)} {vs : List (Key × Value)} (z : kvs.length ≤ sizeLine) (hd : (a == sysModules) = false) (rel : KV kvs vs) (dd : h'.DictOf (mixKind P w) a vs) :
    ObjOk P w H' h' a (.dK kvs) := ⟨z, hd, vs, rel, dd⟩
theorem d_setItem {H' : Hp} {Q : Unit → Shared → Prop} (hu : A.units + 1 < cLine) (I : Inv X pins σ H s) (g : DPut H a y v H') (ry : RelV y u) (rv : RelV v r) (h : ∀ s', Inv X pins σ H' s' → Q () s') :
    wpAny (model X.prog X.w) A (setItem (.ref a) u r) Q E s := by
  rcases g with ⟨kvs, k, e, ey, l, eH⟩ | ⟨kvs, k, b, e, ey, eb, l, eH⟩
  · subst ey eH
    obtain ⟨z, hd, vs, rel, dd⟩ := dk_of I.hok e
    have hz : vs.length ≤ sizeLine := by rw [← rel.length]; exact z
    have hl : (putK kvs k v).length ≤ sizeLine := by have := length_putK kvs k v; omega
    refine wpAny_setItem_pairs (hsz := hz) (kV_is ry) dd fun h' dd' hs => h _ ?_
    have he : ∃ q, h'.get? a = some q := let ⟨q, _, _, hq, _⟩ := dd'; ⟨q, hq⟩
    exact d_write I (by rw [e]; exact True.intro) hs he (dk_new hl hd (rel.put k rv) dd')
  · subst ey eH
    cases (show u = Value.ref b from ry)
    obtain ⟨z, hd, xs, rel, dd⟩ := dt_of I.hok e
    have hz : xs.length ≤ sizeLine := by rw [← Paired.length rel]; exact z
    have hl : (putK kvs k v).length ≤ sizeLine := by have := length_putK kvs k v; omega
    refine wpAny_setItem_heap (hsz := hz) (tupleKind_room_in1 hu) (key_of I.hok eb) dd fun h' dd' hs => h _ ?_
    obtain ⟨q, es, ep, hq, h2, h3, h4, _, h5⟩ := dd'
    refine d_write I (by rw [e]; exact True.intro) hs ⟨q, hq⟩ ⟨hl, hd, _, (rel.put k eb rv).keeps fun c ys ec => ?_, q, es, ep, hq, h2, h3, h4, h5⟩
    rw [upd_ne (ne_of ec e (fun z => nomatch z))]
    exact ec
end
section
variable {X : Cx} {pins : List (Addr × Obj)} {σ : St} {H : Hp} {s : Shared} {a : Addr} {kvs : List (Key × V)} {k : Key} {u : Value} {A : Around} {E : Value → Shared → Prop}
theorem d_len {Q : Value → Shared → Prop} (I : Inv X pins σ H s) (e : Rd H a (.dK kvs)) (h : ∀ t s', Inv X pins σ H s' → Q (.int kvs.length t) s') : wpAny (model X.prog X.w) A (call (.builtin "len") [.ref a]) Q E s := by
  obtain ⟨z, hd, vs, rel, dd⟩ := dk_rd I.hok e
  refine call_len_dict hd dd (by rw [← rel.length]; rw [sizeLine_eq] at z; omega) ?_
  rw [← rel.length]
  exact h _ _ (I.tok _)
end
def NoSl (i : Expr) : Prop := ∀ ov iv, subscripted i false ov iv = operate [ov, iv] (getItem ov iv)
theorem subD_of {prog : Program} {w : World} {A : Around} {E : Value → Shared → Prop} {s : Shared} {env : Env} {value slice : Expr} {pos : Pos} {T id : String} {Q : Value → Shared → Prop}
    (hl : typeLookup (.type T) "__getitem__" = pure (some (.builtin id))) (hs : NoSl slice)
    (h : wpAny (model prog w) A (eval value env) (fun o s₁ => wpAny (model prog w) A (eval slice env) (fun i s₂ => s₂.TypeIs o T ∧ wpAny (model prog w) A (getItem o i) Q E s₂) E s₁) E s) :
    wpAny (model prog w) A (eval (.Subscript value slice pos) env) Q E s := by
  refine Subscript_ (wpAny_mono h (fun o s₁ h₁ => wpAny_mono h₁ (fun i s₂ h₂ => ?_) fun _ _ x => x) fun _ _ x => x)
  obtain ⟨hT, h₂⟩ := h₂
  unfold subscriptTail
  refine wpAny_bind ?_
  rw [getitemInPython_of_ne hT.not_modules]
  refine wpAny_bind (wpAny_specialOf hT hl ?_)
  have fin : wpAny (model prog w) A (subscripted slice false o i) (fun r s₃ => wpAny (model prog w) A (letTemporaryGo value o r >>= fun _ => pure r) Q E s₃) E s₂ := by
    rw [hs o i]
    exact wpAny_operating (wpAny_mono h₂ (fun r s₃ h₃ => wpAny_bind (wpAny_letTemporaryGo (wpAny_pure h₃))) fun _ _ x => x)
  first
    | exact wpAny_pure (wpAny_bind fin)
    | exact wpAny_bind (wpAny_pure (wpAny_bind fin))
    | exact wpAny_bind fin
theorem dict_typeIs {X : Cx} {pins : List (Addr × Obj)} {σ : St} {H : Hp} {s : Shared} {a : Addr} {y : V} {o : Option V} (I : Inv X pins σ H s) (g : DGet H a y o) : s.TypeIs (.ref a) "dict" := by
  rcases g with ⟨kvs, k, e, _, _⟩ | ⟨kvs, k, b, e, _, _, _⟩
  · obtain ⟨_, _, vs, _, dd⟩ := dk_rd I.hok e
    exact dd.typeIs
  · obtain ⟨_, _, xs, _, dd⟩ := dt_rd I.hok e
    exact dd.typeIs
def tDGet (td ty : TE) : TE := fun σ H Q => td σ H fun x H1 => ty σ H1 fun y H2 => ∃ a v, x = .ref a ∧ DGet H2 a y (some v) ∧ Q v H2
def tDNotIn (ty td : TE) : TE := fun σ H Q => ty σ H fun y H1 => td σ H1 fun x H2 => ∃ a o, x = .ref a ∧ DGet H2 a y o ∧ Q (.bl (!o.isSome)) H2
def sDPut (td ty tv : TE) : TS := fun D σ H => tv σ H fun v H1 => td σ H1 fun x H2 => ty σ H2 fun y H3 => ∃ a H4, x = .ref a ∧ DPut H3 a y v H4 ∧ D.nx σ H4
section
variable {X : Cx} {o i e value : Expr} {pos pos' tpos : Pos} {td ty tv : TE}
theorem pe_dget (hu : X.A.units + 1 < cLine) (ho : PE X o td) (hi : PE X i ty) (hs : NoSl i) : PE X (.Subscript o i pos) (tDGet td ty) := by
  intro pins s σ H Q I h
  refine subD_of PySem.F.slot_dict_getitem.lookup hs (thn (ho pins s σ H _ I h) fun u s1 ⟨x, H1, I1, rx, q1⟩ => thn (hi pins s1 σ H1 _ I1 q1) fun iv s2 ⟨y, H2, I2, ry, a, v, ex, g, q2⟩ => ?_)
  subst ex
  obtain rfl : u = Value.ref a := rx
  exact ⟨dict_typeIs I2 g, d_getItem hu I2 g ry fun w' s3 I3 rw' => ⟨v, H2, I3, rw', q2⟩⟩
theorem pc_dnotin (hu : X.A.units + 1 < cLine) (hi : PE X i ty) (ho : PE X o td) : PC X .NotIn i o (tDNotIn ty td) := by
  intro pins s σ H Q I h
  refine thn (hi pins s σ H _ I h) fun iv s1 ⟨y, H1, I1, ry, q1⟩ => thn (ho pins s1 σ H1 _ I1 q1) fun u s2 ⟨x, H2, I2, rx, a, ov, ex, g, q2⟩ => ?_
  subst ex
  obtain rfl : u = Value.ref a := rx
  exact d_notIn hu I2 g ry fun s3 I3 => ⟨.bl (!ov.isSome), H2, I3, rfl, q2⟩
theorem ps_dput (hu : X.A.units + 1 < cLine) (ho : PE X o td) (hi : PE X i ty) (hv : PE X value tv) (hs : swapsWith value (some (.Subscript o i pos')) pos.line X.env = pure false) :
    PS X (.Assign [.Subscript o i pos'] value pos) (sDPut td ty tv) := by
  intro pins s σ H D I h
  refine wpAny_Assign_Subscript (thn (hv pins s σ H _ I h) fun r s1 ⟨v, H1, I1, rv, q1⟩ => thn (ho pins s1 σ H1 _ I1 q1) fun u s2 ⟨x, H2, I2, rx, q2⟩ => thn (hi pins s2 σ H2 _ I2 q2) fun iv s3 ⟨y, H3, I3, ry, a, H4, ex, g, q3⟩ => ?_) hs
  subst ex
  obtain rfl : u = Value.ref a := rx
  exact d_setItem hu I3 g ry rv fun s4 I4 => ⟨σ, H4, I4, q3⟩
end
theorem dk_empty {P : Program} {w : World} {H : Hp} (h : Heap) (hb : sysModules < h.objs.size) : ObjOk P w H (h.push { cls := .type "dict", data := .dict #[] }) h.objs.size (.dK []) :=
  ⟨Nat.zero_le _, beq_eq_false_iff_ne.mpr (Ne.symm (Nat.ne_of_lt hb)), [], .nil, Heap.DictOf.new h⟩
theorem dt_empty {P : Program} {w : World} {H : Hp} (h : Heap) (hb : sysModules < h.objs.size) : ObjOk P w H (h.push { cls := .type "dict", data := .dict #[] }) h.objs.size (.dT []) :=
  ⟨Nat.zero_le _, beq_eq_false_iff_ne.mpr (Ne.symm (Nat.ne_of_lt hb)), [], .nil, _, #[], 0, Heap.get?_push_size _ rfl, ⟨rfl, rfl, rfl⟩, rfl, rfl, List.nodup_nil⟩
section
variable {X : Cx} {pos : Pos}
end
structure M1 (X : Cx) (o : Expr) (m : Str) (apos : Pos) (e : Expr) (cpos : Pos) : Prop where
  base : attributeBase o m X.env (eval o X.env) = eval o X.env
  few : ((backTo cpos (starEach [e] X.env)).all (fun x => !x.1) && (backToKw cpos (keywordEach [] X.env)).all (fun x => x.1.isSome)
    && decide (([e] : List Expr).length + ([] : List Keyword).length + (if ([] : List Keyword).isEmpty then 0 else 1) < 30)) = true
  line : (apos.endLine == cpos.line) = true
  trees : backTo cpos (starEach [e] X.env) = [(false, eval e X.env)]
structure M2 (X : Cx) (o : Expr) (m : Str) (apos : Pos) (e f : Expr) (cpos : Pos) : Prop where
  base : attributeBase o m X.env (eval o X.env) = eval o X.env
  few : ((backTo cpos (starEach [e, f] X.env)).all (fun x => !x.1) && (backToKw cpos (keywordEach [] X.env)).all (fun x => x.1.isSome)
    && decide (([e, f] : List Expr).length + ([] : List Keyword).length + (if ([] : List Keyword).isEmpty then 0 else 1) < 30)) = true
  line : (apos.endLine == cpos.line) = true
  trees : backTo cpos (starEach [e, f] X.env) = [(false, eval e X.env), (false, eval f X.env)]
section
variable {X : Cx} {pins : List (Addr × Obj)} {σ : St} {H : Hp} {s : Shared} {a : Addr} {y d : V} {u r : Value} {o : Option V} {A : Around} {E : Value → Shared → Prop}
theorem d_get2 {Q : Value → Shared → Prop} (hu : A.units + 1 < cLine) (I : Inv X pins σ H s) (g : DGet H a y o) (ry : RelV y u) (rd : RelV d r) (h : ∀ w' s', Inv X pins σ H s' → RelV (o.getD d) w' → Q w' s') :
    wpAny (model X.prog X.w) A (call (.builtin "dict.get") [.ref a, u, r]) Q E s := by
  rcases g with ⟨kvs, k, e, ey, l⟩ | ⟨kvs, k, b, e, ey, eb, l⟩
  · subst ey
    obtain ⟨z, hd, vs, rel, dd⟩ := dk_rd I.hok e
    refine call_meetsIn PySem.F.slot_dict_get dd.typeIs PySem.F.entry_dict_get (PySem.F.args_dict_get_3 _ _ _) (meets_dict_get_default (mixKind X.prog X.w) a (kV_is ry) hd r) ⟨_, dd.mapOf, h _ _ (I.tok _) ?_⟩
    rw [l]
    exact (rel.val k).getD rd
  · subst ey
    cases (show u = Value.ref b from ry)
    obtain ⟨z, hd, xs, rel, dd⟩ := dt_rd I.hok e
    refine call_meetsIn PySem.F.slot_dict_get dd.typeIs PySem.F.entry_dict_get (PySem.F.args_dict_get_3 _ _ _) (meetsH_dict_get_default (tupleKind (mixKind X.prog X.w)) a b hd r) ⟨tupleKind_room_in1 hu, k, xs, key_of I.hok eb, dd, h _ _ (I.tok _) ?_⟩
    rw [l]
    exact (rel.val k).getD rd
end
section
variable {X : Cx} {o e f : Expr} {apos cpos : Pos} {td ty tx : TE}
end
section
variable {X : Cx} {pins : List (Addr × Obj)} {σ : St} {H : Hp} {s : Shared} {a : Addr} {kvs : List (Key × V)} {A : Around} {E : Value → Shared → Prop}
end
section
variable {X : Cx} {pins : List (Addr × Obj)} {σ : St} {H : Hp} {s : Shared} {a : Addr} {y : V} {u : Value} {A : Around} {E : Value → Shared → Prop}
end
end L2
namespace Att
open PySem PySem.W PySem.Calls PyProof.Rows
theorem ints_of_wellAll {P : Params} {h : Heap} : ∀ (ns : List Int) (vs : List Value), WellAll P h vs (ns.map WData.int) → IntsAre vs ns := by
  intro ns
  induction ns with
  | nil =>
    intro vs w
    rw [List.map_nil] at w
    cases w
    exact .nil
  | cons n ns ih =>
    intro vs w
    rw [List.map_cons] at w
    cases w with
    | cons a b =>
      cases a
      exact .cons _ _ (ih _ b)
theorem script_of {l : OpenLaw} {n : Nat} (hn : l.most = some n) {P : Params} {h : Heap} {args : List WData} {vals : List Value}
    (hpre : l.row.toRowW.claim.pre args = true) (hwl : WellAll P h vals args) :
    ∃ a vs ns, vals = [Value.ref a] ∧ args = [WData.list (ns.map WData.int)] ∧ h.get? a = some { cls := .type "list", data := .seq vs.toArray } ∧ IntsAre vs ns ∧ ns.length ≤ n := by
  have hsh : WShape.hasAll [] args [.list .int] = true := (pre_splitW hpre).1
  have hc : l.pre.holds [] { args := args } = true := (pre_splitW hpre).2
  obtain ⟨d, r, rfl, h1, h2⟩ := hasAllW_cons hsh
  obtain rfl := hasAllW_nil h2
  obtain ⟨xs, rfl, h3⟩ := hasW_list h1
  obtain ⟨ns, rfl⟩ := items_int h3
  have hlen : ns.length ≤ n := by
    unfold OpenLaw.pre at hc
    have h4 : (WTm.not (.lt (.lit (.int (n : Int))) (.len (.arg 0)))).holds [] { args := [.list (ns.map .int)] } = true := by
      have h4 := (holds_andW hc).1
      rw [hn] at h4
      exact h4
    have h5 := condW_of h4 (w_not (w_lt w_lit (w_len_list (w_arg rfl))))
    rw [List.length_map] at h5
    refine Nat.le_of_not_lt fun q => ?_
    have q' : (n : Int) < ((ns.length : Nat) : Int) := by omega
    first
      | (rw [decide_eq_true q'] at h5; exact absurd h5 (by decide))
      | (simp at h5; omega)
  cases hwl with
  | cons w1 w2 =>
    cases w2
    cases w1 with
    | list ho hall => exact ⟨_, _, ns, rfl, rfl, ho, ints_of_wellAll ns _ hall, hlen⟩
theorem post_true (l : OpenLaw) (args : List WData) : l.row.toRowW.claim.post args (.bool true) args = true :=
  postW_of (r := l.row.toRowW) (X := (true == true))
    (show WShape.has [] (.bool true) .bool = true by first | rfl | decide | simp [WShape.has, WShape.arms, WShape.armsAll])
    (show (WTm.eq .res (.lit (.bool true))).value [] { args := args, res := some (.bool true), after := args } = some (.bool (true == true)) from w_eq_bool (w_res rfl) w_lit) rfl
theorem attach_call {l : OpenLaw} {n : Nat} {q : Program} {loose : List Str} {XP : (Str → Option Value) → Heap → Prop} {YP : World → Heap → Prop} {d : DefRec}
    (hn : l.most = some n) (hdf : d.params.defaults = [])
    (call : ∀ (w : World) (s₀ s₁ : Shared) (mg mb : Str → Option Value) (fa : Addr) (o : Obj) (pm cd doc : Value) (a : Addr) (vs : List Value) (ns : List Int),
      Ground q loose [] XP w s₀ mg mb s₁.heap → YP w s₁.heap →
      s₁.heap.get? fa = some o → o.data = .func (docDef d.name d.params d.body d.scope pm cd doc) → s₁.heap.CodeRec cd d.name → mg d.name = some (.ref fa) →
      s₁.heap.get? a = some { cls := .type "list", data := .seq vs.toArray } → IntsAre vs ns → ns.length ≤ n → s₁.gens = #[] →
      codeAny (model l.prog w) callerA (.call (.ref fa) ⟨[.ref a], []⟩) (fun r s' => r = .ok (.ret (.bool true)) ∧ OldK s₁.heap s'.heap ∧ s'.os = s₁.os ∧ AllBare s'.gens) s₁) :
    WalkO q loose XP YP l.row.toRowW d [] (fun f vs => PySem.call f vs) := by
  intro w s₀ s₁ mg mb G Y fa o pm cd doc dV kV ho hd hcd hD hmg hg args vals as hpre hlay hrd hwl hlo
  obtain rfl : dV = .none := Dflts.none hD hdf
  obtain rfl : kV = .none := Dflts.noKw hD
  obtain ⟨a, vs, ns, rfl, rfl, hobj, hints, hlen⟩ := script_of hn hpre hwl
  refine enter_call (codeAny_mono (call w s₀ s₁ mg mb fa o pm cd doc a vs ns G Y ho (fd_plain hd) hcd hmg hobj hints hlen hg) fun r s' hq => ?_)
  obtain ⟨rfl, h2, h3, h4⟩ := hq
  exact ⟨.inl ⟨.bool true, .bool true, [], rfl, fun _ => rfl, .bool true, post_true l _, fun _ => ⟨List.Pairwise.nil, fun _ hm => (nomatch hm)⟩⟩, h2, h3, h4⟩
section
variable {prog : Program} {w : World} {A : Around} {E : Value → Shared → Prop} {s : Shared} {K : Frag}
def noObjs (h : Heap) : Heap := { h with objs := #[] }
theorem noObjs_get (h : Heap) (b : Addr) : (noObjs h).get? b = none := by
  cases e : (noObjs h).get? b with
  | none => rfl
  | some o => exact absurd (Heap.lt_size e) (Nat.not_lt_zero _)
theorem fr_all {h : Heap} {L : Addr} {m : Str → Option Value} (n : h.Ns L m) : Fr (noObjs h) L h m :=
  ⟨n, fun b o e => (by rw [noObjs_get] at e; cases e), Nat.zero_le _⟩
end
end Att
namespace L2
open PySem PySem.Spec PyProof.Rows
theorem vals_ints : ∀ {vs : List Value} {ns : List Int}, IntsAre vs ns → Vals (ns.map V.int) vs
  | _, _, .nil => .nil
  | _, _, .cons n t h => .cons ⟨t, rfl⟩ (vals_ints h)
end L2
namespace L2
open PySem PySem.Spec PyProof.Rows
end L2
namespace L2
open PySem PySem.Spec PyProof.Rows
def inClass (s : Stmt) (j : Nat) : Stmt := match s with
  | .ClassDef _ _ _ body _ _ _ _ _ _ _ => body.getD j (.Pass ⟨0, 0, 0, 0⟩)
  | _ => .Pass ⟨0, 0, 0, 0⟩
def defArgs (s : Stmt) : Arguments := match s with
  | .FunctionDef _ a _ _ _ _ _ _ _ _ => a
  | _ => { posonlyargs := [], args := [], vararg := none, kwonlyargs := [], kw_defaults := [], kwarg := none, defaults := [] }
def defBody (s : Stmt) : List Stmt := match s with
  | .FunctionDef _ _ b _ _ _ _ _ _ _ => b
  | _ => []
def defScope (s : Stmt) : Scope := match s with
  | .FunctionDef _ _ _ _ _ _ sc _ _ _ => sc
  | _ => { kind := .function, names := [], isGenerator := false, isCoroutine := false }
abbrev CX0 : CXT := fun _ _ _ _ _ _ => False
abbrev E0 : XK := fun _ _ _ => False
theorem pass0 {X : Cx} : Passes CX0 X E0 := fun _ _ _ _ _ _ _ h => h.elim
structure Fun (K : PySem.W.Frag) (x qual : Str) (st : Stmt) (f : Addr) (fd : FuncData) : Prop where
  ex : ∃ (oc : Value) (od : Option Addr) (kV doc pm : Value) (an : Option Addr) (cdv ct : Value) (osl : Array (Option Value)),
    fd = PySem.W.fnOf x qual (defArgs st) (defBody st) (defScope st) .none kV doc pm an cdv ct ∧ K.lookup f = some ⟨oc, od, .func fd, osl⟩ ∧ PySem.W.codeIn K cdv qual = true
  kp : PySem.W.keepIn K (.ref f) = true
section
variable {P : Program} {w : World} {K : PySem.W.Frag} {mg : Str → Option Value} {base : Heap}
theorem Fun.ok {x qual : Str} {st : Stmt} {f : Addr} {fd : FuncData} {N ps : List Str} {k : Nat} {sp : Sp} (F : Fun K x qual st f fd) (S : FnScope N ps (defScope st)) (len : ∀ vs H Q E, sp vs H Q E → vs.length = ps.length)
    (hbody : ∀ (cdv : Value) (A : Around) (outer : List Env) (s : Shared) (H : Hp) (vs : List V) (Q : VK) (E : XK), Room k (A.deeper (envOfC qual (defScope st) s.heap.objs.size f cdv)) → sp vs H Q E →
      ∃ t, PSs (cxOf CX0 P w K mg base N qual (defScope st) f cdv A outer s H E).nox (defBody st) t ∧ t { nx := fun _ H' => Q .non H', rt := Q } (start N vs) H) : FnOk P w K mg base CX0 (k + 1) f fd ps sp := by
  obtain ⟨oc, od, kV, doc, pm, an, cdv, ct, osl, rfl, lk, hcd⟩ := F.ex
  refine fn_of lk hcd S len fun A outer s H vs Q E hr hsp => ?_
  obtain ⟨t, h, q⟩ := hbody cdv A outer s H vs Q E hr hsp
  exact ⟨t, h.nox, q⟩
theorem Fun.binds {x qual : Str} {st : Stmt} {f : Addr} {fd : FuncData} {ps : List Str} (F : Fun K x qual st f fd)
    (h : ∀ (kV doc pm : Value) (an : Option Addr) (cdv ct : Value) (us : List Value), us.length = ps.length → bindArgs (PySem.W.fnOf x qual (defArgs st) (defBody st) (defScope st) .none kV doc pm an cdv ct) ⟨us, []⟩ = pure (ps.zip us)) : Binds K fd ps [] := by
  obtain ⟨oc, od, kV, doc, pm, an, cdv, ct, osl, rfl, lk, hcd⟩ := F.ex
  exact .all (h kV doc pm an cdv ct)
theorem fun_mk {x qual : Str} {st : Stmt} {f : Addr} {oc : Value} {od an : Option Addr} {osl : Array (Option Value)} {kV doc pm cdv ct : Value} (l : K.lookup f = some ⟨oc, od, .func (PySem.W.fnOf x qual (defArgs st) (defBody st) (defScope st) .none kV doc pm an cdv ct), osl⟩)
    (c : PySem.W.codeIn K cdv qual = true) (k : PySem.W.keepIn K (.ref f) = true) : Fun K x qual st f (PySem.W.fnOf x qual (defArgs st) (defBody st) (defScope st) .none kV doc pm an cdv ct) := ⟨⟨oc, od, kV, doc, pm, an, cdv, ct, osl, rfl, l, c⟩, k⟩
end
theorem small1000 {n : Nat} (h : n ≤ 1000) : n < sizeLine := Nat.lt_of_le_of_lt h (by decide)
section
variable {X : Cx}
theorem pv (i : Nat) {x : Str} {pos : Pos} (hN : X.N[i]? = some x := by rfl) (hv : Vis X.env.scope x := by first | exact Or.inl rfl | exact Or.inr (Or.inl rfl) | exact Or.inr (Or.inr rfl)) (hd : (x == ("__debug__" : Str)) = false := by decide)
    (hcd : (x == ("__classdict__" : Str)) = false := by decide) : PE X (.Name x pos) (tVar i) := pe_var hN hv hd hcd
end
theorem iteF {A B : Prop} (h : B) : if false = true then A else B := by
  rw [if_neg Bool.false_ne_true]
  exact h
def Same (H H' : Hp) : Prop := ∀ b o, H b = some o → H' b = some o
theorem Same.refl (H : Hp) : Same H H := fun _ _ h => h
theorem Same.trans {H H1 H2 : Hp} (a : Same H H1) (b : Same H1 H2) : Same H H2 := fun c o h => b c o (a c o h)
theorem Same.free {H H' : Hp} (e : Same H H') {l : Addr} (h : H' l = Option.none) : H l = Option.none := by
  cases q : H l with
  | none => rfl
  | some o =>
    rw [e l o q] at h
    cases h
theorem Same.seq {K : PySem.W.Frag} {H H' : Hp} {a : Addr} {xs : List V} (e : Same H H') (h : SqL K H a xs) : SqL K H' a xs := by
  rcases h with (h | ⟨o, h⟩) | h
  · exact .inl (.inl (e _ _ h))
  · exact .inl (.inr ⟨o, e _ _ h⟩)
  · exact .inr h
section
variable {κ : Type} [DecidableEq κ]
theorem valV_not {kvs : List (κ × V)} {k : κ} (h : valV kvs k = none) : ¬ k ∈ kvs.map (·.1) := by
  intro m
  obtain ⟨p, hp, e⟩ := List.mem_map.mp m
  have q : (kvs.any fun kv => decide (kv.1 = k)) = true := List.any_eq_true.mpr ⟨p, hp, decide_eq_true e⟩
  rw [valV_any, h] at q
  exact absurd q (by simp)
theorem valV_in {kvs : List (κ × V)} {k : κ} {v : V} (h : valV kvs k = some v) : k ∈ kvs.map (·.1) := by
  have q : (kvs.any fun kv => decide (kv.1 = k)) = true := by
    rw [valV_any, h]
    all_goals rfl
  obtain ⟨p, hp, e⟩ := List.any_eq_true.mp q
  exact List.mem_map.mpr ⟨p, hp, of_decide_eq_true e⟩
end
end L2
namespace L2
open PySem PySem.Spec PyProof.Rows
section
variable {X : Cx}
def CDivB (_ j : Int) : Prop := 0 < j ∧ j < 2 ^ 200
theorem noPy {i j : Int} (h : CDivB i j) : Builtin.divisionGoesByPylong i j = false := by
  refine PyProof.noPylong_of_log2 ?_
  obtain ⟨h1, h2⟩ := h
  have h0 : j.natAbs ≠ 0 := by omega
  have h3 : j.natAbs < 2 ^ 200 := by omega
  have := (Nat.log2_lt h0).mpr h3
  omega
theorem op_fdivB : OpR X (binaryOp .FloorDiv) (rI CDivB fun i j => .int (i / j)) := opI fun i j _ _ _ _ _ hc q => by
  have h1 : (0 : Int) < j := hc.1
  exact floordiv_int (by omega) (by rw [Int.fdiv_eq_ediv_of_nonneg i (by omega)]; exact q) (.inl (noPy hc))
inductive ClsV : V → Value → Prop where
  | ty (n : String) : ClsV (.ty n) (.type n)
  | ref (C : Addr) : ClsV (.ref C) (.ref C)
theorem call_isinst : CallR X (.builtin "isinstance") (fun xs H Q => ∃ x y c t b, xs = [x, y] ∧ ClsV y c ∧ TyOf X.K H x t ∧ PySem.W.kitOne X.K t c = some b ∧ Q (.bl b) H) := by
  intro pins s σ H xs us Q I r h
  obtain ⟨x, y, c, t, b, rfl, hy, ty, e, q⟩ := h
  obtain ⟨u, w', rfl, rx, ry⟩ := vals2 r
  cases hy with
  | ty n =>
    cases (show w' = Value.type n from ry)
    exact isinst_ok I rx ty e fun tk => ⟨.bl b, H, I.tok _, rfl, q⟩
  | ref C =>
    cases (show w' = Value.ref C from ry)
    exact isinst_ok I rx ty e fun tk => ⟨.bl b, H, I.tok _, rfl, q⟩
end
theorem compLoop_go {prog : Program} {w : World} {A : Around} {R : Result → Shared → Prop} {s : Shared} {elt target iter : Expr} {ifs : List Expr} {scope : Scope} {pos : Pos} {it acc : Value} {env : Env} (I : Nat → Shared → Prop) (E : Value → Shared → Prop)
    (hE : ∀ e s', E e s' → notedBy (model prog w) A env (fun e s' => R (.error e) s') e s')
    (turn : ∀ n s, I n s → wpAny (model prog w) A (pyNext it) (fun r s₁ => match r with
      | none => R (.ok .next) s₁
      | some v => wpAny (model prog w) A (letOwnedTupleGo target it v) (fun _ s₁' => wpAny (model prog w) A (assign target env v) (fun _ s₂ =>
          wpAny (model prog w) A (forIn ifs true fun c r => if r = true then do let ok ← isTrue c env (eval c env); pure (ForInStep.yield ok) else pure (ForInStep.yield r)) (fun ok s₃ =>
            if ok = true then wpAny (model prog w) A (eval elt env) (fun x s₄ =>
              wpAny (model prog w) A (call (.builtin "list.append") [acc, x]) (fun _ s₅ => ∃ m, m < n ∧ I m s₅) E s₄) E s₃
            else ∃ m, m < n ∧ I m s₃) E s₂) E s₁') E s₁) E s)
    (n : Nat) (h : I n s) : codeAny (model prog w) A (.compLoop (.ListComp elt [⟨target, iter, ifs, 0⟩] scope pos) 0 it acc env) R s := by
  refine codeAny_loop rfl I (fun n s hI => ?_) n h
  show wpAny _ A ((compTurn (.ListComp elt [⟨target, iter, ifs, 0⟩] scope pos) 0 it acc env).onRaise (fun x => do noteFrame x env; theTreesLotGoes x)) _ _ s
  refine wpAny_noted ?_
  rw [compTurn_list]
  refine wpAny_bind (wpAny_standAt (wpAny_bind (wpAny_mono (turn n s hI) (fun r s₁ h₁ => ?_) hE)))
  cases r with
  | none => exact wpAny_pure h₁
  | some v =>
    refine wpAny_bind (wpAny_mono h₁ (fun _ s₁' h₁' => ?_) hE)
    refine wpAny_bind (wpAny_mono h₁' (fun _ s₂ h₂ => wpAny_bind (wpAny_mono h₂ (fun ok s₃ h₃ => ?_) hE)) hE)
    cases ok with
    | false => exact wpAny_pure ⟨rfl, h₃⟩
    | true =>
      exact wpAny_bind (wpAny_bind (wpAny_mono h₃ (fun x s₄ h₄ => wpAny_bind (wpAny_mono h₄ (fun _ s₅ h₅ => wpAny_pure (wpAny_pure ⟨rfl, h₅⟩)) hE)) hE))
theorem closure_key {env : Env} : ∀ (names : List (Str × NameKind)) (acc : List (Str × Addr)), (∀ y ∈ names, y.2 = .free → ∃ c, env.cells.lookup y.1 = some c) → (∀ x c, acc.lookup x = some c → env.cells.lookup x = some c) →
    ∃ cl, (forIn names acc (fun (x : Str × NameKind) (r : List (Str × Addr)) => (if (x.2 == NameKind.free) = true then (do let a ← cellOf env x.1; pure (ForInStep.yield ((x.1, a) :: r))) else pure (ForInStep.yield r) : Sem (ForInStep (List (Str × Addr)))))) = (pure cl : Sem (List (Str × Addr))) ∧
      (∀ x c, cl.lookup x = some c → env.cells.lookup x = some c) ∧ (∀ x c, acc.lookup x = some c → ∃ c', cl.lookup x = some c') ∧ ∀ y ∈ names, y.2 = .free → ∃ c, cl.lookup y.1 = some c
  | [], acc, _, ha => ⟨acc, rfl, ha, fun x c e => ⟨c, e⟩, fun _ h => nomatch h⟩
  | (n, k) :: r, acc, hf, ha => by
    have hf' : ∀ y ∈ r, y.2 = .free → ∃ c, env.cells.lookup y.1 = some c := fun y hy => hf y (List.mem_cons_of_mem _ hy)
    by_cases hk : k = .free
    · subst hk
      obtain ⟨c, hc⟩ := hf (n, .free) List.mem_cons_self rfl
      have hc' : env.cells.lookup n = some c := hc
      have ha' : ∀ x d, ((n, c) :: acc).lookup x = some d → env.cells.lookup x = some d := fun x d e => by
        rw [List.lookup_cons] at e
        cases hx : x == n with
        | true => rw [hx] at e; cases e; rw [beq_iff_eq.mp hx]; exact hc'
        | false => rw [hx] at e; exact ha x d e
      obtain ⟨cl, e, h1, h2, h3⟩ := closure_key r ((n, c) :: acc) hf' ha'
      have hself : ((n, c) :: acc).lookup n = some c := by rw [List.lookup_cons, beq_self_eq_true]
      refine ⟨cl, ?_, h1, fun x d ex => ?_, fun y hy hyf => ?_⟩
      · rw [List.forIn_cons]
        have ec : cellOf env n = pure c := by unfold cellOf; rw [hc']
        show ((if (NameKind.free == NameKind.free) = true then (do let a ← cellOf env n; pure (ForInStep.yield ((n, a) :: acc))) else pure (ForInStep.yield acc) : Sem _) >>= _) = _
        rw [if_pos (by decide), ec]
        exact e
      · cases hx : x == n with
        | true => rw [beq_iff_eq.mp hx]; exact h2 n c hself
        | false => exact h2 x d (by rw [List.lookup_cons, hx]; exact ex)
      · rcases List.mem_cons.mp hy with rfl | hy
        · exact h2 n c hself
        · exact h3 y hy hyf
    · obtain ⟨cl, e, h1, h2, h3⟩ := closure_key r acc hf' ha
      refine ⟨cl, ?_, h1, h2, fun y hy hyf => ?_⟩
      · rw [List.forIn_cons]
        show ((if (k == NameKind.free) = true then (do let a ← cellOf env n; pure (ForInStep.yield ((n, a) :: acc))) else pure (ForInStep.yield acc) : Sem _) >>= _) = _
        rw [if_neg (by simpa using hk)]
        exact e
      · rcases List.mem_cons.mp hy with rfl | hy
        · exact absurd hyf hk
        · exact h3 y hy hyf
theorem closure_ok {scope : Scope} {env : Env} (h : ∀ y ∈ scope.names, y.2 = .free → ∃ c, env.cells.lookup y.1 = some c) :
    ∃ cl, closureFor scope env = pure cl ∧ (∀ x c, cl.lookup x = some c → env.cells.lookup x = some c) ∧ ∀ y ∈ scope.names, y.2 = .free → ∃ c, cl.lookup y.1 = some c := by
  obtain ⟨cl, e, h1, _, h3⟩ := closure_key (env := env) scope.names [] h (fun x c e => nomatch e)
  refine ⟨cl, ?_, h1, h3⟩
  have e0 : closureFor scope env = ((forIn scope.names [] (fun (x : Str × NameKind) (r : List (Str × Addr)) => (if (x.2 == NameKind.free) = true then (do let a ← cellOf env x.1; pure (ForInStep.yield ((x.1, a) :: r))) else pure (ForInStep.yield r) : Sem (ForInStep (List (Str × Addr)))))) >>= fun r => pure r) := rfl
  rw [e0, e]
  rfl
theorem relabel_free {env : Env} (hf : env.scope.kind = .function) : ∀ {names : List (Str × NameKind)} {x : Str}, names.lookup x = some .free → env.kindOf x = some .cell →
    (names.map fun (n, k) => if (k == NameKind.free && env.scope.kind == .function && env.kindOf n == some .cell) then (n, NameKind.cell) else (n, k)).lookup x = some .cell
  | [], _, h, _ => by simp at h
  | (n, k) :: r, x, h, hc => by
    have ih := @relabel_free env hf r x
    show List.lookup x ((if (k == NameKind.free && env.scope.kind == .function && env.kindOf n == some .cell) = true then (n, NameKind.cell) else (n, k)) :: _) = _
    cases hx : x == n with
    | true =>
      simp only [List.lookup_cons, hx] at h
      cases h
      have e : x = n := beq_iff_eq.mp hx
      subst e
      rw [if_pos (by rw [hf, hc]; decide)]
      simp only [List.lookup_cons, hx]
    | false =>
      simp only [List.lookup_cons, hx] at h
      by_cases hq : (k == NameKind.free && env.scope.kind == .function && env.kindOf n == some .cell) = true
      · rw [if_pos hq]; simp only [List.lookup_cons, hx]; exact ih h hc
      · rw [if_neg hq]; simp only [List.lookup_cons, hx]; exact ih h hc
theorem relabel_back {env : Env} : ∀ {names : List (Str × NameKind)} {x : Str} {k : NameKind},
    (names.map fun (n, k) => if (k == NameKind.free && env.scope.kind == .function && env.kindOf n == some .cell) then (n, NameKind.cell) else (n, k)).lookup x = some k → ∃ k0, names.lookup x = some k0 ∧ (k = k0 ∨ k0 = .free)
  | [], _, _, h => by simp at h
  | (n, k1) :: r, x, k, h => by
    have h : List.lookup x ((if (k1 == NameKind.free && env.scope.kind == .function && env.kindOf n == some .cell) = true then (n, NameKind.cell) else (n, k1)) :: (r.map fun (n, k) => if (k == NameKind.free && env.scope.kind == .function && env.kindOf n == some .cell) then (n, NameKind.cell) else (n, k))) = some k := h
    cases hx : x == n with
    | true =>
      by_cases hq : (k1 == NameKind.free && env.scope.kind == .function && env.kindOf n == some .cell) = true
      · have : k1 = .free := by
          rw [Bool.and_eq_true, Bool.and_eq_true] at hq
          simpa using hq.1.1
        exact ⟨k1, by simp only [List.lookup_cons, hx], .inr this⟩
      · rw [if_neg hq] at h
        simp only [List.lookup_cons, hx] at h
        exact ⟨k1, by simp only [List.lookup_cons, hx], .inl (Option.some.inj h).symm⟩
    | false =>
      have h' : (r.map fun (n, k) => if (k == NameKind.free && env.scope.kind == .function && env.kindOf n == some .cell) then (n, NameKind.cell) else (n, k)).lookup x = some k := by
        by_cases hq : (k1 == NameKind.free && env.scope.kind == .function && env.kindOf n == some .cell) = true
        · rw [if_pos hq] at h; simp only [List.lookup_cons, hx] at h; exact h
        · rw [if_neg hq] at h; simp only [List.lookup_cons, hx] at h; exact h
      obtain ⟨k0, e, z⟩ := relabel_back h'
      exact ⟨k0, by simp only [List.lookup_cons, hx]; exact e, z⟩
def cxComp (X : Cx) (N : List Str) (scope : Scope) (cl : List (Str × Addr)) (C : Addr) (s : Shared) (H : Hp) (fp : List Addr) : Cx :=
  { X with N := N, s₀ := s, H₀ := H, env := compEnvC scope cl C X.env, outer := X.stack, ex := fp, fn := fun _ => false, pn := [], xe := fun _ _ => False }
structure CompOk (X : Cx) (scope : Scope) (ls ys : List Str) (ix : List Nat) : Prop where
  kind : scope.kind = .function
  nocellB : (scope.names.all fun y => y.2 != .cell) = true
  locB : (scope.names.all fun y => y.2 != .local || scope.names.lookup y.1 == some .local) = true
  freeB : (scope.names.all fun y => y.2 != .free || X.env.kindOf y.1 == some .cell) = true
  ylkB : (ys.all fun y => scope.names.lookup y == some .free) = true
  yix : ix.map (fun j => X.N[j]?) = ys.map some
section
variable {X : Cx} {scope : Scope} {ls ys : List Str} {ix : List Nat}
theorem CompOk.nocell (ok : CompOk X scope ls ys ix) : ∀ y ∈ scope.names, y.2 ≠ .cell := fun y hy => by
  simpa using List.all_eq_true.mp ok.nocellB y hy
theorem CompOk.loc (ok : CompOk X scope ls ys ix) : ∀ y ∈ scope.names, y.2 = .local → scope.names.lookup y.1 = some .local := fun y hy e => by
  have h := List.all_eq_true.mp ok.locB y hy
  rw [e] at h
  simpa using h
theorem CompOk.free (ok : CompOk X scope ls ys ix) : ∀ y ∈ scope.names, y.2 = .free → X.env.kindOf y.1 = some .cell := fun y hy e => by
  have h := List.all_eq_true.mp ok.freeB y hy
  rw [e] at h
  simpa using h
theorem CompOk.ylk (ok : CompOk X scope ls ys ix) : ∀ y ∈ ys, scope.names.lookup y = some .free := fun y hy => by
  simpa using List.all_eq_true.mp ok.ylkB y hy
end
def inSt (n : Nat) (ix : List Nat) (σ : St) : St := List.replicate n none ++ ix.map fun j => (σ[j]?).join
section
variable {X : Cx} {pins : List (Addr × Obj)} {σ : St} {H : Hp} {s : Shared} {scope : Scope} {ls ys : List Str} {ix : List Nat} {cl : List (Str × Addr)} {fp : List Addr}
theorem comp_in {h₁ : Heap} {tk : Nat} {m : Str → Option Value} (I : Inv X pins σ H s) (ok : CompOk X scope ls ys ix) (hcl1 : ∀ x c, cl.lookup x = some c → X.env.cells.lookup x = some c)
    (hcl2 : ∀ y ∈ scope.names, y.2 = .free → ∃ c, cl.lookup y.1 = some c) (f3 : ∀ b ∈ fp, FpOk X pins H b) (hob : ∀ b ∈ fp, b < s.heap.objs.size)
    (hns : h₁.Ns s.heap.objs.size m) (hk : ∀ b o, s.heap.get? b = some o → h₁.get? b = some o) :
    Inv (cxComp X (ls ++ ys) scope cl s.heap.objs.size s H fp) [] (inSt ls.length ix σ) H { s with heap := h₁, toks := tk } := by
  have hfree : ∀ x, scope.names.lookup x = some .free → X.env.kindOf x = some .cell := fun x e => ok.free (x, .free) (PySem.mem_of_lookup e) rfl
  refine ⟨⟨I.ok.mod, ok.kind, I.ok.glob, I.ok.blt, Nat.le_refl _, fun x y c h1 h2 => I.ok.inj x y c (hcl1 x c h1) (hcl1 y c h2), fun x hx => ?_, fun x c hx _ => absurd hx Bool.false_ne_true, I.ok.hd, I.ok.frames, .inl rfl,
    fun b hb => ⟨Nat.ne_of_lt (hob b hb), fun x c e => (f3 b hb).2.2.2.2.1 x c (hcl1 x c e)⟩, I.bs, Nat.le_trans I.ok.bsz I.sz, fun b o e hb => ?_, fun b hb z => ?_, I.stack, I.stkFree⟩,
    rfl, I.bare, Un.kept hk, ⟨m, hns, fun i x v h1 h2 h3 => ?_⟩, fun x c e => ?_, I.fresh, fun x c e => I.freeC x c (hcl1 x c e), fun p hp => absurd (show p ∈ ([] : List (Addr × Obj)) from hp) (by simp), I.hok.kept hk, ?_⟩
  · have e : ∃ k, (relabel scope X.env).names.lookup x = some k ∧ (k = .cell ∨ k = .free) := by
      rcases hx with hx | hx
      · exact ⟨_, hx, .inl rfl⟩
      · exact ⟨_, hx, .inr rfl⟩
    obtain ⟨k, e, hkk⟩ := e
    obtain ⟨k0, e0, z⟩ := relabel_back e
    have hm := PySem.mem_of_lookup e0
    have hk0 : k0 = .free := by
      rcases z with z | z
      · rcases hkk with q | q
        · exact absurd (z.symm.trans q) (ok.nocell _ hm)
        · exact z.symm.trans q
      · exact z
    exact hcl2 _ hm hk0
  · obtain ⟨q1, q2, q3, q4, _⟩ := f3 b hb
    rcases q4 with q4 | q4
    · exact I.ok.noex b o e q4
    · exact absurd (Nat.lt_of_lt_of_le (Heap.lt_size e) (Nat.le_trans I.ok.bsz q4)) (Nat.lt_irrefl _)
  · rcases List.mem_cons.mp (I.stkSub b z) with q | q
    · exact (f3 b hb).2.1 q
    · exact (f3 b hb).2.2.1 q
  · have h1 : (ls ++ ys)[i]? = some x := h1
    have h2 : (List.replicate ls.length none ++ ix.map fun j => (σ[j]?).join)[i]? = some (some v) := h2
    by_cases hi : i < ls.length
    · rw [List.getElem?_append_left (by rw [List.length_replicate]; exact hi), List.getElem?_replicate, if_pos hi] at h2
      cases h2
    · rw [List.getElem?_append_right (by rw [List.length_replicate]; omega), List.length_replicate, List.getElem?_map] at h2
      rw [List.getElem?_append_right (by omega)] at h1
      cases e : ix[i - ls.length]? with
      | none => rw [e] at h2; cases h2
      | some j =>
        rw [e] at h2
        have h2 : (σ[j]?).join = some v := Option.some.inj h2
        have hσ : σ[j]? = some (some v) := by
          cases q : σ[j]? with
          | none => rw [q] at h2; cases h2
          | some z => rw [q] at h2; exact congrArg some h2
        have hN : X.N[j]? = some x := by
          have q := congrArg (fun l => l[i - ls.length]?) ok.yix
          simp only [List.getElem?_map, e, h1, Option.map_some] at q
          exact Option.some.inj q
        have hl := ok.ylk x (List.mem_of_getElem? h1)
        have hc := hfree x hl
        obtain ⟨m', hn', hl'⟩ := I.loc
        obtain ⟨u, r, lk⟩ := hl' j x v hN hσ (.inr (.inl hc))
        refine ⟨u, r, ?_⟩
        rcases lk with ⟨lk, _⟩ | ⟨_, c, ec, z⟩
        · rw [hc] at lk; cases lk
        · obtain ⟨c', ec'⟩ := hcl2 _ (PySem.mem_of_lookup hl) rfl
          have ec2 : X.env.cells.lookup x = some c' := hcl1 x c' ec'
          rw [ec] at ec2
          cases ec2
          exact .inr ⟨.inl (relabel_free I.ok.kind hl hc), c, ec', z.keeps hk⟩
  · obtain ⟨v, z⟩ := I.cell x c (hcl1 x c e)
    exact ⟨v, z.keeps hk⟩
  · show (List.replicate ls.length none ++ ix.map fun j => (σ[j]?).join).length = (ls ++ ys).length
    have q := congrArg List.length ok.yix
    rw [List.length_map, List.length_map] at q
    rw [List.length_append, List.length_append, List.length_replicate, List.length_map, q]
end
def PF (X : Cx) (ifs : List Expr) (t : TT) : Prop :=
  ∀ (pins : List (Addr × Obj)) (s : Shared) (σ : St) (H : Hp) (Q : Bool → Hp → Prop), Inv X pins σ H s → t σ H Q →
    wpAny (model X.prog X.w) X.A (forIn ifs true fun c r => if r = true then do let ok ← isTrue c X.env (eval c X.env); pure (ForInStep.yield ok) else pure (ForInStep.yield r)) (TP X pins σ Q) X.xe s
def tYes : TT := fun _ H Q => Q true H
theorem pf_nil {X : Cx} : PF X [] tYes := fun _ _ _ H _ I h => wpAny_tests_nil ⟨H, I, h⟩
def lcW (σ0 : St) (g : TG) (tt : TT) (te : TE) (J : It) (H1 : Hp) (D : Addr) (Q : Hp → Prop) : Prop :=
  ∃ W : Nat → Nat → St → Hp → Prop, (∃ m, W 0 m σ0 (upd H1 D (.lst []))) ∧ ∀ i m τ H, W i m τ H →
    (J.stop i H ∧ Q H) ∨ (J.go i H ∧ ∃ N : St → Hp → Prop, (∀ τ' H', N τ' H' → ∃ m', m' < m ∧ W (i + 1) m' τ' H') ∧ ∀ x H', J.yld i H x H' → g x τ H' fun τ2 H2 => tt τ2 H2 fun b H3 =>
      if b = true then te τ2 H3 fun v H4 => ∃ acc, H4 D = some (.lst acc) ∧ acc.length < sizeLine ∧ N τ2 (upd H4 D (.lst (acc ++ [v]))) else N τ2 H3)
def tLc (wi : TI) (n : Nat) (ix : List Nat) (g : TG) (tt : TT) (te : TE) : TE := fun σ H Q => wi σ H fun J H1 => ∀ D, H1 D = none → lcW (inSt n ix σ) g tt te J H1 D fun H' => Q (.ref D) H'
def tLcSet (wi : TI) (n : Nat) (ix : List Nat) (g : TG) (tt : TT) (te : TE) (i : Nat) : TS := fun D σ H => tLc wi n ix g tt te σ H fun x H1 => D.nx (σ.set i (some x)) H1
section
variable {X : Cx} {scope : Scope} {ls ys : List Str} {ix : List Nat} {tg iter elt : Expr} {ifs : List Expr} {pos : Pos} {wi : TI} {g : TG} {tt : TT} {te : TE}
theorem comp_run {pins : List (Addr × Obj)} {σ : St} {H1 : Hp} {s : Shared} {J : It} {it : Addr} {fp : List Addr} {tn : Nat → Heap → Prop} {cl : List (Str × Addr)} {Q : Addr → Hp → Prop} {R : Value → Addr → Result → Shared → Prop} {E : Value → Shared → Prop} (hc : X.calm = true)
    (ok : CompOk X scope ls ys ix) (I : Inv X pins σ H1 s) (T : Turn X.prog X.w X.K tg J fp it tn) (st : tn 0 s.heap) (f2 : ∀ b ∈ fp, FpOk X pins H1 b)
    (hcl1 : ∀ x c, cl.lookup x = some c → X.env.cells.lookup x = some c) (hcl2 : ∀ y ∈ scope.names, y.2 = .free → ∃ c, cl.lookup y.1 = some c)
    (hg : ∀ cl C s H fp, PG (cxComp X (ls ++ ys) scope cl C s H fp) tg g) (ht : ∀ cl C s H fp, PF (cxComp X (ls ++ ys) scope cl C s H fp) ifs tt) (he : ∀ cl C s H fp, PE (cxComp X (ls ++ ys) scope cl C s H fp) elt te)
    (hJ : ∀ D, H1 D = none → lcW (inSt ls.length ix σ) g tt te J H1 D (Q D))
    (hR : ∀ D C H' s', Q D H' → Inv X pins σ H' s' → H' C = none → FpOk X pins H' C → (∃ m, s'.heap.Ns C m) → R (.ref D) C (.ok .next) s') :
    wpAny (model X.prog X.w) X.A (newList []) (fun acc s₃ => wpAny (model X.prog X.w) X.A (newFunctionEnv scope X.env.globals cl [] X.env.qual none .none (some X.env)) (fun cenv s₄ =>
      codeAny (model X.prog X.w) X.A (.compStart (.ListComp elt [⟨tg, iter, ifs, 0⟩] scope pos) 0 (.ref it) acc { cenv with scope := relabel scope X.env }) (R acc cenv.locals) s₄) E s₃) E s := by
  have hfp : ∀ b ∈ fp, b < s.heap.objs.size := fun b hb => by
    obtain ⟨o, e, _⟩ := T.obj _ _ st b hb
    exact Heap.lt_size e
  have I3 := I.lnew (ys := []) (its := []) (t' := s.toks) .nil (Nat.zero_le _)
  have hD : H1 s.heap.objs.size = none := I.fresh
  obtain ⟨W, ⟨m0, w0⟩, turn⟩ := hJ s.heap.objs.size hD
  refine wpAny_newObj_type (wpAny_newFunctionEnv ok.nocell (by intro y hy; simp at hy) (fun h₁ hns hsb => ?_) ok.kind)
  generalize hs3 : ({ s with heap := s.heap.push { cls := .type "list", data := .seq ([] : List Value).toArray }, toks := s.toks } : Shared) = s3 at I3
  have e3 : s.heap.push { cls := .type "list", dict := none, data := .seq ([] : List Value).toArray } = s3.heap := by rw [← hs3]
  have e3' : ({ s with heap := s.heap.push { cls := .type "list", dict := none, data := .seq ([] : List Value).toArray } } : Shared) = s3 := by rw [← hs3]
  generalize hH3 : upd H1 s.heap.objs.size (.lst []) = H3 at I3 w0
  have hsz : s3.heap.objs.size = s.heap.objs.size + 1 := by rw [← e3, Heap.size_push]
  have up3 : ∀ b o, s.heap.get? b = some o → s3.heap.get? b = some o := fun b o e => by rw [← e3]; exact Heap.get?_push_of_some _ e
  have f3 : ∀ b ∈ fp, FpOk X pins H3 b := fun b hb => by
    refine ⟨?_, (f2 b hb).2⟩
    rw [← hH3, upd_ne (Nat.ne_of_lt (hfp b hb))]
    exact (f2 b hb).1
  have hns : h₁.Ns s3.heap.objs.size (fun x => ([] : List (Str × Value)).reverse.lookup x) := by rw [← e3]; exact hns
  have hsb : Heap.SameBut s3.heap.objs.size (s3.heap.push { cls := .type (if (some X.env).isSome then "dict" else "frame"), data := .dict #[] }) h₁ := by rw [← e3]; exact hsb
  have up4 : ∀ b o, s3.heap.get? b = some o → h₁.get? b = some o := fun b o e => hsb.extBut b o (Nat.ne_of_lt (Heap.lt_size e)) (Heap.get?_push_of_some _ e)
  have Ic := comp_in (tk := s3.toks) I3 ok hcl1 hcl2 f3 (fun b hb => by rw [hsz]; exact Nat.lt_succ_of_lt (hfp b hb)) hns up4
  have stat : ∀ {H' : Hp} {pl : List (Addr × Obj)}, (∀ b ∈ fp, H' b = none) → pl = [] → ∀ b ∈ fp, FpOk (cxComp X (ls ++ ys) scope cl s3.heap.objs.size s3 H3 fp) pl H' b := fun {H' pl} hn hpl b hb => by
    subst hpl
    refine ⟨hn b hb, Nat.ne_of_lt (by rw [show (cxComp X (ls ++ ys) scope cl s3.heap.objs.size s3 H3 fp).env.locals = s3.heap.objs.size from rfl, hsz]; exact Nat.lt_succ_of_lt (hfp b hb)), Ic.ok.exfs b hb, .inl hb, fun x c e => (f3 b hb).2.2.2.2.1 x c (hcl1 x c e), fun p hp => absurd (show p ∈ ([] : List (Addr × Obj)) from hp) (by simp)⟩
  have loop : codeAny (model X.prog X.w) X.A (.compLoop (.ListComp elt [⟨tg, iter, ifs, 0⟩] scope pos) 0 (.ref it) (.ref s.heap.objs.size) (compEnvC scope cl s3.heap.objs.size X.env)) (R (.ref s.heap.objs.size) s3.heap.objs.size) { s3 with heap := h₁, toks := s3.toks } := by
    refine compLoop_go (fun n s' => ∃ i τ H', Inv (cxComp X (ls ++ ys) scope cl s3.heap.objs.size s3 H3 fp) [] τ H' s' ∧ tn i s'.heap ∧ (∀ b ∈ fp, H' b = none) ∧ W i n τ H') (fun _ _ => False) (fun _ _ h => h.elim) ?_ m0
      ⟨0, inSt ls.length ix σ, H3, Ic, T.keep _ _ _ st (fun b _ o e => up4 b o (up3 b o e)), fun b hb => (f3 b hb).1, w0⟩
    rintro n s4 ⟨i, τ, H4, I4, st4, fr4, w4⟩
    rcases turn i n τ H4 w4 with ⟨stop, qn⟩ | ⟨go, N, hN, step⟩
    · refine thn (T.done (cxComp X (ls ++ ys) scope cl s3.heap.objs.size s3 H3 fp) rfl rfl rfl hc i [] s4 τ H4 (fun _ _ => False) I4 (stat fr4 rfl) st4 stop) fun r s5 ⟨hr, I5⟩ => ?_
      subst hr
      have Io : Inv X pins σ H4 s5 := I3.call' (ch := fp) I5.os I5.base I5.hok I5.bare fun b hb => ⟨(f3 b hb).2.2.2.1, (f3 b hb).2.1, (f3 b hb).2.2.2.2.1, (f3 b hb).2.2.2.2.2⟩
      obtain ⟨m5, n5, _⟩ := I5.loc
      have hC : H4 s3.heap.objs.size = none := I5.free
      exact hR _ _ H4 s5 qn Io hC (I3.fpOk (Nat.le_refl _) hC) ⟨m5, n5⟩
    · refine thn (T.item (cxComp X (ls ++ ys) scope cl s3.heap.objs.size s3 H3 fp) rfl rfl rfl hc i [] s4 τ H4 (fun _ _ => False) I4 (stat fr4 rfl) st4 go) fun r s5 ⟨u, hr, h5⟩ => ?_
      subst hr
      refine thn h5 fun _ s6 ⟨x, H6, I6, r6, y6, st6, fr6⟩ => ?_
      have I6' := I6.pinned (stat fr6 rfl) (T.obj _ _ st6)
      have fin : ∀ {τ7 : St} {H7 : Hp} {s7 : Shared}, Inv (cxComp X (ls ++ ys) scope cl s3.heap.objs.size s3 H3 fp) ([] ++ pinsAt fp s6.heap) τ7 H7 s7 → N τ7 H7 → ∃ m, m < n ∧ ∃ i τ H', Inv (cxComp X (ls ++ ys) scope cl s3.heap.objs.size s3 H3 fp) [] τ H' s7 ∧ tn i s7.heap ∧ (∀ b ∈ fp, H' b = none) ∧ W i m τ H' := fun {τ7 H7 s7} I7 n7 => by
        obtain ⟨m', hm, w7⟩ := hN τ7 H7 n7
        refine ⟨m', hm, i + 1, τ7, H7, I7.unpinned, T.keep _ _ _ st6 fun b hb o e => (I7.pin (b, o) (List.mem_append_right _ (List.mem_append_right _ (mem_pinsAt hb e)))).1, fun b hb => ?_, w7⟩
        obtain ⟨o, e, d⟩ := T.obj _ _ st6 b hb
        exact (I7.pin (b, o) (List.mem_append_right _ (List.mem_append_right _ (mem_pinsAt hb e)))).2.1
      refine thn (hg _ _ _ _ _ _ s6 τ H6 x u _ I6' r6 (step x H6 y6)) fun _ s7 ⟨τ7, H7, I7, q7⟩ => ?_
      refine thn (ht _ _ _ _ _ _ s7 τ7 H7 _ I7 q7) fun b s8 ⟨H8, I8, q8⟩ => ?_
      cases b with
      | false =>
        rw [if_neg Bool.false_ne_true] at q8 ⊢
        exact fin I8 q8
      | true =>
        rw [if_pos rfl] at q8 ⊢
        refine thn (he _ _ _ _ _ _ s8 τ7 H8 _ I8 q8) fun y s9 ⟨v, H9, I9, r9, acc, hacc, hlen, n9⟩ => ?_
        exact thn (mt_append _ s9 τ7 H9 (.ref s.heap.objs.size) [v] (.ref s.heap.objs.size) [y] (fun _ H' => N τ7 H') I9 rfl (.cons r9 .nil) ⟨_, acc, v, rfl, rfl, hacc, hlen, n9⟩) fun _ s10 ⟨_, H10, I10, _, n10⟩ => fin I10 n10
  exact codeAny_compStart_list loop (T.self _ 0 _ _ _ (T.keep _ _ _ st (fun b _ o e => up4 b o (up3 b o e))) loop)
theorem ps_lcset {i : Nat} {x : Str} {spos px : Pos} (hc : X.calm = true) (hN : X.N.Nodup) (hxi : X.N[i]? = some x) (hx : Loc X.env.scope x) (ok : CompOk X scope ls ys ix) (hi : PI X tg iter wi)
    (hg : ∀ cl C s H fp, PG (cxComp X (ls ++ ys) scope cl C s H fp) tg g) (ht : ∀ cl C s H fp, PF (cxComp X (ls ++ ys) scope cl C s H fp) ifs tt) (he : ∀ cl C s H fp, PE (cxComp X (ls ++ ys) scope cl C s H fp) elt te)
    (hs : ∀ x, foldedSetIterable iter X.env x = pure x := by intro _; rfl) (hsw : swapsWith (.ListComp elt [⟨tg, iter, ifs, 0⟩] scope pos) (some (.Name x px)) spos.line X.env = pure true := by rfl)
    (hf : X.fn x = true ∨ X.env.scope.names.lookup x = some .local := by first | exact .inl rfl | exact .inr rfl | assumption) :
    PS X (.Assign [.Name x px] (.ListComp elt [⟨tg, iter, ifs, 0⟩] scope pos) spos) (tLcSet wi ls.length ix g tt te i) := by
  intro pins s σ H D I h
  obtain ⟨cl, hclos, hcl1, hcl2⟩ := closure_ok (scope := scope) (env := X.env) fun y hy hf => I.ok.has y.1 (.inl (ok.free y hy hf))
  rw [exec_Assign_Name_used _ _ _ _ hsw]
  refine wpAny_bind (wpAny_standAt (wpAny_bind ?_))
  show wpAny _ X.A (do let _ ← comprehension (.ListComp elt [⟨tg, iter, ifs, 0⟩] scope pos) scope X.env _ (newList []) false (eval iter X.env) (some (assign (.Name x px) X.env))) _ _ s
  refine wpAny_bind (wpAny_mono (wpAny_comprehension_free (use := some (assign (.Name x px) X.env)) (Q := fun _ s' => ∃ σ' H', Inv X pins σ' H' s' ∧ D.nx σ' H') rfl hs hclos ok.kind ok.loc
    (thn (hi pins s σ H _ I h) fun v s1 h1 => thn h1 fun itv s2 h2 => ?_)) (fun _ s' hq => wpAny_pure (wpAny_pure hq)) fun _ _ e => e)
  obtain ⟨it, fp, tn, J, H2, rfl, I2, T, st2, f2, hJ⟩ := h2
  refine comp_run (R := fun acc C => compPost (model X.prog X.w) X.A X.xe (some (assign (.Name x px) X.env)) (fun _ s' => ∃ σ' H', Inv X pins σ' H' s' ∧ D.nx σ' H') acc C) hc ok I2 T st2 f2 hcl1 hcl2 hg ht he hJ fun Da C H' s' q I' hC fC hm => ?_
  obtain ⟨m, hn⟩ := hm
  show wpAny _ X.A (assign (.Name x px) X.env (.ref Da)) _ _ s'
  refine wpAny_assign_Name (store_ok2 (v := .ref Da) I' hN hxi hx rfl (fun s2 I3 hz => ?_) hf)
  obtain ⟨a, sb, ha⟩ := hz
  have hCa : C ≠ a := by
    rcases ha with ha | ha
    · rw [ha]; exact fC.2.1
    · exact Ne.symm (fC.2.2.2.2.1 x a ha)
  refine ⟨m, hn.sameBut sb hCa, fun h' hsb => ⟨_, H', ?_, q⟩⟩
  exact I3.turned (t' := s2.toks) (fun b o hb e => (hsb.2 b hb).trans e) hC fC.2.1 fC.2.2.2.1 fC.2.2.2.2.1 fC.2.2.2.2.2
end
end L2
namespace L2
open PySem PySem.Spec PyProof.Rows
def Ev (t : TE) (σ : St) (H : Hp) (v : V) : Prop := ∀ Q : VK, Q v H → t σ H Q
def EvT (t : TT) (σ : St) (H : Hp) (b : Bool) : Prop := ∀ Q : Bool → Hp → Prop, Q b H → t σ H Q
def EvA (t : TA) (σ : St) (H : Hp) (vs : List V) : Prop := ∀ Q : List V → Hp → Prop, Q vs H → t σ H Q
section
variable {σ : St} {H : Hp} {ta tb tc te : TE} {t u : TT} {i j k : Int} {a b c : Bool} {v x y : V} {K : PySem.W.Frag}
theorem ev_c : Ev (tC v) σ H v := fun _ q => q
theorem ev_var {n : Nat} (h : σ[n]? = some (some v)) : Ev (tVar n) σ H v := fun _ q => ⟨v, h, q⟩
theorem ev_I0 {g : Int → Int → V} (ha : Ev ta σ H (.int i)) (hb : Ev tb σ H (.int j)) : Ev (tOp (rI0 g) ta tb) σ H (g i j) := fun _ q => ha _ (hb _ ⟨i, j, rfl, rfl, q⟩)
theorem ev_I {C : Int → Int → Prop} {g : Int → Int → V} (ha : Ev ta σ H (.int i)) (hb : Ev tb σ H (.int j)) (hc : C i j) : Ev (tOp (rI C g) ta tb) σ H (g i j) := fun _ q => ha _ (hb _ ⟨i, j, rfl, rfl, hc, q⟩)
theorem ev_eqI (ha : Ev ta σ H (.int i)) (hb : Ev tb σ H (.int j)) : Ev (tOp rEq ta tb) σ H (.bl (decide (i = j))) := fun Q q => ha _ (hb _ ⟨rfl, by
  have e : decide (V.int i = V.int j) = decide (i = j) := by rw [dec_int]; rfl
  rw [e]; exact q⟩)
theorem ev_neI (ha : Ev ta σ H (.int i)) (hb : Ev tb σ H (.int j)) : Ev (tOp rNe ta tb) σ H (.bl (!decide (i = j))) := fun Q q => ha _ (hb _ ⟨rfl, by
  have e : decide (V.int i = V.int j) = decide (i = j) := by rw [dec_int]; rfl
  rw [e]; exact q⟩)
theorem ev_and (ha : Ev ta σ H (.bl a)) (hb : a = true → Ev tb σ H (.bl b)) : Ev (tAndV ta tb) σ H (.bl (a && b)) := fun Q z => by
  refine ha _ ⟨a, rfl, ?_⟩
  cases a with
  | true => rw [if_pos rfl]; exact hb rfl _ z
  | false => rw [if_neg Bool.false_ne_true]; exact z
theorem ev_not (ha : Ev ta σ H (.bl a)) : Ev (tNotV ta) σ H (.bl (!a)) := fun _ z => ha _ ⟨a, rfl, z⟩
theorem ev_ixT {p : Addr} {xs : List V} (ha : Ev ta σ H (.ref p)) (hb : Ev tb σ H (.int i)) (hs : SqT K H p xs) (he : atI xs i = some v) : Ev (tOp (rIxT K) ta tb) σ H v := fun _ q => ha _ (hb _ ⟨p, xs, i, v, rfl, rfl, hs, he, q⟩)
theorem ev_ixL {p : Addr} {xs : List V} (ha : Ev ta σ H (.ref p)) (hb : Ev tb σ H (.int i)) (hs : SqL K H p xs) (he : atI xs i = some v) : Ev (tOp (rIxL K) ta tb) σ H v := fun _ q => ha _ (hb _ ⟨p, xs, i, v, rfl, rfl, hs, he, q⟩)
theorem ev_isN (ha : Ev ta σ H x) (hb : Ev tb σ H .non) : Ev (tOp (fun x y H Q => y = .non ∧ Q (.bl (decide (x = .non))) H) ta tb) σ H (.bl (decide (x = .non))) := fun _ z => ha _ (hb _ ⟨rfl, z⟩)
theorem ev_call {sp : Sp} {dvs vs : List V} {E : XK} {t : TA} (ha : EvA t σ H vs) (hs : ∀ Q : VK, Q v H → sp (vs ++ dvs) H Q E) : Ev (tCall sp dvs E t) σ H v := fun Q q => ha _ (hs Q q)
theorem ev_cb {r : List V → Hp → VK → Prop} {vs : List V} {t : TA} (ha : EvA t σ H vs) (hs : ∀ Q : VK, Q v H → r vs H Q) : Ev (tCB r t) σ H v := fun Q q => ha _ (hs Q q)
theorem ea_nil : EvA tNil σ H [] := fun _ q => q
theorem ea_cons {t : TA} {vs : List V} (ha : Ev ta σ H v) (hr : EvA t σ H vs) : EvA (tCons ta t) σ H (v :: vs) := fun _ q => ha _ (hr _ q)
theorem et_test (h : Ev te σ H (.bl b)) : EvT (tTest te) σ H b := fun _ q => h _ ⟨b, rfl, q⟩
theorem et_B (h : Ev te σ H (.bl b)) : EvT (tB te) σ H b := fun _ q => h _ ⟨b, rfl, q⟩
theorem et_not (h : EvT t σ H b) : EvT (tNot t) σ H (!b) := fun _ q => h _ q
theorem et_and (ha : EvT t σ H a) (hb : a = true → EvT u σ H b) : EvT (tAnd t u) σ H (a && b) := fun Q z => by
  refine ha _ ?_
  cases a with
  | true => rw [if_pos rfl]; exact hb rfl _ z
  | false => rw [if_neg Bool.false_ne_true]; exact z
theorem et_or (ha : EvT t σ H a) (hb : a = false → EvT u σ H b) : EvT (tOr t u) σ H (a || b) := fun Q z => by
  refine ha _ ?_
  cases a with
  | true => rw [if_pos rfl]; exact z
  | false => rw [if_neg Bool.false_ne_true]; exact hb rfl _ z
theorem rd_if {tc : TT} {t u : TS} {D : Ends} (h : EvT tc σ H b) (h1 : b = true → t D σ H) (h2 : b = false → u D σ H) : tIfS tc t u D σ H := by
  refine h _ ?_
  cases b with
  | true => rw [if_pos rfl]; exact h1 rfl
  | false => rw [if_neg Bool.false_ne_true]; exact h2 rfl
theorem rd_ifF {tc : TT} {t u : TS} {D : Ends} (h : EvT tc σ H b) (hb : b = false) (h2 : u D σ H) : tIfS tc t u D σ H := rd_if h (fun e => absurd (hb.symm.trans e) Bool.false_ne_true) fun _ => h2
theorem rd_ifT {tc : TT} {t u : TS} {D : Ends} (h : EvT tc σ H b) (hb : b = true) (h1 : t D σ H) : tIfS tc t u D σ H := rd_if h (fun _ => h1) fun e => absurd (e.symm.trans hb) Bool.false_ne_true
theorem rd_set {n : Nat} {D : Ends} (h : Ev te σ H v) (q : D.nx (σ.set n (some v)) H) : tAsg te (gName n) D σ H := h _ q
theorem rd_ret {D : Ends} (h : Ev te σ H v) (q : D.rt v H) : tRet te D σ H := h _ q
end
theorem cmR {i j : Int} (h1 : -(2 ^ 64) < j) (h2 : j < 2 ^ 64) : CMul i j := .inr ⟨h1, h2⟩
theorem cmL {i j : Int} (h1 : -(2 ^ 64) < i) (h2 : i < 2 ^ 64) : CMul i j := .inl ⟨h1, h2⟩
theorem cdB {i j : Int} (h1 : 0 < j) (h2 : j < 2 ^ 200) : CDivB i j := ⟨h1, h2⟩
theorem cpw {i j : Int} (h1 : 0 ≤ j) (h2 : j ≤ 1000000) (h3 : i.natAbs < 2 ^ 64) : CPow i j := ⟨h1, h2, h3⟩
theorem bt_len : bootBuiltins "len" = some (.builtin "len") := by decide +kernel
theorem bt_isinstance : bootBuiltins "isinstance" = some (.builtin "isinstance") := by decide +kernel
theorem bt_int : bootBuiltins "int" = some (.type "int") := by decide +kernel
theorem bt_bool : bootBuiltins "bool" = some (.type "bool") := by decide +kernel
theorem bt_tuple : bootBuiltins "tuple" = some (.type "tuple") := by decide +kernel
theorem bt_list : bootBuiltins "list" = some (.type "list") := by decide +kernel
theorem bt_dict : bootBuiltins "dict" = some (.type "dict") := by decide +kernel
theorem bt_sorted : bootBuiltins "sorted" = some (.builtin "sorted") := by decide +kernel
theorem st {t : TS} {D : Ends} {σ : St} {H : Hp} {r : VK} {b c : St → Hp → Prop} (h : t D σ H) : ({ nx := t D, rt := r, bk := b, ct := c } : Ends).nx σ H := h
section
variable {σ : St} {H : Hp} {te : TE} {tc : TT} {t u : TS} {ta : TA} {D : Ends} {b : Bool} {v : V} {vs : List V} {n : Nat} {K : PySem.W.Frag}
theorem sq_set (h : Ev te σ H v) (q : u D (σ.set n (some v)) H) : tSeq (tAsg te (gName n)) u D σ H := h _ q
theorem sq_ifF (h : EvT tc σ H b) (hb : b = false) (q : u D σ H) : tSeq (tIfS tc t tNext) u D σ H := rd_ifF (D := { D with nx := u D }) h hb q
theorem sq_if (h : EvT tc σ H b) (h1 : b = true → t { D with nx := u D } σ H) (h2 : b = false → u D σ H) : tSeq (tIfS tc t tNext) u D σ H := rd_if (D := { D with nx := u D }) h h1 h2
theorem sq_lst (h : EvA ta σ H vs) (hz : vs.length ≤ sizeLine) (q : ∀ p, H p = none → u D (σ.set n (some (.ref p))) (upd H p (.lst vs))) : tSeq (tAsg (tLst ta) (gName n)) u D σ H := h _ ⟨hz, q⟩
theorem sq_cal {sp : Sp} (h : EvA ta σ H vs) (q : sp vs H (fun v H1 => u D (σ.set n (some v)) H1) E0) : tSeq (tAsg (tCall sp [] E0 ta) (gName n)) u D σ H := h _ (by rw [List.append_nil]; exact q)
theorem gn {Q : St → Hp → Prop} (q : Q (σ.set n (some v)) H) : gName n v σ H Q := q
end
structure Callee (P : Program) (w : World) (K : PySem.W.Frag) (mg : Str → Option Value) (base : Heap) (x : Str) (k : Nat) (ps : List Str) (sp : Sp) : Prop where
  ex : ∃ f fd, FnOk P w K mg base CX0 k f fd ps sp ∧ mg x = some (.ref f) ∧ PySem.W.keepIn K (.ref f) = true ∧ Binds K fd ps []
theorem pe_cal {X : Cx} {x : Str} {k : Nat} {ps : List Str} {sp : Sp} {p pos : Pos} {e : Expr} {es : List Expr} {t : TA} (C : Callee X.prog X.w X.K X.mg X.base x k ps sp) (hr : Room k X.A) (hg : Gl X x) (ha : PA X (e :: es) t)
    (hdb : (x == ("__debug__" : Str)) = false := by decide) (he : starEach (e :: es) X.env = (false, eval e X.env) :: starEach es X.env := by rfl) (hpl : (backTo pos (starEach es X.env)).any (·.1) = false := by rfl) :
    PE X (.Call (.Name x p) (e :: es) [] pos) (tCall sp [] E0 t) := by
  obtain ⟨f, fd, G, hm, hk, hb⟩ := C.ex
  exact pe_call G hr hg hm hk hb .nil pass0 ha hdb he hpl
theorem SqT.same {K : PySem.W.Frag} {H H' : Hp} {a : Addr} {xs : List V} (e : Same H H') (h : SqT K H a xs) : SqT K H' a xs := by
  rcases h with (h | ⟨o, h⟩) | h
  · exact .inl (.inl (e _ _ h))
  · exact .inl (.inr ⟨o, e _ _ h⟩)
  · exact .inr h
theorem Same.upd {H H' : Hp} (e : Same H H') {p : Addr} {o : HO} (hp : H' p = none) : Same H (upd H' p o) := fun b u h => by
  rw [upd_ne (ne_of_none (e b u h) hp)]
  exact e b u h
end L2
namespace L2
open PySem PySem.Spec PyProof.Rows
section
variable {X : Cx} {tg : Expr}
end
theorem lc_range {lo : Int} {n : Nat} {σ0 : St} {g : TG} {tt : TT} {te : TE} {H1 : Hp} {D : Addr} {Q : Hp → Prop} (Pv : Nat → St → Hp → Prop) (h0 : Pv 0 σ0 (upd H1 D (.lst [])))
    (hs : ∀ i τ H, i < n → Pv i τ H → g (.int (lo + i)) τ H fun τ2 H2 => tt τ2 H2 fun b H3 =>
      if b = true then te τ2 H3 fun v H4 => ∃ acc, H4 D = some (.lst acc) ∧ acc.length < sizeLine ∧ Pv (i + 1) τ2 (upd H4 D (.lst (acc ++ [v]))) else Pv (i + 1) τ2 H3)
    (hd : ∀ τ H, Pv n τ H → Q H) : lcW σ0 g tt te (Itr lo n) H1 D Q := by
  refine ⟨fun i m τ H => m = n - i ∧ i ≤ n ∧ Pv i τ H, ⟨n, by simp, Nat.zero_le _, h0⟩, ?_⟩
  rintro i m τ H ⟨rfl, hi, p⟩
  by_cases hlt : i < n
  · refine .inr ⟨hlt, Pv (i + 1), fun τ' H' p' => ⟨n - (i + 1), by omega, rfl, hlt, p'⟩, fun x H' y => ?_⟩
    obtain ⟨e, y⟩ := y
    subst e y
    exact hs i τ _ hlt p
  · have e : i = n := by omega
    subst e
    exact .inl ⟨Nat.le_refl _, hd τ H p⟩
end L2
namespace L2
open PySem PySem.Spec PyProof.Rows
structure FlyT (h : Heap) (a T : Addr) (cls : Value) : Prop where
  ex : ∃ (oe : Obj) (vs : Array Value) (oT : Obj) (ts : Array Value) (a0 : Value), h.get? a = some oe ∧ oe.cls = cls ∧ vs[0]? = some a0 ∧ oe.data = .fields vs ∧ vs[1]? = some (.ref T) ∧ T ≠ a ∧ h.get? T = some oT ∧ oT.data = .fields ts ∧ ts[3]? = some .none
def CX1 (P : Program) (w : World) : CXT := fun outer H s E e s' => ∃ (a T : Addr) (C : Value) (H' : Hp), e = .ref a ∧ s'.os = s.os ∧ AllBare s'.gens ∧ Un (frs outer) [] H H' s.heap s'.heap ∧ HOk P w H' s'.heap ∧
  H' a = none ∧ H' T = none ∧ s.heap.get? a = none ∧ s.heap.get? T = none ∧ FlyT s'.heap a T C ∧ E C none H'
theorem ObjOk.there {P : Program} {w : World} {H : Hp} {h : Heap} {a : Addr} {o : HO} (x : ObjOk P w H h a o) : ∃ ob, h.get? a = some ob := by
  cases o with
  | lst xs => obtain ⟨_, _, _, _, e⟩ := x; exact ⟨_, e⟩
  | tup xs => obtain ⟨_, _, _, ob, e, _⟩ := x; exact ⟨_, e⟩
  | dK kvs => obtain ⟨_, _, _, _, o, _, _, e, _⟩ := x; exact ⟨_, e⟩
  | dT kvs => obtain ⟨_, _, _, _, o, _, _, e, _⟩ := x; exact ⟨_, e⟩
  | set S n => obtain ⟨o, _, _, _, e, _⟩ := x; exact ⟨_, e⟩
  | ins C dx fs => obtain ⟨_, _, _, e, _⟩ := x; exact ⟨_, e⟩
  | own y => exact x
  | xd fs => obtain ⟨_, ⟨_, _, _, e, _⟩, _⟩ := x; exact ⟨_, e⟩
  | rng lo hi => obtain ⟨_, _, _, e⟩ := x; exact ⟨_, e⟩
  | frz ob u => obtain ⟨e, _⟩ := x; exact ⟨_, e⟩
  | tbl ps => exact ⟨_, (show h.get? a = some _ from x)⟩
  | met f y => exact ⟨_, (show h.get? a = some _ from x)⟩
  | ext φ => exact x.2.1
theorem HOk.none_of {P : Program} {w : World} {H : Hp} {h : Heap} {a : Addr} (x : HOk P w H h) (e : h.get? a = none) : H a = none := by
  cases q : H a with
  | none => rfl
  | some u =>
    obtain ⟨o, z⟩ := (x a u q).there
    rw [e] at z; cases z
theorem HOk.keepT {P : Program} {w : World} {H : Hp} {h h' : Heap} (x : HOk P w H h) (k : ∀ b u, (H b).isSome = true → h.get? b = some u → h'.get? b = some u) : HOk P w H h' := fun a o e =>
  (x a o e).stay (fun b u hb q => k b u (by
    rcases hb with z | z
    · rw [z, e]; rfl
    · rw [z]; rfl) q) (fun _ q => q) fun _ _ q => q
theorem un_pass {fs0 fs1 hid : List Addr} {H0 H : Hp} {h0 h h' : Heap} (u : Un fs0 [] H0 H h0 h) (B : Heap) (hB : B = PySem.W.hideAll h (hid ++ fs1)) (st : B.StaysIn h') (sl : h.UpToSlots h')
    (hh : ∀ b ∈ hid, h0.get? b = none) (hf : ∀ b ∈ fs1, h0.get? b = none ∨ b ∈ fs0) (hd : ∀ b o, b ∈ fs0 → h.get? b = some o → ∀ vs, o.data ≠ .fields vs) (hHf : ∀ b ∈ fs1, H b = none) (hHh : ∀ b ∈ hid, H b = none)
    (hd1 : ∀ b o, b ∈ fs1 → h.get? b = some o → ∀ vs, o.data ≠ .fields vs) :
    Un fs0 [] H0 H h0 h' := by
  have keepH : ∀ b o, h.get? b = some o → b ∉ hid → b ∉ fs1 → h'.get? b = some o := fun b o e n1 n2 => st b o (by
    rw [hB]
    exact PySem.W.hideAll_get _ e fun z => (List.mem_append.mp z).elim n1 n2)
  have nh : ∀ b o, h0.get? b = some o → b ∉ hid := fun b o e z => by rw [hh b z] at e; cases e
  have nf : ∀ b o, h0.get? b = some o → b ∉ fs0 → b ∉ fs1 := fun b o e n z => by
    rcases hf b z with q | q
    · rw [q] at e; cases e
    · exact n q
  refine ⟨fun b o e n hb hx => keepH b o (u.keep b o e n hb hx) (nh b o e) (nf b o e hb), fun b o e n hb hx => ?_, u.free, fun b o e hx => ?_, u.tups, u.frzs, u.tbls⟩
  · obtain ⟨s1, e1⟩ := u.slot b o e n hb hx
    obtain ⟨s2, e2⟩ := sl b _ e1 (hd b _ hb e1)
    exact ⟨s2, e2⟩
  · obtain ⟨o', e1⟩ := u.there b o e hx
    by_cases hb : b ∈ fs1
    · obtain ⟨s2, e2⟩ := sl b _ e1 (hd1 b o' hb e1)
      exact ⟨_, e2⟩
    · exact ⟨o', keepH b o' e1 (nh b o e) hb⟩
section
variable {P : Program} {w : World} {K : PySem.W.Frag} {mg : Str → Option Value} {base : Heap} {N : List Str} {qual : Str} {scope : Scope} {f : Addr} {cd : Value} {A : Around} {outer : List Env} {s₀ : Shared} {H₀ : Hp} {E : XK}
abbrev cx1 (P : Program) (w : World) (K : PySem.W.Frag) (mg : Str → Option Value) (base : Heap) (N : List Str) (qual : Str) (scope : Scope) (f : Addr) (cd : Value) (A : Around) (outer : List Env) (s₀ : Shared) (H₀ : Hp) (E : XK) : Cx :=
  cxOf (CX1 P w) P w K mg base N qual scope f cd A outer s₀ H₀ E
theorem cx1_frames {pins : List (Addr × Obj)} {σ : St} {H : Hp} {s : Shared} (I : Inv (cx1 P w K mg base N qual scope f cd A outer s₀ H₀ E) pins σ H s) :
    ∀ b, b ∈ s₀.heap.objs.size :: frs outer → H b = none ∧ ∃ o, s.heap.get? b = some o ∧ ∀ vs, o.data ≠ .fields vs := fun b hb => by
  have hb' : b ∈ frs (cx1 P w K mg base N qual scope f cd A outer s₀ H₀ E).stack := hb
  exact ⟨I.stkFree b hb', (I.stack.mem hb').2⟩
theorem made1 {pins : List (Addr × Obj)} {σ : St} {H : Hp} {s : Shared} {a : Addr} {h' : Heap} {C : Value} {args : List Value} (I : Inv (cx1 P w K mg base N qual scope f cd A outer s₀ H₀ E) pins σ H s)
    (hx : Heap.MadeExcOf s.heap h' a C args) (q : E C none H) : (cx1 P w K mg base N qual scope f cd A outer s₀ H₀ E).xe (.ref a) { s with heap := h' } := by
  have fr := cx1_frames I
  show wpAny (model P w) (A.deeper (envOfC qual scope s₀.heap.objs.size f cd)) (leaving (envOfC qual scope s₀.heap.objs.size f cd) (.ref a)) (fun _ s'' => CX1 P w outer H₀ s₀ E (.ref a) s'') (fun e' s'' => CX1 P w outer H₀ s₀ E e' s'') { s with heap := h' }
  generalize hBB : PySem.W.hideAll s.heap ([] ++ (s₀.heap.objs.size :: frs outer)) = B
  have hkb : B.StaysIn s.heap := fun b o e => by rw [← hBB] at e; exact PySem.W.of_hideAll _ e
  have hl : s.heap.FunFrames B (envOfC qual scope s₀.heap.objs.size f cd :: outer) := by
    have z := I.stack
    rw [← hBB]
    exact PySem.W.funFrames_hide z fun env henv L hL => List.mem_append_right _ (show L ∈ frs (envOfC qual scope s₀.heap.objs.size f cd :: outer) from List.mem_filterMap.mpr ⟨env, henv, hL⟩)
  have hfr : (A.deeper (envOfC qual scope s₀.heap.objs.size f cd)).frames = some (envOfC qual scope s₀.heap.objs.size f cd :: outer) := I.ok.frames
  refine wpAny_leaves_madeW (s := { s with heap := h' }) hfr rfl hkb hl hx fun h2 t fl' _ _ sl' => ?_
  have sl : s.heap.UpToSlots h2 := (Heap.UpToSlots.of_keeps hx.keeps).trans sl'
  obtain ⟨st, _, _, oe', vs', T', oT', ts', he', ⟨hc', h0'⟩, hd', h1', hBT, hTa', hoT', hdT', h3'⟩ := fl'
  have uB : Un (frs outer) [] H₀ H s₀.heap s.heap := I.base
  have hs0L : s₀.heap.get? s₀.heap.objs.size = none := Heap.get?_none_of_le (Nat.le_refl _)
  have s0n : ∀ b, s.heap.get? b = none → s₀.heap.get? b = none := fun b e => by
    cases q : s₀.heap.get? b with
    | none => rfl
    | some o =>
      obtain ⟨o', z⟩ := I.base.there b o q (show b ∉ ([] : List Addr) by simp)
      rw [e] at z; cases z
  have hslots : ∀ b o, b ∈ s₀.heap.objs.size :: frs outer → s.heap.get? b = some o → ∀ vs, o.data ≠ .fields vs := fun b o hb e vs d => by
    obtain ⟨o', e', n⟩ := (fr b hb).2
    rw [e] at e'; cases e'
    exact n vs d
  have un := un_pass (fs1 := s₀.heap.objs.size :: frs outer) (hid := []) uB B hBB.symm st sl (fun b hb => nomatch hb) (fun b hb => by
      rcases List.mem_cons.mp hb with rfl | hb
      · exact .inl hs0L
      · exact .inr hb) (fun b o hb e => hslots b o (List.mem_cons_of_mem _ hb) e) (fun b hb => (fr b hb).1) (fun b hb => nomatch hb) hslots
  have nget : s.heap.get? T' = none := by
    cases q : s.heap.get? T' with
    | none => rfl
    | some o =>
      by_cases hf : T' ∈ s₀.heap.objs.size :: frs outer
      · obtain ⟨sl2, e2⟩ := sl T' o q (hslots T' o hf q)
        rw [hoT'] at e2
        have e3 := Option.some.inj e2
        rw [e3] at hdT'
        exact absurd hdT' (hslots T' o hf q ts')
      · have z : B.get? T' = some o := by
          rw [← hBB]
          exact PySem.W.hideAll_get _ q fun m => (List.mem_append.mp m).elim (fun m => nomatch m) hf
        rw [hBT] at z; cases z
  refine ⟨a, T', C, H, rfl, I.os, I.bare, un, ?_, I.hok.none_of hx.new, I.hok.none_of nget, s0n _ hx.new, s0n _ nget, ⟨oe', vs', oT', ts', _, he', hc', h0', hd', h1', hTa', hoT', hdT', h3'⟩, q⟩
  refine I.hok.keepT fun b u hb e => st b u ?_
  rw [← hBB]
  refine PySem.W.hideAll_get _ e fun m => ?_
  rcases List.mem_append.mp m with m | m
  · exact nomatch m
  · rw [(fr b m).1] at hb; cases hb
end
def Raises (X : Cx) (Ex : St → Value → Hp → Prop) : Prop :=
  ∀ (pins : List (Addr × Obj)) (σ : St) (H : Hp) (s : Shared) (a : Addr) (h' : Heap) (C : Value) (args : List Value), Inv X pins σ H s → Heap.MadeExcOf s.heap h' a C args → Ex σ C H → X.xe (.ref a) { s with heap := h' }
def Comes (P : Program) (w : World) (X : Cx) (Ex : St → Value → Hp → Prop) : Prop :=
  ∀ (pins : List (Addr × Obj)) (σ : St) (H : Hp) (s : Shared) (e : Value) (s' : Shared), Inv X pins σ H s → CX1 P w X.stack H s (fun C _ H' => Ex σ C H') e s' → X.xe e s'
def tRaise (Ex : St → Value → Hp → Prop) (C : Value) (t : TA) : TS := fun _ σ H => t σ H fun vs H1 => vs.length ≤ sizeLine ∧ Ex σ C H1
section
variable {X : Cx}
theorem ps_raise {Ex : St → Value → Hp → Prop} {x : Str} {C : Addr} {bm : List Value} {B newId initId : String} {e₀ : Expr} {rest : List Expr} {t : TA} {np cpos pos : Pos} (O : OwnCls x C bm newId X.mg X.base) (FB : ExcBaseFacts B newId initId bm) (hc : X.calm = true) (hg : Gl X x)
    (hx : Raises X Ex) (ha : PA X (e₀ :: rest) t) (hd : (x == ("__debug__" : Str)) = false := by decide) (he : starEach (e₀ :: rest) X.env = (false, eval e₀ X.env) :: starEach rest X.env := by rfl)
    (hpl : (backTo cpos (starEach rest X.env)).any (·.1) = false := by rfl) : PS X (.Raise (some (.Call (.Name x np) (e₀ :: rest) [] cpos)) none pos) (tRaise Ex (.ref C) t) := by
  intro pins s σ H D I h
  obtain ⟨tl, Nm, nm, q, bs, hdct, sn, sub, ab, col, dd, k0, k1, k2, k3, k5, mN, hC, hN, hni, T⟩ := O.obj
  refine wpAny_Raise_call_subT FB (mN := mN) (k5 := k5) (k3 := k3) (k2 := k2) (k1 := k1) (k0 := k0) (dd := dd) (col := col) (ab := ab) (sub := sub) (sn := sn) (hdct := hdct)
    (bm := tl) (bs := bs) (N := Nm) (q := q) (nm := nm) (C := C) (T.hasType FB.hasBase) (I.ok.hd hc) ?_ hni (ld_glob I hg O.bound ⟨rfl, ?_⟩ hd)
  · rw [he]
    show (false || (backTo cpos (starEach rest X.env)).any (·.1)) = false
    rw [hpl]; rfl
  · have hA := ha cpos pins s σ H _ I h
    rw [he] at hA ⊢
    refine Calls.evalArgs_plain (thn hA fun us s2 ⟨vs, H2, I2, r2, hz, q2⟩ => ?_)
    exact ⟨rfl, by rw [← r2.length]; exact hz, I2.bk _ _ hC, hN.keeps I2.bk, T.keeps I2.bk, fun h' e hm => hx pins σ H2 s2 e h' _ _ I2 hm q2⟩
structure CalleeX (P : Program) (w : World) (K : PySem.W.Frag) (mg : Str → Option Value) (base : Heap) (x : Str) (k : Nat) (ps : List Str) (sp : Sp) : Prop where
  ex : ∃ f fd, FnOk P w K mg base (CX1 P w) k f fd ps sp ∧ mg x = some (.ref f) ∧ PySem.W.keepIn K (.ref f) = true ∧ Binds K fd ps []
end
section
variable {P : Program} {w : World} {K : PySem.W.Frag} {mg : Str → Option Value} {base : Heap} {N : List Str} {qual : Str} {scope : Scope} {f : Addr} {cd : Value} {A : Around} {outer : List Env} {s₀ : Shared} {H₀ : Hp} {E : XK}
theorem raises1 : Raises (cx1 P w K mg base N qual scope f cd A outer s₀ H₀ E) fun _ C H => E C none H := fun pins σ H s a h' C args I hx q => made1 I hx q
end
end L2
namespace L2
open PySem PySem.Spec PyProof.Rows
section
variable {P : Program} {w : World} {K : PySem.W.Frag} {mg : Str → Option Value} {base : Heap}
theorem Fun.okX {x qual : Str} {st : Stmt} {f : Addr} {fd : FuncData} {N ps : List Str} {k : Nat} {sp : Sp} (F : Fun K x qual st f fd) (S : FnScope N ps (defScope st)) (len : ∀ vs H Q E, sp vs H Q E → vs.length = ps.length)
    (hbody : ∀ (cdv : Value) (A : Around) (outer : List Env) (s : Shared) (H : Hp) (vs : List V) (Q : VK) (E : XK), Room k (A.deeper (envOfC qual (defScope st) s.heap.objs.size f cdv)) → sp vs H Q E →
      ∃ t, PSs (cx1 P w K mg base N qual (defScope st) f cdv A outer s H E) (defBody st) t ∧ t { nx := fun _ H' => Q .non H', rt := Q } (start N vs) H) : FnOk P w K mg base (CX1 P w) (k + 1) f fd ps sp := by
  obtain ⟨oc, od, kV, doc, pm, an, cdv, ct, osl, rfl, lk, hcd⟩ := F.ex
  exact fn_of lk hcd S len fun A outer s H vs Q E hr hsp => hbody cdv A outer s H vs Q E hr hsp
end
section
variable {X : Cx} {pins : List (Addr × Obj)} {σ : St} {H : Hp} {s : Shared}
end
section
variable {X : Cx}
end
end L2
namespace L2
open PySem PySem.Spec PyProof.Rows
open PySem.W (Looks)
open Builtin Builtin.ObjectAttr Builtin.Getset_descriptor
structure ExcCls (K : PySem.W.Frag) (C : Addr) : Prop where
  ga : PySem.W.findIn K (.ref C) "__getattribute__" = some (some (.builtin "BaseException.__getattribute__"))
  gt : PySem.W.findIn K (.ref C) "__getattr__" = some none
  cl : PySem.W.findIn K (.ref C) "__class__" = some (some (.builtin "object.__class__"))
  gg : PySem.W.specialIn K (.builtin "object.__class__") "__get__" = some (some (.builtin "getset_descriptor.__get__"))
  tk : PySem.W.takesIn K (.builtin "object.__class__") = some true
  ob : PySem.W.mroIn K C (.type "object") = some true
  be : PySem.W.mroIn K C (.type "BaseException") = some true
section
variable {prog : Program} {w : World} {A : Around} {E : Value → Shared → Prop} {K : PySem.W.Frag} {C a : Addr} {h : Heap} {g : Array GenState} {d : Drawn} {t : Nat} {os : OsState} {o : Obj}
end
section
variable {X : Cx}
end
end L2
namespace L2
open PySem PySem.Spec PyProof.Rows
theorem own_of {K : PySem.W.Frag} {h : Heap} {mg : Str → Option Value} {x : Str} {C : Addr} {bmB : List Value} {newId : String} (Y : K.In h) (hm : mg x = some (.ref C)) (z : PySem.W.excIn K C bmB newId = true) : OwnCls x C bmB newId mg h := by
  constructor
  · exact hm
  · unfold PySem.W.excIn at z
    split at z
    case h_2 => cases z
    case h_1 dct cls slt hob =>
      split at z
      case h_2 => cases z
      case h_1 C2 tl s0 s1 s2 s3 nn s5 hmro hsl =>
        simp only [Bool.and_eq_true, beq_iff_eq, Bool.not_eq_true'] at z
        obtain ⟨⟨⟨⟨⟨rfl, rfl⟩, z3⟩, z4⟩, z5⟩, z6⟩ := z
        obtain ⟨v1, v2, v3, v4, v5, v6, v7, v8, v9, v10, v11⟩ := cls
        simp only at hmro z3 z5 z6
        cases hmro; cases z3
        have hs2 : slt = #[s0, s1, s2, s3, some (.builtin nn), s5] := by
          cases slt with | mk ll => simp only at hsl; rw [hsl]
        cases hs2
        exact ⟨tl, v4, v1, v5, v2, v6, v7, v8, v9, v10, dct, s0, s1, s2, s3, s5, _, Y _ _ hob, .of_isNs (PySem.W.isNs_of_in Y z5), PySem.W.nsMap_none_of_in Y z5 z6, PySem.W.tail_of_in Y z4⟩
section
variable {X : Cx}
theorem vals_refs : ∀ {cs : List Addr} {us : List Value}, Vals (cs.map V.ref) us → us = cs.map Value.ref
  | [], _, .nil => rfl
  | _ :: _, _, .cons r t => by rw [vals_refs t]; cases (show _ = Value.ref _ from r); rfl
def FP (X : Cx) (e : Expr) (c : St → Hp → Prop) : Prop := ∀ (pins : List (Addr × Obj)) (σ : St) (H : Hp) (s : Shared) (Q : Value → Shared → Prop), Inv X pins σ H s → c σ H →
  (∀ y t s', Inv X pins σ H s' → y.length ≤ 6000 → Q (.str y t) s') → wpAny (model X.prog X.w) X.A (eval e X.env) Q X.xe s
inductive FPs (X : Cx) : List Expr → (St → Hp → Prop) → Prop where
  | nil : FPs X [] fun _ _ => True
  | cons {e es c cs} : FP X e c → FPs X es cs → FPs X (e :: es) fun σ H => c σ H ∧ cs σ H
inductive Fm (K : PySem.W.Frag) (H : Hp) : V → Prop where
  | int (i : Int) : i.natAbs.log2 < 1920 → Fm K H (.int i)
  | tup (a : Addr) (is : List Int) : SqT K H a (is.map V.int) → is.length ≤ 3 → (∀ i ∈ is, i.natAbs.log2 < 1920) → Fm K H (.ref a)
theorem sq_asg {te : TE} {u : TS} {D : Ends} {σ : St} {H : Hp} {n : Nat} (q : te σ H fun v H1 => u D (σ.set n (some v)) H1) : tSeq (tAsg te (gName n)) u D σ H := q
theorem sq_asgT {te : TE} {g : TG} {u : TS} {D : Ends} {σ : St} {H : Hp} (q : te σ H fun v H1 => g v σ H1 fun σ2 H2 => u D σ2 H2) : tSeq (tAsg te g) u D σ H := q
structure ExcN (K : PySem.W.Frag) (mg : Str → Option Value) (x : Str) (C : Addr) : Prop where
  bd : mg x = some (.ref C)
  ex : PySem.W.excIn K C [.type "ValueError", .type "Exception", .type "BaseException", .type "object"] "ValueError.__new__" = true
  ok : ExcCls K C
theorem rd_raiseS {Ex : St → Value → Hp → Prop} {C : Value} {x : Str} {D : Ends} {σ : St} {H : Hp} (q : Ex σ C H) : tRaise Ex C (tCons (tC (.str x)) tNil) D σ H := ⟨(by show 1 ≤ sizeLine; decide), q⟩
end
end L2
namespace L2
open PySem PySem.Spec PyProof.Rows
structure MCallee (P : Program) (w : World) (K : PySem.W.Frag) (mg : Str → Option Value) (base : Heap) (C : Addr) (m : Str) (k : Nat) (ps : List Str) (sp : Sp) : Prop where
  ex : ∃ f fd, FnOk P w K mg base CX0 k f fd ps sp ∧ Meth K C m f ∧ Binds K fd ps []
structure KCallee (P : Program) (w : World) (K : PySem.W.Frag) (mg : Str → Option Value) (base : Heap) (C : Addr) (x : Str) (k : Nat) (ps : List Str) (sp : Sp) : Prop where
  ex : ∃ f fd, FnOk P w K mg base CX0 k f fd ps sp ∧ Mk K C f ∧ mg x = some (.ref C) ∧ Binds K fd ps []
section
variable {X : Cx} {C : Addr} {k : Nat} {ps : List Str} {sp : Sp} {x m : Str} {p pos apos : Pos} {e o : Expr} {es : List Expr} {ta : TE} {t : TA}
theorem pe_met {pl : Sem Bool} (he : PE X o ta) (c : Cls X.K C) (G : MCallee X.prog X.w X.K X.mg X.base C m k ps sp) (hr : Room k X.A) (ha : PA X (e :: es) t)
    (hst : starEach (e :: es) X.env = (false, eval e X.env) :: starEach es X.env := by rfl) (hpl : (backTo pos (starEach es X.env)).any (·.1) = false := by rfl)
    (ht : eval (.Call (.Attribute o m apos) (e :: es) [] pos) X.env = (do
      let ov ← eval o X.env
      standAt apos.atName
      let (f, first) ← holding [ov] (getMethod ov m pl)
      callWith pos f first (backTo pos (starEach (e :: es) X.env)) (backToKw pos (keywordEach [] X.env))) := by rfl) :
    PE X (.Call (.Attribute o m apos) (e :: es) [] pos) (tMeth C m sp [] E0 ta t) := by
  obtain ⟨f, fd, F, hm, hb⟩ := G.ex
  exact pe_meth (pl := pl) he c hm F hr hb .nil pass0 ha hst hpl ht
theorem pe_met0 {pl : Sem Bool} (he : PE X o ta) (c : Cls X.K C) (G : MCallee X.prog X.w X.K X.mg X.base C m k ps sp) (hr : Room k X.A)
    (ht : eval (.Call (.Attribute o m apos) [] [] pos) X.env = (do
      let ov ← eval o X.env
      standAt apos.atName
      let (f, first) ← holding [ov] (getMethod ov m pl)
      callWith pos f first (backTo pos (starEach [] X.env)) (backToKw pos (keywordEach [] X.env))) := by rfl) :
    PE X (.Call (.Attribute o m apos) [] [] pos) (tMeth C m sp [] E0 ta tNil) := by
  obtain ⟨f, fd, F, hm, hb⟩ := G.ex
  exact pe_meth0 (pl := pl) he c hm F hr hb .nil pass0 ht
theorem pe_mk0 (G : KCallee X.prog X.w X.K X.mg X.base C x k ps sp) (hr : Room (k + 1) X.A) (hg : Gl X x) (hdb : (x == ("__debug__" : Str)) = false := by decide) : PE X (.Call (.Name x p) [] [] pos) (tMake C sp [] E0 tNil) := by
  obtain ⟨f, fd, F, M, hm, hb⟩ := G.ex
  exact pe_make0 M F hr hg hm hb .nil pass0 hdb
end
theorem lc_el {te : TE} {τ : St} {H : Hp} {R : VK} {N : Hp → Prop} (h : te τ H R) : tYes τ H fun b H3 => if b = true then te τ H3 R else N H3 := by
  show if true = true then te τ H R else N H
  rw [if_pos rfl]
  exact h
theorem int_at {ns : List Int} {i : Nat} {x : V} (h : (ns.map V.int)[i]? = some x) : ∃ z, ns[i]? = some z ∧ x = .int z := by
  rw [List.getElem?_map] at h
  cases e : ns[i]? with
  | none => rw [e] at h; cases h
  | some z => rw [e] at h; exact ⟨z, rfl, (Option.some.inj h).symm⟩
theorem ixN_nat {n j : Nat} (h : j < n) : ixN n (j : Int) = some j := by
  unfold ixN
  rw [if_pos (by omega), if_pos (by omega)]
  simp
section
variable {σ : St} {H : Hp} {tc : TT} {te : TE} {t u v : TS} {D : Ends} {a b : Bool}
theorem sq_ife (h : EvT tc σ H b) (h1 : b = true → t { D with nx := v D } σ H) (h2 : b = false → u { D with nx := v D } σ H) : tSeq (tIfS tc t u) v D σ H := by
  refine h _ ?_
  cases b with
  | true => rw [if_pos rfl]; exact h1 rfl
  | false => rw [if_neg Bool.false_ne_true]; exact h2 rfl
theorem sq_ifR (J : St → Hp → Prop) (h : EvT tc σ H b) (h1 : b = true → ∀ R : St → Hp → Prop, (∀ σ H, J σ H → R σ H) → t { D with nx := R } σ H) (h2 : b = false → ∀ R : St → Hp → Prop, (∀ σ H, J σ H → R σ H) → u { D with nx := R } σ H)
    (hv : ∀ σ H, J σ H → v D σ H) : tSeq (tIfS tc t u) v D σ H := sq_ife h (fun e => h1 e _ hv) fun e => h2 e _ hv
theorem while_ev (W : Nat → St → Hp → Prop) (h0 : ∃ m, W m σ H) (hs : ∀ m σ H, W m σ H → ∃ b, EvT tc σ H b ∧ (b = true → ∀ N : St → Hp → Prop, (∀ m' σ' H', m' < m → W m' σ' H' → N σ' H') → t { D with nx := N, ct := N, bk := D.nx } σ H) ∧ (b = false → D.nx σ H)) :
    tWhile tc t D σ H := by
  refine ⟨W, h0, fun m σ H w => ?_⟩
  obtain ⟨b, hb, h1, h2⟩ := hs m σ H w
  refine hb _ ?_
  cases b with
  | true => rw [if_pos rfl]; exact ⟨fun σ' H' => ∃ m', m' < m ∧ W m' σ' H', fun _ _ z => z, h1 rfl _ fun m' σ' H' l w' => ⟨m', l, w'⟩⟩
  | false => rw [if_neg Bool.false_ne_true]; exact h2 rfl
end
end L2
namespace L2
open PySem PySem.Spec PyProof.Rows
structure MCalleeX (P : Program) (w : World) (K : PySem.W.Frag) (mg : Str → Option Value) (base : Heap) (C : Addr) (m : Str) (k : Nat) (ps : List Str) (sp : Sp) : Prop where
  ex : ∃ f fd, FnOk P w K mg base (CX1 P w) k f fd ps sp ∧ Meth K C m f ∧ Binds K fd ps []
structure KCalleeX (P : Program) (w : World) (K : PySem.W.Frag) (mg : Str → Option Value) (base : Heap) (C : Addr) (x : Str) (k : Nat) (ps : List Str) (sp : Sp) : Prop where
  ex : ∃ f fd, FnOk P w K mg base (CX1 P w) k f fd ps sp ∧ Mk K C f ∧ mg x = some (.ref C) ∧ Binds K fd ps []
theorem comesF {P : Program} {w : World} {X : Cx} : Comes P w X fun _ _ _ => False := fun _ _ _ _ _ _ _ h => by
  obtain ⟨_, _, _, _, _, _, _, _, _, _, _, _, _, _, q⟩ := h
  exact q.elim
def tMetX (Ex : St → Value → Hp → Prop) (C : Addr) (m : Str) (sp : Sp) (ta : TE) (t : TA) : TE := fun σ H Q => ta σ H fun x H1 => ∃ a dx fs, x = .ref a ∧ H1 a = some (.ins C dx fs) ∧ fs.lookup m = none ∧
  t σ H1 fun vs H2 => sp (x :: vs) H2 Q fun C' _ H' => Ex σ C' H'
section
variable {X : Cx} {Ex : St → Value → Hp → Prop} {C : Addr} {k : Nat} {f : Addr} {fd : FuncData} {ps : List Str} {sp : Sp} {x m : Str} {p pos apos : Pos} {e o : Expr} {es : List Expr} {ta : TE} {t : TA}
theorem run_fnX {pins : List (Addr × Obj)} {σ : St} {H : Hp} {s : Shared} {Q : VK} {us : List Value} {vs : List V} (F : FnOk X.prog X.w X.K X.mg X.base (CX1 X.prog X.w) k f fd ps sp) (hr : Room k X.A) (hb : Binds X.K fd ps []) (hx : Comes X.prog X.w X Ex)
    (I : Inv X pins σ H s) (r : Vals vs us) (h : sp vs H Q fun C _ H' => Ex σ C H') : wpAny (model X.prog X.w) X.A (call (.ref f) us) (EP X pins σ Q) X.xe s := by
  have hl : (us ++ []).length = ps.length := by rw [List.append_nil, ← r.length]; exact F.len _ _ _ _ h
  have hbi := hb s us I.kIn hl
  rw [List.append_nil] at hbi
  refine wpAny_call (codeAny_mono (F.run X.A X.stack s H ⟨us, []⟩ us vs Q _ hr I.env0 hbi r h) fun r s' hq => ?_)
  cases r with
  | error e => exact hx pins σ H s e s' I hq
  | ok fl =>
    cases fl with
    | ret u => exact I.after hq
    | next => exact False.elim hq
    | brk => exact False.elim hq
    | cont => exact False.elim hq
theorem pe_metX0 {pl : Sem Bool} (he : PE X o ta) (c : Cls X.K C) (G : MCalleeX X.prog X.w X.K X.mg X.base C m k ps sp) (hr : Room k X.A) (hx : Comes X.prog X.w X Ex)
    (ht : eval (.Call (.Attribute o m apos) [] [] pos) X.env = (do
      let ov ← eval o X.env
      standAt apos.atName
      let (f, first) ← holding [ov] (getMethod ov m pl)
      callWith pos f first (backTo pos (starEach [] X.env)) (backToKw pos (keywordEach [] X.env))) := by rfl) :
    PE X (.Call (.Attribute o m apos) [] [] pos) (tMetX Ex C m sp ta tNil) := by
  obtain ⟨f, fd, F, hm, hb⟩ := G.ex
  intro pins s σ H Q I h
  refine PySem.W.methodCall_KW (pl := pl) (thn (he pins s σ H _ I h) fun u s1 ⟨x, H1, I1, rx, a, dx, fs, ex, ea, l, q⟩ => ?_) ht
  subst ex
  obtain rfl : u = Value.ref a := rx
  refine getmeth_ok I1 ea c hm l ?_
  exact PySem.W.callWith_K0 (first := [.ref a]) I1.kIn hm.kp (run_fnX (us := [.ref a]) (vs := [.ref a]) F hr hb hx I1 (.cons rfl .nil) q)
end
end L2
namespace L2
open PySem PySem.W PyProof.Rows
def evT {α : Type} (lt : Nat → Nat → Bool) : KasT α → α
  | .ret a => a
  | .ask i j k => evT lt (k (lt i j))
theorem evT_bind {α β : Type} {lt : Nat → Nat → Bool} {f : α → KasT β} : ∀ t : KasT α, evT lt (t.bind f) = evT lt (f (evT lt t))
  | .ret _ => rfl
  | .ask i j k => evT_bind (k (lt i j))
inductive AskE (lt : Nat → Nat → Bool) (n : Nat) : {α : Type} → KasT α → Prop where
  | ret {α : Type} (a : α) : AskE lt n (KasT.ret a)
  | ask {α : Type} {i j : Nat} {k : Bool → KasT α} : i < n → j < n → AskE lt n (k (lt i j)) → AskE lt n (.ask i j k)
theorem AskE.bind {lt : Nat → Nat → Bool} {n : Nat} {α β : Type} {f : α → KasT β} : ∀ {t : KasT α}, AskE lt n t → AskE lt n (f (evT lt t)) → AskE lt n (t.bind f)
  | .ret _, _, hf => hf
  | .ask _ _ _, .ask h1 h2 h3, hf => .ask h1 h2 (AskE.bind h3 hf)
theorem kas_ev {α : Type} {lt : Nat → Nat → Bool} {n : Nat} {cmp : Nat → Nat → (Bool → Shared → Prop) → Shared → Prop} {I : Shared → Prop} {Q : α → Shared → Prop} (hc : ∀ i j C s, i < n → j < n → I s → (∀ s', I s' → C (lt i j) s') → cmp i j C s) :
    ∀ {t : KasT α} {s : Shared}, AskE lt n t → I s → (∀ s', I s' → Q (evT lt t) s') → t.kasWp cmp Q s
  | .ret a, s, _, hs, hq => hq s hs
  | .ask i j k, s, .ask h1 h2 h3, hs, hq => hc i j _ s h1 h2 hs fun s' hs' => kas_ev hc h3 hs' hq
section
variable {O : KeyOrd} (key : Nat → O.α)
def kA (p : Array Nat) (k : Nat) : O.α := key (p.getD k 0)
def Up (p : Array Nat) (n : Nat) : Prop := ∀ i j, i ≤ j → j < n → O.kle (kA key p i) (kA key p j)
def Dn (p : Array Nat) (n : Nat) : Prop := ∀ i j, i ≤ j → j < n → O.kle (kA key p j) (kA key p i)
abbrev ltK (i j : Nat) : Bool := O.blt (key i) (key j)
def PermN (n : Nat) (p : Array Nat) : Prop := p.Perm (List.toArray (List.range n))
variable {key}
theorem PermN.size {n : Nat} {p : Array Nat} (h : PermN n p) : p.size = n := by
  have := h.size_eq
  simpa using this
theorem PermN.lt {n : Nat} {p : Array Nat} (h : PermN n p) (k : Nat) (hk : k < n) : p.getD k 0 < n := by
  have hz := h.size
  have hm : p[k]'(by omega) ∈ p := Array.getElem_mem _
  have := (h.mem_iff).mp hm
  rw [Array.getD_eq_getD_getElem?, Array.getElem?_eq_getElem (by omega)]
  simpa using this
theorem getD_rev {p : Array Nat} {i j : Nat} (hj : j ≤ p.size) (k : Nat) : (kas_rev p i j).getD k 0 = if i ≤ k ∧ k < j then p.getD (i + j - 1 - k) 0 else p.getD k 0 := by
  unfold kas_rev
  rw [Array.getD_eq_getD_getElem?, getElem?_mirror_all hj]
  split <;> rw [Array.getD_eq_getD_getElem?]
theorem PermN.rev {n : Nat} {p : Array Nat} (h : PermN n p) (i j : Nat) : PermN n (kas_rev p i j) := (mirror_perm p i j _).trans h
theorem kA_rev {p : Array Nat} {i j : Nat} (hj : j ≤ p.size) (he : ∀ k, i ≤ k → k < j → kA key p k = kA key p (j - 1)) (k : Nat) : kA key (kas_rev p i j) k = kA key p k := by
  unfold kA at he ⊢
  rw [getD_rev hj]
  split
  · next h => rw [he k h.1 h.2, he _ (by omega) (by omega)]
  · rfl
theorem Up.snoc {p : Array Nat} {n : Nat} (h : Up key p n) (hn : 1 ≤ n) (hl : O.kle (kA key p (n - 1)) (kA key p n)) : Up key p (n + 1) := fun i j hij hj => by
  by_cases e : j = n
  · subst e
    by_cases e2 : i = j
    · subst e2; exact KeyOrd.kle_refl _
    · exact KeyOrd.kle_trans (h i (j - 1) (by omega) (by omega)) hl
  · exact h i j hij (by omega)
theorem Dn.snoc {p : Array Nat} {n : Nat} (h : Dn key p n) (hn : 1 ≤ n) (hl : O.kle (kA key p n) (kA key p (n - 1))) : Dn key p (n + 1) := fun i j hij hj => by
  by_cases e : j = n
  · subst e
    by_cases e2 : i = j
    · subst e2; exact KeyOrd.kle_refl _
    · exact KeyOrd.kle_trans hl (h i (j - 1) (by omega) (by omega))
  · exact h i j hij (by omega)
theorem Up.of_keys {p q : Array Nat} {n : Nat} (h : Up key p n) (e : ∀ k, kA key q k = kA key p k) : Up key q n := fun i j hij hj => by rw [e, e]; exact h i j hij hj
theorem Dn.of_keys {p q : Array Nat} {n : Nat} (h : Dn key p n) (e : ∀ k, kA key q k = kA key p k) : Dn key q n := fun i j hij hj => by rw [e, e]; exact h i j hij hj
theorem Dn.turn {p : Array Nat} {n : Nat} (h : Dn key p n) (hn : n ≤ p.size) : Up key (kas_rev p 0 n) n := fun i j hij hj => by
  unfold kA
  rw [getD_rev hn, getD_rev hn, if_pos ⟨Nat.zero_le _, by omega⟩, if_pos ⟨Nat.zero_le _, by omega⟩]
  exact h _ _ (by omega) (by omega)
theorem asc_ok {N : Nat} {p : Array Nat} (hp : PermN N p) : ∀ (f n : Nat), 1 ≤ n → n + f ≤ N → Up key p n → AskE (ltK key) N (kas_asc p f n) ∧
    n ≤ evT (ltK key) (kas_asc p f n) ∧ evT (ltK key) (kas_asc p f n) ≤ n + f ∧ Up key p (evT (ltK key) (kas_asc p f n)) ∧ (evT (ltK key) (kas_asc p f n) < n + f → ltK key (p.getD (evT (ltK key) (kas_asc p f n)) 0) (p.getD (evT (ltK key) (kas_asc p f n) - 1) 0) = true)
  | 0, n, _, _, h => ⟨.ret _, Nat.le_refl _, Nat.le_refl _, h, fun z => absurd z (Nat.lt_irrefl _)⟩
  | f + 1, n, h1, hn, h => by
    cases e : ltK key (p.getD n 0) (p.getD (n - 1) 0) with
    | true =>
      have ev : evT (ltK key) (kas_asc p (f + 1) n) = n := by
        show evT (ltK key) (if ltK key (p.getD n 0) (p.getD (n - 1) 0) = true then KasT.ret n else kas_asc p f (n + 1)) = n
        rw [e, if_pos rfl]; rfl
      refine ⟨.ask (hp.lt n (by omega)) (hp.lt (n - 1) (by omega)) ?_, ?_⟩
      · rw [e, if_pos rfl]; exact .ret _
      · rw [ev]; exact ⟨Nat.le_refl _, by omega, h, fun _ => e⟩
    | false =>
      have ev : evT (ltK key) (kas_asc p (f + 1) n) = evT (ltK key) (kas_asc p f (n + 1)) := by
        show evT (ltK key) (if ltK key (p.getD n 0) (p.getD (n - 1) 0) = true then KasT.ret n else kas_asc p f (n + 1)) = _
        rw [e, if_neg Bool.false_ne_true]
      obtain ⟨a1, a2, a3, a4, a5⟩ := asc_ok hp f (n + 1) (by omega) (by omega) (h.snoc h1 e)
      refine ⟨.ask (hp.lt n (by omega)) (hp.lt (n - 1) (by omega)) ?_, ?_⟩
      · rw [e, if_neg Bool.false_ne_true]; exact a1
      · rw [ev]; exact ⟨by omega, by omega, a4, fun z => a5 (by omega)⟩
theorem desc_ok {N : Nat} : ∀ (f : Nat) (p : Array Nat) (n q : Nat), PermN N p → q + 1 ≤ n → n + f ≤ N → Dn key p n → (∀ k, n - (q + 1) ≤ k → k < n → kA key p k = kA key p (n - 1)) →
    AskE (ltK key) N (kas_desc f p n q) ∧ ∀ r, evT (ltK key) (kas_desc f p n q) = r → PermN N r.1 ∧ n ≤ r.2.1 ∧ r.2.1 ≤ n + f ∧ r.2.2 + 1 ≤ r.2.1 ∧ Dn key r.1 r.2.1 ∧ (∀ k, r.2.1 - (r.2.2 + 1) ≤ k → k < r.2.1 → kA key r.1 k = kA key r.1 (r.2.1 - 1))
  | 0, p, n, q, hp, hq, hn, h, he => ⟨.ret _, fun r e => by cases e; exact ⟨hp, Nat.le_refl _, Nat.le_refl _, hq, h, he⟩⟩
  | f + 1, p, n, q, hp, hq, hn, h, he => by
    have hz := hp.size
    have i1 := hp.lt n (by omega)
    have i2 := hp.lt (n - 1) (by omega)
    have un : evT (ltK key) (kas_desc (f + 1) p n q) = evT (ltK key) (if ltK key (p.getD n 0) (p.getD (n - 1) 0) = true then (if q > 0 then kas_desc f (kas_rev p (n - (q + 1)) n) (n + 1) 0 else kas_desc f p (n + 1) 0)
        else .ask (p.getD (n - 1) 0) (p.getD n 0) fun d => if d = true then .ret (p, n, q) else kas_desc f p (n + 1) (q + 1)) := rfl
    have last1 : ∀ (p' : Array Nat) (k : Nat), n + 1 - (0 + 1) ≤ k → k < n + 1 → kA key p' k = kA key p' (n + 1 - 1) := fun p' k h1 h2 => by
      have : k = n + 1 - 1 := by omega
      rw [this]
    cases e : ltK key (p.getD n 0) (p.getD (n - 1) 0) with
    | true =>
      have hs : Dn key p (n + 1) := h.snoc (by omega) (KeyOrd.kle_of_klt e)
      by_cases hq0 : q > 0
      · have ek := kA_rev (p := p) (i := n - (q + 1)) (j := n) (by omega) he
        obtain ⟨a1, a2⟩ := desc_ok f (kas_rev p (n - (q + 1)) n) (n + 1) 0 (hp.rev _ _) (by omega) (by omega) (hs.of_keys ek) (last1 _)
        refine ⟨.ask i1 i2 ?_, fun r er => ?_⟩
        · rw [e, if_pos rfl, if_pos hq0]; exact a1
        · rw [un, e, if_pos rfl, if_pos hq0] at er
          obtain ⟨b1, b2, b3, b4, b5, b6⟩ := a2 r er
          exact ⟨b1, by omega, by omega, b4, b5, b6⟩
      · obtain ⟨a1, a2⟩ := desc_ok f p (n + 1) 0 hp (by omega) (by omega) hs (last1 _)
        refine ⟨.ask i1 i2 ?_, fun r er => ?_⟩
        · rw [e, if_pos rfl, if_neg hq0]; exact a1
        · rw [un, e, if_pos rfl, if_neg hq0] at er
          obtain ⟨b1, b2, b3, b4, b5, b6⟩ := a2 r er
          exact ⟨b1, by omega, by omega, b4, b5, b6⟩
    | false =>
      cases e2 : ltK key (p.getD (n - 1) 0) (p.getD n 0) with
      | true =>
        refine ⟨.ask i1 i2 ?_, fun r er => ?_⟩
        · rw [e, if_neg Bool.false_ne_true]
          refine .ask i2 i1 ?_
          rw [e2, if_pos rfl]; exact .ret _
        · rw [un, e, if_neg Bool.false_ne_true] at er
          have er : evT (ltK key) (if ltK key (p.getD (n - 1) 0) (p.getD n 0) = true then KasT.ret (p, n, q) else kas_desc f p (n + 1) (q + 1)) = r := er
          rw [e2, if_pos rfl] at er
          cases er
          exact ⟨hp, Nat.le_refl _, (show n ≤ n + (f + 1) by omega), hq, h, he⟩
      | false =>
        have eqk : kA key p n = kA key p (n - 1) := O.total _ _ e e2
        have hs : Dn key p (n + 1) := h.snoc (by omega) (by rw [eqk]; exact KeyOrd.kle_refl _)
        obtain ⟨a1, a2⟩ := desc_ok f p (n + 1) (q + 1) hp (by omega) (by omega) hs fun k h1 h2 => by
          by_cases ek : k = n
          · rw [ek]; rfl
          · rw [he k (by omega) (by omega)]; exact eqk.symm
        refine ⟨.ask i1 i2 ?_, fun r er => ?_⟩
        · rw [e, if_neg Bool.false_ne_true]
          refine .ask i2 i1 ?_
          rw [e2, if_neg Bool.false_ne_true]; exact a1
        · rw [un, e, if_neg Bool.false_ne_true] at er
          have er : evT (ltK key) (if ltK key (p.getD (n - 1) 0) (p.getD n 0) = true then KasT.ret (p, n, q) else kas_desc f p (n + 1) (q + 1)) = r := er
          rw [e2, if_neg Bool.false_ne_true] at er
          obtain ⟨b1, b2, b3, b4, b5, b6⟩ := a2 r er
          exact ⟨b1, by omega, by omega, b4, b5, b6⟩
def RunOk (key : Nat → O.α) (N : Nat) (r : Nat × Array Nat) : Prop := PermN N r.2 ∧ 1 ≤ r.1 ∧ r.1 ≤ N ∧ Up key r.2 r.1
theorem tail3_ok {N n : Nat} {p : Array Nat} (hp : PermN N p) (h1 : 1 ≤ n) (hn : n ≤ N) (h : Dn key p n) : AskE (ltK key) N (kas_tail3 n N p) ∧ RunOk key N (evT (ltK key) (kas_tail3 n N p)) := by
  have hz := hp.size
  obtain ⟨a1, a2, a3, a4, _⟩ := asc_ok (hp.rev 0 n) (N - n) n h1 (by omega) (h.turn (by omega))
  unfold kas_tail3
  refine ⟨a1.bind (.ret _), ?_⟩
  rw [evT_bind]
  exact ⟨hp.rev 0 n, by show 1 ≤ evT _ _; omega, by show evT _ _ ≤ N; omega, a4⟩
theorem descPart_ok {N n : Nat} {p : Array Nat} (hp : PermN N p) (hn : n + 1 ≤ N) (h : Dn key p (n + 1)) : AskE (ltK key) N (kas_descPart n N p) ∧ RunOk key N (evT (ltK key) (kas_descPart n N p)) := by
  obtain ⟨a1, a2⟩ := desc_ok (N - (n + 1)) p (n + 1) 0 hp (by omega) (by omega) h fun k h1 h2 => by
    have : k = n + 1 - 1 := by omega
    rw [this]
  obtain ⟨b1, b2, b3, b4, b5, b6⟩ := a2 _ rfl
  unfold kas_descPart
  rw [evT_bind]
  revert b1 b2 b3 b4 b5 b6 a1
  generalize hR : evT (ltK key) (kas_desc (N - (n + 1)) p (n + 1) 0) = r
  intro a1 b1 b2 b3 b4 b5 b6
  have hz := b1.size
  by_cases hq : r.2.2 > 0
  · have ek := kA_rev (p := r.1) (i := r.2.1 - (r.2.2 + 1)) (j := r.2.1) (by omega) b6
    obtain ⟨c1, c2⟩ := tail3_ok (b1.rev (r.2.1 - (r.2.2 + 1)) r.2.1) (by omega) (by omega) (b5.of_keys ek)
    refine ⟨a1.bind ?_, ?_⟩
    · rw [hR, if_pos hq]; exact c1
    · rw [if_pos hq]; exact c2
  · obtain ⟨c1, c2⟩ := tail3_ok b1 (by omega) (by omega) b5
    refine ⟨a1.bind ?_, ?_⟩
    · rw [hR, if_neg hq]; exact c1
    · rw [if_neg hq]; exact c2
theorem count_ok {N : Nat} {p : Array Nat} (hp : PermN N p) (h1 : 1 ≤ N) : AskE (ltK key) N (kas_count N p) ∧ RunOk key N (evT (ltK key) (kas_count N p)) := by
  have hz := hp.size
  have u1 : Up key p 1 := fun i j hij hj => by
    have : i = j := by omega
    subst this; exact KeyOrd.kle_refl _
  obtain ⟨a1, a2, a3, a4, a5⟩ := asc_ok hp (N - 1) 1 (Nat.le_refl _) (by omega) u1
  unfold kas_count
  rw [evT_bind]
  revert a1 a2 a3 a4 a5
  generalize hR : evT (ltK key) (kas_asc p (N - 1) 1) = n
  intro a1 a2 a3 a4 a5
  have fin : ∀ {t : KasT (Nat × Array Nat)}, (AskE (ltK key) N t ∧ RunOk key N (evT (ltK key) t)) → ∀ {g : Nat → KasT (Nat × Array Nat)}, g n = t → AskE (ltK key) N ((kas_asc p (N - 1) 1).bind g) ∧ RunOk key N (evT (ltK key) (g n)) := fun {t} ht {g} eg => by
    refine ⟨a1.bind ?_, ?_⟩
    · rw [hR, eg]; exact ht.1
    · rw [eg]; exact ht.2
  by_cases hN : n = N
  · exact fin (t := .ret (n, p)) ⟨.ret _, hp, (show 1 ≤ n by omega), (show n ≤ N by omega), a4⟩ (if_pos (by simp [hN]))
  · have hlt := a5 (by omega)
    by_cases hn1 : n > 1
    · cases e : ltK key (p.getD 0 0) (p.getD (n - 1) 0) with
      | true =>
        refine fin ⟨.ask (hp.lt 0 (by omega)) (hp.lt (n - 1) (by omega)) ?_, ?_⟩ (by rw [if_neg (by simp [hN]), if_pos hn1])
        · rw [e, if_pos rfl]; exact .ret _
        · show RunOk key N (evT (ltK key) (if ltK key (p.getD 0 0) (p.getD (n - 1) 0) = true then _ else _))
          rw [e, if_pos rfl]; exact ⟨hp, by show 1 ≤ n; omega, by show n ≤ N; omega, a4⟩
      | false =>
        have ea : ∀ k, 0 ≤ k → k < n → kA key p k = kA key p (n - 1) := fun k _ hk => by
          have g1 : O.kle (kA key p k) (kA key p (n - 1)) := a4 k (n - 1) (by omega) (by omega)
          have g2 : O.kle (kA key p 0) (kA key p k) := a4 0 k (by omega) hk
          exact KeyOrd.kle_antisymm g1 (KeyOrd.kle_trans e g2)
        have ek := kA_rev (p := p) (i := 0) (j := n) (by omega) ea
        have dn : Dn key p (n + 1) := by
          have d0 : Dn key p n := fun i j hij hj => by rw [ea i (by omega) (by omega), ea j (by omega) hj]; exact KeyOrd.kle_refl _
          exact d0.snoc (by omega) (KeyOrd.kle_of_klt hlt)
        obtain ⟨c1, c2⟩ := descPart_ok (hp.rev 0 n) (by omega) (dn.of_keys ek)
        refine fin ⟨.ask (hp.lt 0 (by omega)) (hp.lt (n - 1) (by omega)) ?_, ?_⟩ (by rw [if_neg (by simp [hN]), if_pos hn1])
        · rw [e, if_neg Bool.false_ne_true]; exact c1
        · show RunOk key N (evT (ltK key) (if ltK key (p.getD 0 0) (p.getD (n - 1) 0) = true then _ else _))
          rw [e, if_neg Bool.false_ne_true]; exact c2
    · have en : n = 1 := by omega
      have dn : Dn key p (n + 1) := by
        have d0 : Dn key p n := fun i j hij hj => by
          have : i = j := by omega
          subst this; exact KeyOrd.kle_refl _
        exact d0.snoc (by omega) (KeyOrd.kle_of_klt hlt)
      exact fin (descPart_ok hp (by omega) dn) (by rw [if_neg (by simp [hN]), if_neg hn1])
theorem place_ok {N k : Nat} {p : Array Nat} (hp : PermN N p) (hk : k < N) (hu : Up key p k) : ∀ (f l r : Nat), l ≤ r → r ≤ k → r - l ≤ f → (∀ i, i < l → O.kle (kA key p i) (kA key p k)) → (∀ i, r ≤ i → i < k → O.klt (kA key p k) (kA key p i)) →
    AskE (ltK key) N (kas_place p k f l r) ∧ ∀ v, evT (ltK key) (kas_place p k f l r) = v → v ≤ k ∧ (∀ i, i < v → O.kle (kA key p i) (kA key p k)) ∧ (∀ i, v ≤ i → i < k → O.klt (kA key p k) (kA key p i))
  | 0, l, r, hlr, hrk, hf, h1, h2 => ⟨.ret _, fun v e => by
      cases e
      exact ⟨(show l ≤ k by omega), h1, fun i hi => h2 i (by have : l ≤ i := hi; omega)⟩⟩
  | f + 1, l, r, hlr, hrk, hf, h1, h2 => by
    by_cases hge : l ≥ r
    · have eq : kas_place p k (f + 1) l r = .ret l := if_pos hge
      rw [eq]
      exact ⟨.ret _, fun v e => by cases e; exact ⟨(show l ≤ k by omega), h1, fun i hi => h2 i (by have : l ≤ i := hi; omega)⟩⟩
    · have eq : kas_place p k (f + 1) l r = .ask (p.getD k 0) (p.getD ((l + r) / 2) 0) fun c => if c = true then kas_place p k f l ((l + r) / 2) else kas_place p k f ((l + r) / 2 + 1) r := if_neg hge
      rw [eq]
      have hm : (l + r) / 2 < k := by omega
      cases e : ltK key (p.getD k 0) (p.getD ((l + r) / 2) 0) with
      | true =>
        obtain ⟨a1, a2⟩ := place_ok hp hk hu f l ((l + r) / 2) (by omega) (by omega) (by omega) h1 fun i hi hik => KeyOrd.klt_of_klt_of_kle e (hu _ i hi hik)
        refine ⟨.ask (hp.lt k hk) (hp.lt _ (by omega)) (by rw [e, if_pos rfl]; exact a1), fun v ev => a2 v ?_⟩
        have ev : evT (ltK key) (if ltK key (p.getD k 0) (p.getD ((l + r) / 2) 0) = true then _ else _) = v := ev
        rw [e, if_pos rfl] at ev
        exact ev
      | false =>
        obtain ⟨a1, a2⟩ := place_ok hp hk hu f ((l + r) / 2 + 1) r (by omega) hrk (by omega) (fun i hi => KeyOrd.kle_trans (hu i ((l + r) / 2) (by omega) hm) e) h2
        refine ⟨.ask (hp.lt k hk) (hp.lt _ (by omega)) (by rw [e, if_neg Bool.false_ne_true]; exact a1), fun v ev => a2 v ?_⟩
        have ev : evT (ltK key) (if ltK key (p.getD k 0) (p.getD ((l + r) / 2) 0) = true then _ else _) = v := ev
        rw [e, if_neg Bool.false_ne_true] at ev
        exact ev
theorem getD_bubble {p : Array Nat} {k l : Nat} (hk : k < p.size) (hl : l ≤ k) (i : Nat) : (bubble p k (k - l)).getD i 0 = if i = l then p.getD k 0 else if l < i ∧ i ≤ k then p.getD (i - 1) 0 else p.getD i 0 := by
  rw [Array.getD_eq_getD_getElem?, getElem?_bubble hk (k - l) (by omega), show k - (k - l) = l by omega]
  simp only [Array.getD_eq_getD_getElem?]
  repeat' split
  all_goals rfl
theorem Up.bubble {N k l : Nat} {p : Array Nat} (hp : PermN N p) (hk : k < N) (hl : l ≤ k) (hu : Up key p k) (h1 : ∀ i, i < l → O.kle (kA key p i) (kA key p k)) (h2 : ∀ i, l ≤ i → i < k → O.klt (kA key p k) (kA key p i)) : Up key (bubble p k (k - l)) (k + 1) := fun i j hij hj => by
  have hz := hp.size
  have e : ∀ i, kA key (PyProof.Rows.bubble p k (k - l)) i = if i = l then kA key p k else if l < i ∧ i ≤ k then kA key p (i - 1) else kA key p i := fun i => by
    unfold kA
    rw [getD_bubble (by omega) hl]
    repeat' split
    all_goals rfl
  rw [e, e]
  by_cases c1 : i = l <;> by_cases c2 : j = l
  · rw [if_pos c1, if_pos c2]; exact KeyOrd.kle_refl _
  · rw [if_pos c1, if_neg c2, if_pos (by omega)]; exact KeyOrd.kle_of_klt (h2 _ (by omega) (by omega))
  · rw [if_neg c1, if_pos c2, if_neg (by omega)]; exact h1 i (by omega)
  · rw [if_neg c1, if_neg c2]
    by_cases d1 : l < i ∧ i ≤ k
    · rw [if_pos d1, if_pos (by omega)]; exact hu _ _ (by omega) (by omega)
    · rw [if_neg d1]
      by_cases d2 : l < j ∧ j ≤ k
      · rw [if_pos d2]; exact hu _ _ (by omega) (by omega)
      · rw [if_neg d2]; exact hu _ _ hij (by omega)
theorem bin_ok {N : Nat} : ∀ (f : Nat) (p : Array Nat) (k : Nat), PermN N p → k + f = N → 1 ≤ k → Up key p k → AskE (ltK key) N (kas_bin f p k) ∧ PermN N (evT (ltK key) (kas_bin f p k)) ∧ Up key (evT (ltK key) (kas_bin f p k)) N
  | 0, p, k, hp, hk, _, hu => ⟨.ret _, hp, by rw [show N = k by omega]; exact hu⟩
  | f + 1, p, k, hp, hk, h1, hu => by
    obtain ⟨a1, a2⟩ := place_ok hp (by omega) hu k 0 k (Nat.zero_le _) (Nat.le_refl _) (by omega) (fun i hi => absurd hi (Nat.not_lt_zero _)) fun i hi hik => absurd hik (by omega)
    obtain ⟨b1, b2, b3⟩ := a2 _ rfl
    unfold kas_bin
    rw [evT_bind]
    have hb : PermN N (bubble p k (k - evT (ltK key) (kas_place p k k 0 k))) := (bubble_perm _ _ _).trans hp
    obtain ⟨c1, c2, c3⟩ := bin_ok f _ (k + 1) hb (by omega) (by omega) (hu.bubble hp (by omega) b1 b2 b3)
    exact ⟨a1.bind c1, c2, c3⟩
theorem sort_ok {N : Nat} (h1 : 1 ≤ N) : AskE (ltK key) N (kas_sort N) ∧ PermN N (evT (ltK key) (kas_sort N)) ∧ Up key (evT (ltK key) (kas_sort N)) N := by
  obtain ⟨a1, a2, a3, a4, a5⟩ := count_ok (key := key) (p := List.toArray (List.range N)) (Array.Perm.refl _) h1
  unfold kas_sort
  rw [evT_bind]
  revert a1 a2 a3 a4 a5
  generalize hR : evT (ltK key) (kas_count N (List.toArray (List.range N))) = r
  intro a1 a2 a3 a4 a5
  by_cases h : r.1 < N
  · obtain ⟨c1, c2, c3⟩ := bin_ok (N - max r.1 1) r.2 (max r.1 1) a2 (by omega) (by omega) (by rw [show max r.1 1 = r.1 by omega]; exact a5)
    refine ⟨a1.bind (by rw [hR, if_pos h]; exact c1), ?_⟩
    rw [if_pos h]; exact ⟨c2, c3⟩
  · refine ⟨a1.bind (by rw [hR, if_neg h]; exact .ret _), ?_⟩
    rw [if_neg h]
    exact ⟨a2, by rw [show N = r.1 by omega]; exact a5⟩
end
end L2
namespace L2
open PySem PySem.Spec PyProof.Rows
mutual
inductive Dp (K : PySem.W.Frag) (H : Hp) : V → PyData → Prop
  | non : Dp K H .non .none
  | bl (b : Bool) : Dp K H (.bl b) (.bool b)
  | int (i : Int) : Dp K H (.int i) (.int i)
  | str (x : Str) (h : PyData.strOk x = true) : Dp K H (.str x) (.str x)
  | tup {a : Addr} {xs : List V} {ds : List PyData} (h : SqT K H a xs) (r : Dps K H xs ds) : Dp K H (.ref a) (.tuple ds)
  | lst {a : Addr} {xs : List V} {ds : List PyData} (h : SqL K H a xs) (r : Dps K H xs ds) : Dp K H (.ref a) (.list ds)
inductive Dps (K : PySem.W.Frag) (H : Hp) : List V → List PyData → Prop
  | nil : Dps K H [] []
  | cons {x : V} {xs : List V} {d : PyData} {ds : List PyData} (h : Dp K H x d) (r : Dps K H xs ds) : Dps K H (x :: xs) (d :: ds)
end
mutual
theorem Dp.lay {K : PySem.W.Frag} {H : Hp} : ∀ {v : V} {d : PyData}, Dp K H v d → d.canLay0 = true
  | _, _, .non => rfl
  | _, _, .bl _ => rfl
  | _, _, .int _ => rfl
  | _, _, .str _ h => by simpa [PyData.canLay0] using h
  | _, _, .tup _ r => by simpa [PyData.canLay0] using r.lay
  | _, _, .lst _ r => by simpa [PyData.canLay0] using r.lay
theorem Dps.lay {K : PySem.W.Frag} {H : Hp} : ∀ {xs : List V} {ds : List PyData}, Dps K H xs ds → PyData.canLayAll0 ds = true
  | _, _, .nil => by simp [PyData.canLayAll0]
  | _, _, .cons h r => by simp [PyData.canLayAll0, h.lay, r.lay]
end
mutual
theorem Dp.reads {X : Cx} {pins : List (Addr × Obj)} {σ : St} {H : Hp} {s : Shared} (I : Inv X pins σ H s) : ∀ {v : V} {d : PyData} {u : Value}, Dp X.K H v d → RelV v u → ∃ as, Reads s.heap u d as
  | _, _, _, .non, r => by cases (show _ = Value.none from r); exact ⟨_, .none⟩
  | _, _, _, .bl b, r => by cases (show _ = Value.bool b from r); exact ⟨_, .bool b⟩
  | _, _, _, .int i, r => by obtain ⟨t, rfl⟩ := r; exact ⟨_, .int i t⟩
  | _, _, _, .str x _, r => by obtain ⟨t, rfl⟩ := r; exact ⟨_, .str x t⟩
  | _, _, _, .tup (a := a) h rs, r => by
    cases (show _ = Value.ref a from r)
    obtain ⟨its, rv, ⟨o, ho, hc, n, hd⟩, _⟩ := I.tuple h
    obtain ⟨as, ra⟩ := Dps.reads I rs rv
    exact ⟨_, .tuple ho hc hd (by simpa using ra)⟩
  | _, _, _, .lst (a := a) h rs, r => by
    cases (show _ = Value.ref a from r)
    obtain ⟨its, rv, pl, _⟩ := I.list h
    obtain ⟨o, ho, hc, n, hd⟩ := pl.isList
    obtain ⟨as, ra⟩ := Dps.reads I rs rv
    exact ⟨_, .list ho hc hd (by simpa using ra)⟩
theorem Dps.reads {X : Cx} {pins : List (Addr × Obj)} {σ : St} {H : Hp} {s : Shared} (I : Inv X pins σ H s) : ∀ {xs : List V} {ds : List PyData} {us : List Value}, Dps X.K H xs ds → Vals xs us → ∃ as, ReadsAll s.heap us ds as
  | _, _, _, .nil, .nil => ⟨_, .nil⟩
  | _, _, _, .cons h rs, .cons r rr => by
    obtain ⟨as, ra⟩ := Dp.reads I h r
    obtain ⟨bs, rb⟩ := Dps.reads I rs rr
    exact ⟨_, .cons ra rb⟩
end
section
variable {X : Cx}
def rNeD (K : PySem.W.Frag) : R2 := fun x y H Q => ∃ d e, Dp K H x d ∧ Dp K H y e ∧ d.depth ≤ 60 ∧ Q (.bl (!PyData.eqv d e)) H
theorem op_neD {k : Nat} (hr : Room k X.A) : OpR X (compareOp .NotEq) (rNeD X.K) := by
  intro pins s σ H x y v u Q I rx ry h
  obtain ⟨d, e, h1, h2, hd, q⟩ := h
  obtain ⟨as, r1⟩ := h1.reads I rx
  obtain ⟨bs, r2⟩ := h2.reads I ry
  have := hr.units
  exact SeqAt.compareNe_reads r1 r2 h1.lay h2.lay (by omega) ⟨.bl _, H, I, rfl, q⟩
end
mutual
theorem eqv_refl : ∀ {d : PyData}, d.canLay0 = true → PyData.eqv d d = true
  | .none, _ => by simp [PyData.eqv]
  | .bool _, _ => by simp [PyData.eqv]
  | .int _, _ => by simp [PyData.eqv]
  | .str _, _ => by simp [PyData.eqv]
  | .list xs, h => by simp only [PyData.eqv]; exact eqvAll_refl (by simpa [PyData.canLay0] using h)
  | .tuple xs, h => by simp only [PyData.eqv]; exact eqvAll_refl (by simpa [PyData.canLay0] using h)
  | .dict _, h => by simp [PyData.canLay0] at h
theorem eqvAll_refl : ∀ {ds : List PyData}, PyData.canLayAll0 ds = true → PyData.eqvAll ds ds = true
  | [], _ => by simp [PyData.eqvAll]
  | d :: r, h => by
    have h' : d.canLay0 = true ∧ PyData.canLayAll0 r = true := by simpa [PyData.canLayAll0] using h
    simp only [PyData.eqvAll, eqv_refl h'.1, eqvAll_refl h'.2, Bool.and_self]
end
theorem dps_ints {K : PySem.W.Frag} {H : Hp} : ∀ (ns : List Int), Dps K H (ns.map V.int) (ns.map PyData.int)
  | [] => .nil
  | n :: r => .cons (.int n) (dps_ints r)
theorem Dp.ints {K : PySem.W.Frag} {H : Hp} {a : Addr} {ns : List Int} (h : SqT K H a (ns.map V.int)) : Dp K H (.ref a) (.tuple (ns.map PyData.int)) := .tup h (dps_ints ns)
theorem eqvAll_ints : ∀ (ns ms : List Int), PyData.eqvAll (ns.map PyData.int) (ms.map PyData.int) = decide (ns = ms)
  | [], [] => by simp [PyData.eqvAll]
  | [], _ :: _ => by simp [PyData.eqvAll]
  | _ :: _, [] => by simp [PyData.eqvAll]
  | n :: r, m :: t => by
    simp only [List.map_cons, PyData.eqvAll, PyData.eqv, eqvAll_ints r t, List.cons.injEq]
    by_cases h1 : n = m <;> by_cases h2 : r = t <;> simp [h1, h2]
theorem eqv_tints (ns ms : List Int) : PyData.eqv (.tuple (ns.map PyData.int)) (.tuple (ms.map PyData.int)) = decide (ns = ms) := by simp only [PyData.eqv]; exact eqvAll_ints ns ms
theorem depthAll_le {n : Nat} : ∀ {ds : List PyData}, (∀ d ∈ ds, d.depth ≤ n) → PyData.depthAll ds ≤ n
  | [], _ => by simp [PyData.depthAll]
  | d :: r, h => by
    simp only [PyData.depthAll]
    exact Nat.max_le.mpr ⟨h d List.mem_cons_self, depthAll_le fun e he => h e (List.mem_cons_of_mem _ he)⟩
theorem depth_tints (ns : List Int) : (PyData.tuple (ns.map PyData.int)).depth ≤ 1 := by
  have : PyData.depthAll (ns.map PyData.int) ≤ 0 := depthAll_le fun d hd => by
    obtain ⟨i, _, rfl⟩ := List.mem_map.mp hd
    simp [PyData.depth]
  simp only [PyData.depth]; omega
theorem SqT.kept {K : PySem.W.Frag} {H H' : Hp} {a : Addr} {xs : List V} (e : ∀ b o, H b = some o → H' b = some o) (h : SqT K H a xs) : SqT K H' a xs := SqT.same e h
mutual
theorem Dp.same {K : PySem.W.Frag} {H H' : Hp} (e : Same H H') : ∀ {v : V} {d : PyData}, Dp K H v d → Dp K H' v d
  | _, _, .non => .non
  | _, _, .bl b => .bl b
  | _, _, .int i => .int i
  | _, _, .str x h => .str x h
  | _, _, .tup h r => .tup (h.same e) (Dps.same e r)
  | _, _, .lst h r => .lst (e.seq h) (Dps.same e r)
theorem Dps.same {K : PySem.W.Frag} {H H' : Hp} (e : Same H H') : ∀ {xs : List V} {ds : List PyData}, Dps K H xs ds → Dps K H' xs ds
  | _, _, .nil => .nil
  | _, _, .cons h r => .cons (Dp.same e h) (Dps.same e r)
end
section
variable {σ : St} {H : Hp} {ta tb : TE} {x y : V} {d e : PyData} {K : PySem.W.Frag}
theorem ev_neD (ha : Ev ta σ H x) (hb : Ev tb σ H y) (h1 : Dp K H x d) (h2 : Dp K H y e) (hd : d.depth ≤ 60) : Ev (tOp (rNeD K) ta tb) σ H (.bl (!PyData.eqv d e)) := fun _ z => ha _ (hb _ ⟨d, e, h1, h2, hd, z⟩)
end
end L2
namespace L2
open PySem PySem.Spec PyProof.Rows
theorem Inv.laidN {X : Cx} {pins : List (Addr × Obj)} {σ : St} {H : Hp} {s : Shared} {h' : Heap} {t' : Nat} {a : Addr} {o : HO} (I : Inv X pins σ H s) (k : ∀ b u, b ≠ X.env.locals → s.heap.get? b = some u → h'.get? b = some u)
    (ns : ∀ m, s.heap.Ns X.env.locals m → h'.Ns X.env.locals m) (hn : s.heap.get? a = none) (new : ObjOk X.prog X.w (upd H a o) h' a o) : Inv X pins σ (upd H a o) { s with heap := h', toks := t' } := by
  have hHa : H a = none := I.hok.none_of hn
  have trk : ∀ b u, H b = some u → b ≠ X.env.locals := fun b u e z => by rw [z, I.free] at e; cases e
  have nea : ∀ b u, s.heap.get? b = some u → b ≠ a := fun b u e z => by rw [z, hn] at e; cases e
  refine I.step (g' := s.gens) (d' := s.drawn) (ch := []) (fun _ z => nomatch z) (fun b u hL _ _ e _ => k b u hL e) (fun b u hL _ _ e _ => ⟨u.slots, k b u hL e⟩) (fun b u _ e n => by rw [upd_ne (nea b u e)]; exact n)
    (fun b u _ e => ?_) (fun b xs e => by rw [upd_ne (ne_of_none e hHa)]; exact e) (fun b u xs e => by rw [upd_ne (ne_of_none e hHa)]; exact e) (fun b ps e => ⟨#[], by rw [upd_ne (ne_of_none e hHa), e]; simp⟩) ns (fun b u e => ?_) I.bare
  · by_cases hb : b = X.env.locals
    · obtain ⟨m, hm, _⟩ := I.loc
      obtain ⟨o', _, _, e', _⟩ := ns m hm
      exact ⟨o', by rw [hb]; exact e'⟩
    · exact ⟨u, k b u hb e⟩
  · by_cases hb : b = a
    · subst hb; rw [upd_same] at e; cases e; exact new
    · rw [upd_ne hb] at e
      refine (I.hok b u e).stay (fun c v hc q => k c v ?_ q) (fun c q => by rw [upd_ne (ne_of_none q hHa)]; exact q) fun c xs q => by rw [upd_ne (ne_of_none q hHa)]; exact q
      rcases hc with rfl | hc
      · exact trk _ _ e
      · exact trk _ _ hc
theorem ns_inj {h : Heap} {a : Addr} {m m' : Str → Option Value} (x : h.Ns a m) (y : h.Ns a m') : m = m' := by
  obtain ⟨o, es, ep, ho, hd, _, f⟩ := x
  obtain ⟨o', es', ep', ho', hd', _, f'⟩ := y
  rw [ho] at ho'; cases ho'
  rw [hd] at hd'; cases hd'
  funext n
  rw [← f, ← f']
theorem vals_of_refs : ∀ cs : List Addr, Vals (cs.map V.ref) (cs.map Value.ref)
  | [] => .nil
  | _ :: r => .cons rfl (vals_of_refs r)
theorem lex_irrefl : ∀ a : List Int, HT.lexLt a a = false
  | [] => rfl
  | x :: r => by rw [HT.lexLt_cons, if_pos rfl]; exact lex_irrefl r
theorem lex_total : ∀ a b : List Int, HT.lexLt a b = false → HT.lexLt b a = false → a = b
  | [], [], _, _ => rfl
  | [], _ :: _, h, _ => by rw [HT.lexLt_nil_cons] at h; cases h
  | _ :: _, [], _, h => by rw [HT.lexLt_nil_cons] at h; cases h
  | x :: r, y :: t, h1, h2 => by
    rw [HT.lexLt_cons] at h1 h2
    by_cases e : x = y
    · subst e
      rw [if_pos rfl] at h1 h2
      rw [lex_total r t h1 h2]
    · rw [if_neg e] at h1
      rw [if_neg (Ne.symm e)] at h2
      have := of_decide_eq_false h1
      have := of_decide_eq_false h2
      omega
theorem lex_trans : ∀ a b c : List Int, HT.lexLt a b = true → HT.lexLt b c = true → HT.lexLt a c = true
  | [], _, [], _, h => by
    rename_i b _
    cases b with
    | nil => rw [HT.lexLt_nil_nil] at h; cases h
    | cons y t => rw [HT.lexLt_cons_nil] at h; cases h
  | [], _, _ :: _, _, _ => rfl
  | _ :: _, [], _, h, _ => by rw [HT.lexLt_cons_nil] at h; cases h
  | _ :: _, _ :: _, [], _, h => by rw [HT.lexLt_cons_nil] at h; cases h
  | x :: r, y :: t, z :: u, h1, h2 => by
    rw [HT.lexLt_cons] at h1 h2 ⊢
    by_cases e1 : x = y <;> by_cases e2 : y = z
    · subst e1; subst e2
      rw [if_pos rfl] at h1 h2 ⊢
      exact lex_trans r t u h1 h2
    · subst e1
      rw [if_neg e2] at h2 ⊢
      exact h2
    · subst e2
      rw [if_neg e1] at h1 ⊢
      exact h1
    · rw [if_neg e1] at h1
      rw [if_neg e2] at h2
      have := of_decide_eq_true h1
      have := of_decide_eq_true h2
      rw [if_neg (by omega)]
      exact decide_eq_true (by omega)
theorem lex_neg (a b c : List Int) (h : HT.lexLt a c = true) : HT.lexLt a b = true ∨ HT.lexLt b c = true := by
  cases h1 : HT.lexLt a b with
  | true => exact .inl rfl
  | false =>
    refine .inr ?_
    cases h2 : HT.lexLt b a with
    | true => exact lex_trans b a c h2 h
    | false => rw [← lex_total a b h1 h2]; exact h
def lexO : KeyOrd := ⟨List Int, HT.lexLt, lex_irrefl, lex_trans, lex_neg, lex_total⟩
abbrev Tups (H : Hp) (as : List Addr) (cs : List (List Int)) : Prop := Paired (fun a (c : List Int) => H a = some (.tup (c.map V.int))) as cs
theorem Tups.at {H : Hp} : ∀ {as : List Addr} {cs : List (List Int)} {i : Nat} {a : Addr}, Tups H as cs → as[i]? = some a → ∃ c, cs[i]? = some c ∧ H a = some (.tup (c.map V.int))
  | _, _, 0, _, .cons h _, e => by cases e; exact ⟨_, rfl, h⟩
  | _, _, i + 1, _, .cons _ t, e => Tups.at (i := i) t e
  | _, _, _, _, .nil, e => by simp at e
theorem Tups.same {H H' : Hp} {as : List Addr} {cs : List (List Int)} (h : Tups H as cs) (e : Same H H') : Tups H' as cs := Paired.mapP h fun _ _ z => e _ _ z
theorem Tups.dps {K : PySem.W.Frag} {H : Hp} : ∀ {as : List Addr} {cs : List (List Int)}, Tups H as cs → Dps K H (as.map V.ref) (cs.map fun c => PyData.tuple (c.map PyData.int))
  | _, _, .nil => .nil
  | _, _, .cons h t => .cons (.ints (SqT.of h)) (Tups.dps t)
open PySem.W in
theorem katlex_ints {prog : Program} {w : World} {A : Around} {b fin : Bool} {Q : Bool → Shared → Prop} {s : Shared} : ∀ (us ws : List Value) (ns ms : List Int) (i : Nat), Vals (ns.map V.int) us → Vals (ms.map V.int) ws → fin = decide (ns.length < ms.length) →
    Q (HT.lexLt ns ms) s → KatLex prog w A b fin Q (us.zip ws) i s
  | [], ws, ns, ms, i, r1, r2, hf, h => by
    cases ns with
    | cons n r => cases r1
    | nil =>
      refine kat_nil ?_
      rw [hf]
      cases ms with
      | nil => exact h
      | cons m t => exact h
  | u :: us, [], ns, ms, i, r1, r2, hf, h => by
    cases ms with
    | cons m t => cases r2
    | nil =>
      refine kat_nil ?_
      rw [hf]
      cases ns with
      | nil => exact h
      | cons m t => exact h
  | u :: us, v :: ws, ns, ms, i, r1, r2, hf, h => by
    cases ns with
    | nil => cases r1
    | cons n r =>
      cases ms with
      | nil => cases r2
      | cons m t =>
        cases r1 with
        | cons q1 r1 =>
          cases r2 with
          | cons q2 r2 =>
            obtain ⟨t1, rfl⟩ := q1
            obtain ⟨t2, rfl⟩ := q2
            refine kat_cons (wpAny_eqBool_int ?_)
            rw [HT.lexLt_cons] at h
            refine kat_go (fun e => ?_) (fun e => ?_)
            · have e' : n = m := by simpa using e
              rw [if_pos e'] at h
              exact kat_yes (katlex_ints us ws r t (i + 1) r1 r2 (by rw [hf]; simp) h)
            · have e' : ¬ n = m := by simpa using e
              rw [if_neg e'] at h
              refine kat_no ?_
              cases (b && i == 0) with
              | true => exact oneLt_int h
              | false => exact kat_one _ _ (lt_int h)
theorem tups_kat {X : Cx} {pins : List (Addr × Obj)} {σ : St} {H : Hp} {s : Shared} {h' : Heap} (I : Inv X pins σ H s) (k : ∀ b u, b ≠ X.env.locals → s.heap.get? b = some u → h'.get? b = some u) : ∀ {as : List Addr} {cs : List (List Int)}, Tups H as cs → (∀ c ∈ cs, c ≠ []) →
    ∃ fs : List Value, PySem.W.KatTups h' (as.map Value.ref) fs ∧ fs.length = as.length ∧ ∀ v ∈ fs, ∃ i t, v = Value.int i t
  | _, _, .nil, _ => ⟨[], PySem.W.KatTups.nil, rfl, fun _ h => nomatch h⟩
  | _, _, .cons (a := a) (b := c) h t, hne => by
    obtain ⟨fs, h1, h2, h3⟩ := tups_kat I k t fun d hd => hne d (List.mem_cons_of_mem _ hd)
    obtain ⟨_, its, rv, o, ho, hc, n, hd⟩ := (show ObjOk X.prog X.w H s.heap a (.tup (c.map V.int)) from I.hok a _ h)
    have ha : a ≠ X.env.locals := fun z => by rw [z, I.free] at h; cases h
    cases c with
    | nil => exact absurd rfl (hne _ List.mem_cons_self)
    | cons i r =>
      cases rv with
      | cons q rv =>
        obtain ⟨t', rfl⟩ := q
        refine ⟨.int i t' :: fs, PySem.W.KatTups.cons (k a o ha ho) hc hd (by simp) h1, by simp [h2], fun v hv => ?_⟩
        rcases List.mem_cons.mp hv with rfl | hv
        · exact ⟨i, t', rfl⟩
        · exact h3 v hv
theorem Paired.pick {α β : Type} {F : α → β → Prop} (da : α) (db : β) : ∀ {l₁ : List α} {l₂ : List β}, Paired F l₁ l₂ → ∀ (ix : List Nat), (∀ i ∈ ix, i < l₁.length) → Paired F (ix.map fun i => l₁.getD i da) (ix.map fun i => l₂.getD i db)
  | l₁, l₂, h, [], _ => .nil
  | l₁, l₂, h, i :: ix, hi => by
    refine .cons ?_ (Paired.pick da db h ix fun j hj => hi j (List.mem_cons_of_mem _ hj))
    have hlt := hi i List.mem_cons_self
    clear hi
    induction h generalizing i with
    | nil => exact absurd hlt (Nat.not_lt_zero _)
    | @cons a b l₁ l₂ q t ih =>
      cases i with
      | zero => exact q
      | succ j => exact ih (i := j) (by simpa using hlt)
theorem pick_perm {α : Type} (d : α) (l : List α) {p : Array Nat} (hp : PermN l.length p) : (p.toList.map fun i => l.getD i d).Perm l := by
  have h : p.toList.Perm (List.range l.length) := by
    have := Array.perm_iff_toList_perm.mp hp
    simpa using this
  refine (h.map _).trans ?_
  have e : (List.range l.length).map (fun i => l.getD i d) = l := by
    apply List.ext_getElem?
    intro i
    by_cases hi : i < l.length
    · simp [hi]
    · simp [hi]
  rw [e]
section
variable {X : Cx}
theorem call_sortedT {k : Nat} (hr : Room k X.A) : CallR X (.builtin "sorted") (fun xs H Q => ∃ (p : Addr) (as : List Addr) (cs : List (List Int)), xs = [.ref p] ∧ SqL X.K H p (as.map V.ref) ∧ Tups H as cs ∧ (∀ c ∈ cs, c ≠ []) ∧ 2 ≤ as.length ∧ as.length < 64 ∧
    ∀ l bs ds, H l = none → Tups H bs ds → ds.Perm cs → ds.Pairwise (fun c d => HT.lexLt d c = false) → Q (.ref l) (upd H l (.lst (bs.map V.ref)))) := by
  intro pins s σ H xs us Q I r h
  obtain ⟨p, as, cs, rfl, hp, ht, hne, h2, h64, q⟩ := h
  obtain ⟨u, rfl, rx⟩ := vals1 r
  cases rx
  obtain ⟨its, rv, pl, hz⟩ := I.list hp
  cases vals_refs rv
  have hcl : as.length = cs.length := ht.length
  obtain ⟨m, hm, _⟩ := id I.loc
  refine PySem.W.kat_sorted (h₀ := Att.noObjs s.heap) (L := X.env.locals) (m := m) (news := allNews (Att.noObjs s.heap) s.heap X.env.locals) (Att.fr_all hm) news_all pl.isList (by simpa using h2) (by simpa using h64) fun D e1 h' F' N' hD => ?_
  have k0 : ∀ b u, b ≠ X.env.locals → s.heap.get? b = some u → h'.get? b = some u := fun b u hb e => (N' (b, u) (List.mem_cons_of_mem _ (mem_allNews hb (Att.noObjs_get _ _) e))).1
  have hDn : s.heap.get? D = none := by
    cases e : s.heap.get? D with
    | none => rfl
    | some u => exact absurd (hD (D, u) (mem_allNews (N' (D, _) List.mem_cons_self).2.1 (Att.noObjs_get _ _) e)) (Nat.lt_irrefl _)
  obtain ⟨fs, kt, hfl, hfi⟩ := tups_kat I k0 ht hne
  refine PySem.W.kat_kind (s := { s with heap := h' }) (T := .type "int") kt (by omega) (fun v hv => ?_) rfl ?_
  · obtain ⟨i, t, rfl⟩ := hfi v hv
    exact .now
  have hl : (as.map Value.ref).length = as.length := List.length_map ..
  obtain ⟨s1, s2, s3⟩ := sort_ok (O := lexO) (key := fun i => cs.getD i []) (N := as.length) (by omega)
  rw [hl]
  refine kas_ev (lt := ltK (O := lexO) fun i => cs.getD i []) (I := fun s' => s' = { s with heap := h' }) (fun i j C s' hi hj hs hC => ?_) s1 rfl fun s' hs => ?_
  · subst hs
    obtain ⟨ci, e1, g1⟩ := ht.at (i := i) (a := as[i]) (by simp [hi])
    obtain ⟨cj, e2, g2⟩ := ht.at (i := j) (a := as[j]) (by simp [hj])
    have v1 : (as.map Value.ref).getD i Value.none = .ref as[i] := by simp [hi]
    have v2 : (as.map Value.ref).getD j Value.none = .ref as[j] := by simp [hj]
    have hne1 : as[i] ≠ X.env.locals := fun z => by rw [z, I.free] at g1; cases g1
    have hne2 : as[j] ≠ X.env.locals := fun z => by rw [z, I.free] at g2; cases g2
    obtain ⟨_, xs1, rv1, o1, ho1, _, n1, hd1⟩ := (show ObjOk X.prog X.w H s.heap as[i] (.tup (ci.map V.int)) from I.hok _ _ g1)
    obtain ⟨_, xs2, rv2, o2, ho2, _, n2, hd2⟩ := (show ObjOk X.prog X.w H s.heap as[j] (.tup (cj.map V.int)) from I.hok _ _ g2)
    unfold PySem.W.kas_ask
    rw [v1, v2]
    refine PySem.W.kat_lt (k0 _ _ hne1 ho1) hd1 (k0 _ _ hne2 ho2) hd2 ?_
    have l1 := rv1.length
    have l2 := rv2.length
    rw [List.length_map] at l1 l2
    refine katlex_ints xs1 xs2 ci cj 0 rv1 rv2 (by simp [l1, l2]) ?_
    have := hC _ rfl
    simp only [ltK, List.getD_eq_getElem?_getD, e1, e2, Option.getD_some] at this
    exact this
  · subst hs
    refine PySem.W.KasFin.intro (s := { s with heap := h' }) F' N' (.head fun p hp => Nat.ne_of_lt (hD p hp)) fun h2' c F2 N2 => ?_
    have hix : ∀ i ∈ (evT (ltK (O := lexO) fun i => cs.getD i []) (PySem.W.kas_sort as.length)).toList, i < as.length := fun i hi => by
      have := (Array.perm_iff_toList_perm.mp s2).mem_iff.mp hi
      simpa using this
    generalize hE : evT (ltK (O := lexO) fun i => cs.getD i []) (PySem.W.kas_sort as.length) = P at s2 s3 hix N2
    have hb : (P.toList.map fun i => (as.map Value.ref).getD i Value.none) = (P.toList.map fun i => as.getD i 0).map Value.ref := by
      rw [List.map_map]
      refine List.map_congr_left fun i hi => ?_
      have := hix i hi
      simp [this]
    have I' : Inv X pins σ (upd H D (.lst ((P.toList.map fun i => as.getD i 0).map V.ref))) { s with heap := h2', toks := s.toks } := by
      refine I.laidN (fun b u hb e => ?_) (fun m' hm' => ?_) hDn ?_
      · exact (N2 (b, u) (List.mem_cons_of_mem _ (mem_allNews hb (Att.noObjs_get _ _) e))).1
      · have : m' = m := ns_inj hm' hm
        rw [this]; exact F2.ns
      · have e := (N2 (D, _) List.mem_cons_self).1
        rw [hb] at e
        refine ⟨?_, _, _, vals_of_refs _, e⟩
        rw [List.length_map, List.length_map, Array.length_toList, s2.size]
        exact Nat.le_trans (Nat.le_of_lt h64) (by decide)
    refine ⟨.ref D, _, I', rfl, q D _ _ (I.hok.none_of hDn) (Paired.pick 0 [] ht _ hix) (pick_perm [] cs (by rw [← hcl]; exact s2)) ?_⟩
    rw [List.pairwise_iff_getElem]
    intro i j hi hj hij
    simp only [List.length_map, Array.length_toList] at hi hj
    have := s3 i j (Nat.le_of_lt hij) (by rw [s2.size] at hj; exact hj)
    simp only [List.getElem_map, Array.getElem_toList]
    unfold kA at this
    simp only [Array.getD_eq_getD_getElem?, Array.getElem?_eq_getElem hi, Array.getElem?_eq_getElem hj, Option.getD_some] at this
    exact this
end
section
variable {prog : Program} {w : World} {A : Around} {E : Value → Shared → Prop} {s : Shared}
theorem sort_few {l : Addr} {vs : List Value} {c : Nat} {P : Fin → Shared → Prop} (g : s.heap.get? l = some (seqObj "list" vs.toArray c)) (few : vs.length < 2) (fin : P (.done (.ret .none)) { s with heap := sortedHeap s.heap l vs vs.toArray }) :
    wpAny (model prog w) A (Builtin.«list.sort» ⟨[.ref l], []⟩) P E s := by
  have lt : l < s.heap.objs.size := Heap.lt_size g
  rw [list_sort_plain]
  apply wpAny_bind
  refine listItems_at g rfl ?_
  apply wpAny_bind
  refine listUpdate_at g rfl ?_
  obtain ⟨n1, g1⟩ : ∃ n1, (s.heap.update l (Obj.mapSeq fun _ => #[])).get? l = some (seqObj "list" #[] n1) := ⟨_, get?_update_seq g (fun _ => #[])⟩
  apply wpAny_bind
  refine seqEpoch_at g1 rfl ?_
  apply wpAny_bind
  refine wpAny_newTuple ?_ (by rw [sizeLine_eq]; simp; omega)
  apply wpAny_bind
  refine wpAny_newList ?_ (by decide)
  apply wpAny_holding
  have g6 : (((s.heap.update l (Obj.mapSeq fun _ => #[])).push (seqObj "tuple" vs.toArray 0)).push (seqObj "list" #[] 0)).get? l = some (seqObj "list" #[] n1) := by
    rw [Heap.get?_push_ne _ _ _ (Nat.ne_of_lt (by rw [size_push', Heap.size_update]; exact Nat.lt_succ_of_lt lt))]
    rw [Heap.get?_push_ne _ _ _ (Nat.ne_of_lt (by rw [Heap.size_update]; exact lt))]
    exact g1
  show wpAny (model prog w) A _ P E ({ s with heap := ((s.heap.update l (Obj.mapSeq fun _ => #[])).push (seqObj "tuple" vs.toArray 0)).push (seqObj "list" #[] 0) } : Shared)
  dsimp only
  have few' : vs.toArray.size < 2 := by simpa using few
  rw [if_pos few', if_pos few']
  apply wpAny_bind
  apply wpAny_pure
  rw [StateT.run_pure]
  apply wpAny_bind
  apply wpAny_pure
  dsimp only
  apply wpAny_bind
  refine seqEpoch_at g6 rfl ?_
  have eo : (arrOf (SortSt.mk' general' (vs.toArray.zip vs.toArray) #[] 7 none)).map (·.2) = vs.toArray := by
    show (vs.toArray.zip vs.toArray).map (·.2) = vs.toArray
    match vs, few with
    | [], _ => simp
    | [_], _ => simp
  rw [eo]
  apply wpAny_bind
  refine listUpdate_at g6 rfl ?_ (hsz2 := by rw [List.size_toArray, sizeLine_eq]; omega)
  simp only [bne_self_eq_false, Bool.false_eq_true]
  exact wpAny_pure fin
theorem sorted_few {l : Addr} {vs : List Value} {Q : Value → Shared → Prop} (g : s.heap.IsList l vs.toArray) (few : vs.length < 2) (h : Q (.ref (s.heap.objs.size + 1)) { s with heap := sortedAll s.heap vs vs.toArray }) :
    wpAny (model prog w) A (call (.builtin "sorted") [.ref l]) Q E s := by
  apply Calls.call_function_entry kind_sorted plain_sorted entry_sorted (args_sorted1 _)
  unfold Builtin.«sorted»
  refine wpAny_bind (m := checkCount "sorted" 1 1 _) ?_
  apply wpAny_pure
  apply wpAny_bind
  refine collect_list g ?_ (by rw [sizeLine_eq]; omega)
  apply wpAny_bind
  refine wpAny_newList ?_ (by rw [sizeLine_eq]; omega)
  have z : ((s.heap.push (seqObj "list" #[] 0)).update s.heap.objs.size (Obj.mapSeq (· ++ vs.toArray))).objs.size = s.heap.objs.size + 1 := (Heap.size_update ..).trans (size_push' ..)
  have gD : (((s.heap.push (seqObj "list" #[] 0)).update s.heap.objs.size (Obj.mapSeq (· ++ vs.toArray))).push (seqObj "list" vs.toArray 0)).get? (s.heap.objs.size + 1) = some (seqObj "list" vs.toArray 0) := z ▸ Heap.get?_push_size _ rfl
  show wpAny _ _ _ _ _ ({ s with heap := ((s.heap.push (seqObj "list" #[] 0)).update s.heap.objs.size (Obj.mapSeq (· ++ vs.toArray))).push (seqObj "list" vs.toArray 0) } : Shared)
  rw [z]
  apply wpAny_bind
  apply wpAny_holding
  refine wpAny_call_entry slot_list_sort ⟨_, gD, rfl⟩ entry_list_sort ?_ (args_list_sort _)
  refine sort_few gD few ⟨_, rfl, ?_⟩
  exact wpAny_pure ⟨_, rfl, h⟩
end
section
variable {X : Cx}
theorem call_sorted1 : CallR X (.builtin "sorted") (fun xs H Q => ∃ (p : Addr) (ys : List V), xs = [.ref p] ∧ SqL X.K H p ys ∧ ys.length < 2 ∧ ∀ l, H l = none → Q (.ref l) (upd H l (.lst ys))) := by
  intro pins s σ H xs us Q I r h
  obtain ⟨p, ys, rfl, hp, h2, q⟩ := h
  obtain ⟨u, rfl, rx⟩ := vals1 r
  cases rx
  obtain ⟨its, rv, pl, hz⟩ := I.list hp
  have hl := rv.length
  refine sorted_few pl.isList (by omega) ?_
  obtain ⟨e, he⟩ := sortedAll_at s.heap its its.toArray
  have hn : s.heap.get? (s.heap.objs.size + 1) = none := Heap.get?_none_of_le (Nat.le_succ _)
  refine ⟨.ref _, _, I.laidN (t' := s.toks) (a := s.heap.objs.size + 1) (o := .lst ys) (fun b u _ e => sortedAll_old e) (fun m hm => ?_) hn ⟨hz, its, e, rv, he⟩, rfl, q _ (I.hok.none_of hn)⟩
  obtain ⟨o, es, ep, ho, r⟩ := hm
  exact ⟨o, es, ep, sortedAll_old ho, r⟩
end
section
variable {X : Cx}
theorem call_sortedI {k : Nat} (hr : Room k X.A) : CallR X (.builtin "sorted") (fun xs H Q => ∃ (p : Addr) (as : List Addr) (cs : List (List Int)), xs = [.ref p] ∧ SqL X.K H p (as.map V.ref) ∧ Tups H as cs ∧ (∀ c ∈ cs, c ≠ []) ∧ as.length < 64 ∧
    ∀ l bs ds, H l = none → Tups H bs ds → ds.Perm cs → ds.Pairwise (fun c d => HT.lexLt d c = false) → Q (.ref l) (upd H l (.lst (bs.map V.ref)))) := by
  intro pins s σ H xs us Q I r h
  obtain ⟨p, as, cs, rfl, hp, ht, hne, h64, q⟩ := h
  by_cases h2 : 2 ≤ as.length
  · exact call_sortedT hr pins s σ H _ us Q I r ⟨p, as, cs, rfl, hp, ht, hne, h2, h64, q⟩
  · have hl : as.length = cs.length := ht.length
    refine call_sorted1 pins s σ H _ us Q I r ⟨p, _, rfl, hp, by rw [List.length_map]; omega, fun l hn => q l as cs hn ht (List.Perm.refl _) ?_⟩
    match cs, hl with
    | [], _ => exact .nil
    | [_], _ => exact List.pairwise_singleton _ _
    | _ :: _ :: _, hl => simp only [List.length_cons] at hl; omega
end
end L2
namespace L2
open PySem PySem.Spec PyProof.Rows
abbrev cp (z : Str) : List Nat := z.cps.toList
section
variable {X : Cx} {tg : Expr}
end
section
variable {σ : St} {H : Hp} {ta tb : TE} {x y : Str} {a b : Bool}
end
end L2
namespace L2
open PySem PySem.Spec PyProof.Rows
section
variable {X : Cx}
def FX (X : Cx) (e : Expr) (c : St → Hp → Str → Prop) : Prop := ∀ (pins : List (Addr × Obj)) (σ : St) (H : Hp) (s : Shared) (y : Str) (Q : Value → Shared → Prop), Inv X pins σ H s → c σ H y →
  (∀ t s', Inv X pins σ H s' → y.length ≤ 6000 → Q (.str y t) s') → wpAny (model X.prog X.w) X.A (eval e X.env) Q X.xe s
inductive FXs (X : Cx) : List Expr → (St → Hp → List Str → Prop) → Prop where
  | nil : FXs X [] fun _ _ ys => ys = []
  | cons {e es c cs} : FX X e c → FXs X es cs → FXs X (e :: es) fun σ H ys => ∃ y r, ys = y :: r ∧ c σ H y ∧ cs σ H r
end
end L2
namespace L2
open PySem PySem.Spec PyProof.Rows
open AutoSeq1 (wpAny_loadPart')
section
variable {prog : Program} {w : World} {A : Around} {E : Value → Shared → Prop} {s : Shared}
end
section
variable {X : Cx}
end
end L2
namespace L2
open PySem PySem.Spec PyProof.Rows
inductive Cs (A : Around) (s : Shared) (op : CmpOp) : List Value → List Value → List (Bool × Bool) → Prop
  | nil : Cs A s op [] [] []
  | cons {v w : Value} {e b : Bool} {vs ws : List Value} {cs : List (Bool × Bool)} (he : SeqAt.EqAt A s v w e)
      (hb : e = false → ∀ (prog : Program) (w' : World) (E : Value → Shared → Prop) (Q : Value → Shared → Prop), Q (.bool b) s → wpAny (model prog w') A (richCompare op v w) Q E s) (t : Cs A s op vs ws cs) : Cs A s op (v :: vs) (w :: ws) ((e, b) :: cs)
def res : List (Bool × Bool) → Bool → Bool
  | [], z => z
  | (true, _) :: r, z => res r z
  | (false, b) :: _, _ => b
theorem Cs.len {A : Around} {s : Shared} {op : CmpOp} : ∀ {vs ws : List Value} {cs : List (Bool × Bool)}, Cs A s op vs ws cs → vs.length = ws.length
  | _, _, _, .nil => rfl
  | _, _, _, .cons _ _ t => by rw [List.length_cons, List.length_cons, t.len]
section
open PySem.SeqAt
open PySem.AutoSeq1 (wpAny_loadPart')
open PySem.MeetsSeq PySem.MeetsSeq2 PySem.MeetsSeq3
theorem tuple_lt_cs (l b : Addr) (items items2 : Array Value) (n n2 : Nat) (dd dd2 : Option Addr) (sl sl2 : Array (Option Value)) :
    Meets (Builtin.«tuple.__lt__» ⟨[.ref l, .ref b], []⟩)
      (fun A R s => s.heap.get? l = some { cls := .type "tuple", dict := dd, data := .seq items n, slots := sl } ∧ s.heap.get? b = some { cls := .type "tuple", dict := dd2, data := .seq items2 n2, slots := sl2 } ∧
        ∃ cs, Cs A.in1 s .Lt items.toList items2.toList cs ∧ R (.ok (.ret (.bool (res cs false)))) s) :=
  .of_wp fun prog w A R s h => by
    obtain ⟨hp, g, d, tk, os⟩ := s; obtain ⟨hl, hb, cs, hcs, h⟩ := h
    have f2 := AutoSeq1.sub_tuple_tuple
    have z1 : items.size = items2.size := by have := hcs.len; simpa using this
    wp_walk using wpAny_loadPart' hl, wpAny_loadPart' hb, wpAny_forIn_list _ (fun rest b s' => b.1 = none ∧ s' = ⟨hp, g, d, tk, os⟩ ∧ ∃ (vs ws : List Value) (cs : List (Bool × Bool)), rest = vs.zip ws ∧
      Cs A.in1 ⟨hp, g, d, tk, os⟩ .Lt vs ws cs ∧ R (.ok (.ret (.bool (res cs false)))) ⟨hp, g, d, tk, os⟩) _
    case turn =>
      rintro ⟨y, x⟩ rest b s' ⟨hb', rfl, vs, ws, cs, hz, hc, hR⟩
      cases hc with
      | nil => rw [List.zip_nil_left] at hz; cases hz
      | @cons v w' e b' vs ws cs he hri t =>
          rw [List.zip_cons_cons] at hz
          injection hz with hyx hrest
          injection hyx with hy hx
          subst hy hx
          refine wpAny_bind (he prog w _ _ ?_)
          cases e with
          | true =>
            wp_walk
            exact ⟨rfl, rfl, _, _, _, hrest, t, hR⟩
          | false =>
            have hri := hri rfl prog w
            wp_walk using hri
            exact ⟨_, rfl, by simpa [res] using hR⟩
    case fin =>
      rintro ⟨b1, b2⟩ s' ⟨hb', rfl, vs, ws, cs, hz, hc, hR⟩
      simp only at hb'
      subst hb'
      cases hc with
      | cons he hri t => rw [List.zip_cons_cons] at hz; cases hz
      | nil =>
        wp_walk
        exact ⟨_, rfl, by simpa [Builtin.Tuple.tupleCompareSizes, z1, res] using hR⟩
    case h =>
      exact ⟨rfl, rfl, items.toList, items2.toList, cs, rfl, hcs, h⟩
theorem tuple_le_cs (l b : Addr) (items items2 : Array Value) (n n2 : Nat) (dd dd2 : Option Addr) (sl sl2 : Array (Option Value)) :
    Meets (Builtin.«tuple.__le__» ⟨[.ref l, .ref b], []⟩)
      (fun A R s => s.heap.get? l = some { cls := .type "tuple", dict := dd, data := .seq items n, slots := sl } ∧ s.heap.get? b = some { cls := .type "tuple", dict := dd2, data := .seq items2 n2, slots := sl2 } ∧
        ∃ cs, Cs A.in1 s .LtE items.toList items2.toList cs ∧ R (.ok (.ret (.bool (res cs true)))) s) :=
  .of_wp fun prog w A R s h => by
    obtain ⟨hp, g, d, tk, os⟩ := s; obtain ⟨hl, hb, cs, hcs, h⟩ := h
    have f2 := AutoSeq1.sub_tuple_tuple
    have z1 : items.size = items2.size := by have := hcs.len; simpa using this
    wp_walk using wpAny_loadPart' hl, wpAny_loadPart' hb, wpAny_forIn_list _ (fun rest b s' => b.1 = none ∧ s' = ⟨hp, g, d, tk, os⟩ ∧ ∃ (vs ws : List Value) (cs : List (Bool × Bool)), rest = vs.zip ws ∧
      Cs A.in1 ⟨hp, g, d, tk, os⟩ .LtE vs ws cs ∧ R (.ok (.ret (.bool (res cs true)))) ⟨hp, g, d, tk, os⟩) _
    case turn =>
      rintro ⟨y, x⟩ rest b s' ⟨hb', rfl, vs, ws, cs, hz, hc, hR⟩
      cases hc with
      | nil => rw [List.zip_nil_left] at hz; cases hz
      | @cons v w' e b' vs ws cs he hri t =>
          rw [List.zip_cons_cons] at hz
          injection hz with hyx hrest
          injection hyx with hy hx
          subst hy hx
          refine wpAny_bind (he prog w _ _ ?_)
          cases e with
          | true =>
            wp_walk
            exact ⟨rfl, rfl, _, _, _, hrest, t, hR⟩
          | false =>
            have hri := hri rfl prog w
            wp_walk using hri
            exact ⟨_, rfl, by simpa [res] using hR⟩
    case fin =>
      rintro ⟨b1, b2⟩ s' ⟨hb', rfl, vs, ws, cs, hz, hc, hR⟩
      simp only at hb'
      subst hb'
      cases hc with
      | cons he hri t => rw [List.zip_cons_cons] at hz; cases hz
      | nil =>
        wp_walk
        exact ⟨_, rfl, by simpa [Builtin.Tuple.tupleCompareSizes, z1, res] using hR⟩
    case h =>
      exact ⟨rfl, rfl, items.toList, items2.toList, cs, rfl, hcs, h⟩
end
def Mrk (K : PySem.W.Frag) (H : Hp) (kd : Bool) (m : V) (l : List Int) : Prop :=
  (kd = false ∧ ∃ i, m = .int i ∧ l = [i]) ∨ (kd = true ∧ ∃ b i j, m = .ref b ∧ SqT K H b [.int i, .int j] ∧ l = [i, j])
def Pr (K : PySem.W.Frag) (H : Hp) (kd : Bool) (v : V) (k : List Int) : Prop := ∃ a p m l, v = .ref a ∧ SqT K H a [.int p, m] ∧ Mrk K H kd m l ∧ k = p :: l
theorem Mrk.same {K : PySem.W.Frag} {H H' : Hp} {kd : Bool} {m : V} {l : List Int} (h : Mrk K H kd m l) (k : ∀ b xs, SqT K H b xs → SqT K H' b xs) : Mrk K H' kd m l := by
  rcases h with h | ⟨h, b, i, j, e, q, r⟩
  · exact .inl h
  · exact .inr ⟨h, b, i, j, e, k _ _ q, r⟩
theorem Pr.same {K : PySem.W.Frag} {H H' : Hp} {kd : Bool} {m : V} {l : List Int} (h : Pr K H kd m l) (k : ∀ b xs, SqT K H b xs → SqT K H' b xs) : Pr K H' kd m l := by
  obtain ⟨a, p, m, l, e, q, r, z⟩ := h
  exact ⟨a, p, m, l, e, k _ _ q, r.same k, z⟩
section
variable {X : Cx}
theorem Mrk.cs {pins : List (Addr × Obj)} {σ : St} {H : Hp} {s : Shared} {kd : Bool} {x y : V} {u v : Value} {l1 l2 : List Int} {A : Around} (I : Inv X pins σ H s) (hu : A.units + 10 < cLine) (hx : Mrk X.K H kd x l1) (hy : Mrk X.K H kd y l2) (rx : RelV x u) (ry : RelV y v) :
    SeqAt.EqAt A s u v (decide (l1 = l2)) ∧ (∀ (prog : Program) (w' : World) (E : Value → Shared → Prop) (Q : Value → Shared → Prop), Q (.bool (HT.lexLt l1 l2)) s → wpAny (model prog w') A (richCompare .Lt u v) Q E s) := by
  rcases hx with ⟨rfl, i, rfl, rfl⟩ | ⟨rfl, b, i, j, rfl, hb, rfl⟩
  · rcases hy with ⟨_, i', rfl, rfl⟩ | ⟨h, _⟩
    · obtain ⟨t, rfl⟩ := rx
      obtain ⟨t', rfl⟩ := ry
      refine ⟨?_, fun prog w' E Q q => ?_⟩
      · have := SeqAt.EqAt.int_int (A := A) (s := s) i t i' t'
        have e : (i == i') = decide ([i] = [i']) := by simp [Bool.beq_eq_decide_eq]
        rw [← e]; exact this
      · have e : HT.lexLt [i] [i'] = decide (i < i') := by
          rw [HT.lexLt_cons]
          by_cases h : i = i'
          · subst h; simp [HT.lexLt_nil_nil]
          · rw [if_neg h]
        rw [e] at q
        exact HT.rcLt_int A s i t i' t' prog w' E Q q
    · cases h
  · rcases hy with ⟨h, _⟩ | ⟨_, b', i', j', rfl, hb', rfl⟩
    · cases h
    · cases rx
      cases ry
      refine ⟨?_, fun prog w' E Q q => ?_⟩
      · have d1 : Dp X.K H (.ref b) (.tuple [.int i, .int j]) := Dp.ints (ns := [i, j]) hb
        have d2 : Dp X.K H (.ref b') (.tuple [.int i', .int j']) := Dp.ints (ns := [i', j']) hb'
        obtain ⟨as, r1⟩ := d1.reads I rfl
        obtain ⟨bs, r2⟩ := d2.reads I rfl
        have hd := depth_tints [i, j]
        have := SeqAt.eqAt_reads _ _ A s _ _ as bs r1 r2 d1.lay d2.lay (Nat.lt_of_le_of_lt (Nat.add_le_add_left (Nat.le_trans (Nat.min_le_left _ _) hd) _) (by omega))
        rw [show PyData.eqv (.tuple [.int i, .int j]) (.tuple [.int i', .int j']) = decide ([i, j] = [i', j']) from eqv_tints [i, j] [i', j']] at this
        exact this
      · obtain ⟨its, r1, p1, _⟩ := I.tuple hb
        obtain ⟨its2, r2, p2, _⟩ := I.tuple hb'
        exact HT.lt_tupInts p1 p2 (intsAre_of (ns := [i, j]) r1) (intsAre_of (ns := [i', j']) r2) (by omega) q
theorem lex_pair (p q : Int) (l m : List Int) : HT.lexLt (p :: l) (q :: m) = res [(decide (p = q), decide (p < q)), (decide (l = m), HT.lexLt l m)] false := by
  rw [HT.lexLt_cons]
  by_cases h : p = q
  · rw [if_pos h, decide_eq_true h]
    by_cases h2 : l = m
    · subst h2; rw [decide_eq_true rfl, lex_irrefl]; rfl
    · rw [decide_eq_false h2]; rfl
  · rw [if_neg h, decide_eq_false h]; rfl
def rLtP (K : PySem.W.Frag) : R2 := fun x y H Q => ∃ kd k1 k2, Pr K H kd x k1 ∧ Pr K H kd y k2 ∧ Q (.bl (HT.lexLt k1 k2)) H
theorem op_ltP {k : Nat} (hr : Room k X.A) : OpR X (compareOp .Lt) (rLtP X.K) := by
  intro pins s σ H x y v u Q I rx ry h
  obtain ⟨kd, _, _, ⟨a, p, m, l, rfl, ha, hm, rfl⟩, ⟨a', p', m', l', rfl, ha', hm', rfl⟩, q⟩ := h
  have hu := hr.units
  cases rx
  cases ry
  obtain ⟨its, r1, p1, _⟩ := I.tuple ha
  obtain ⟨its2, r2, p2, _⟩ := I.tuple ha'
  obtain ⟨u1, u2, rfl, ⟨t1, rfl⟩, r12⟩ := vals2 r1
  obtain ⟨w1, w2, rfl, ⟨t2, rfl⟩, r22⟩ := vals2 r2
  obtain ⟨c1, c2⟩ := Mrk.cs I (A := X.A.in1) (by show X.A.units + 1 + 10 < cLine; omega) hm hm' r12 r22
  rw [lex_pair] at q
  obtain ⟨⟨cls, dd, data, sl⟩, ho, hc, n, hd⟩ := id p1
  obtain ⟨⟨cls2, dd2, data2, sl2⟩, ho2, hc2, n2, hd2⟩ := id p2
  simp only at hc hd hc2 hd2
  subst hc hd hc2 hd2
  refine richCompare_meets_room (op := .Lt) ⟨_, ho, rfl⟩ ⟨_, ho2, rfl⟩ PySem.F.slot_tuple_lt PySem.F.entry_tuple_lt (PySem.F.args_tuple_lt_2 _ _) (tuple_lt_cs a a' _ _ n n2 dd dd2 sl sl2)
    ⟨ho, ho2, [(decide (p = p'), decide (p < p')), (decide (l = l'), HT.lexLt l l')], ?_, ⟨(fun x => nomatch x), ⟨.bl _, H, I, rfl, q⟩⟩⟩ (by omega)
  refine .cons ?_ (fun _ prog w' E Q q => HT.rcLt_int _ s p t1 p' t2 prog w' E Q q) (.cons c1 (fun _ => c2) .nil)
  have := SeqAt.EqAt.int_int (A := X.A.in1) (s := s) p t1 p' t2
  rw [show (p == p') = decide (p = p') from by simp [Bool.beq_eq_decide_eq]] at this
  exact this
theorem nlt_int (i j : Int) : (!decide (j < i)) = decide (i ≤ j) := by
  by_cases h2 : j < i
  · rw [decide_eq_true h2, decide_eq_false (by omega)]; rfl
  · rw [decide_eq_false h2, decide_eq_true (by omega)]; rfl
theorem lex_le (p q : Int) (l m : List Int) : (!HT.lexLt (q :: m) (p :: l)) = res [(decide (p = q), decide (p ≤ q)), (decide (l = m), !HT.lexLt m l)] true := by
  rw [HT.lexLt_cons]
  by_cases h : q = p
  · rw [if_pos h, decide_eq_true h.symm]
    by_cases h2 : l = m
    · subst h2; rw [decide_eq_true rfl, lex_irrefl]; rfl
    · rw [decide_eq_false h2]; rfl
  · rw [if_neg h, decide_eq_false (Ne.symm h), nlt_int]; rfl
theorem eqInt (A : Around) (s : Shared) (p : Int) (t1 : Tok) (p' : Int) (t2 : Tok) : SeqAt.EqAt A s (.int p t1) (.int p' t2) (decide (p = p')) := by
  have := SeqAt.EqAt.int_int (A := A) (s := s) p t1 p' t2
  rw [show (p == p') = decide (p = p') from by simp [Bool.beq_eq_decide_eq]] at this
  exact this
theorem rcLe_int (A : Around) (s : Shared) (a : Int) (t : Tok) (c : Int) (u : Tok) (prog : Program) (w : World) (E : Value → Shared → Prop) (Q : Value → Shared → Prop) (h : Q (.bool (decide (a ≤ c))) s) :
    wpAny (model prog w) A (richCompare .LtE (.int a t) (.int c u)) Q E s :=
  (PyProof.Rows.le_int h : wpAny (model prog w) A (compareOp .LtE (.int a t) (.int c u)) Q E s)
theorem Mrk.le {pins : List (Addr × Obj)} {σ : St} {H : Hp} {s : Shared} {kd : Bool} {x y : V} {u v : Value} {l1 l2 : List Int} {A : Around} (I : Inv X pins σ H s) (hu : A.units + 10 < cLine) (hx : Mrk X.K H kd x l1) (hy : Mrk X.K H kd y l2) (rx : RelV x u) (ry : RelV y v) :
    ∀ (prog : Program) (w' : World) (E : Value → Shared → Prop) (Q : Value → Shared → Prop), Q (.bool (!HT.lexLt l2 l1)) s → wpAny (model prog w') A (richCompare .LtE u v) Q E s := by
  intro prog w' E Q q
  rcases hx with ⟨rfl, i, rfl, rfl⟩ | ⟨rfl, b, i, j, rfl, hb, rfl⟩
  · rcases hy with ⟨_, i', rfl, rfl⟩ | ⟨h, _⟩
    · obtain ⟨t, rfl⟩ := rx
      obtain ⟨t', rfl⟩ := ry
      have e : (!HT.lexLt [i'] [i]) = decide (i ≤ i') := by
        rw [HT.lexLt_cons]
        by_cases h : i' = i
        · subst h; simp [HT.lexLt_nil_nil]
        · rw [if_neg h, nlt_int]
      rw [e] at q
      exact rcLe_int A s i t i' t' prog w' E Q q
    · cases h
  · rcases hy with ⟨h, _⟩ | ⟨_, b', i', j', rfl, hb', rfl⟩
    · cases h
    · cases rx
      cases ry
      obtain ⟨its, r1, p1, _⟩ := I.tuple hb
      obtain ⟨its2, r2, p2, _⟩ := I.tuple hb'
      obtain ⟨u1, u2, rfl, ⟨t1, rfl⟩, t12, rfl⟩ := vals2 r1
      obtain ⟨w1, w2, rfl, ⟨t2, rfl⟩, t22, rfl⟩ := vals2 r2
      have e : (!HT.lexLt [i', j'] [i, j]) = res [(decide (i = i'), decide (i ≤ i')), (decide (j = j'), decide (j ≤ j'))] true := by
        rw [lex_le]
        have e1 : (!HT.lexLt [j'] [j]) = decide (j ≤ j') := by
          rw [HT.lexLt_cons]
          by_cases h : j' = j
          · subst h; simp [HT.lexLt_nil_nil]
          · rw [if_neg h, nlt_int]
        rw [e1]
        simp
      rw [e] at q
      obtain ⟨⟨cls, dd, data, sl⟩, ho, hc, n, hd⟩ := id p1
      obtain ⟨⟨cls2, dd2, data2, sl2⟩, ho2, hc2, n2, hd2⟩ := id p2
      simp only at hc hd hc2 hd2
      subst hc hd hc2 hd2
      exact richCompare_meets_room (op := .LtE) ⟨_, ho, rfl⟩ ⟨_, ho2, rfl⟩ PySem.F.slot_tuple_le PySem.F.entry_tuple_le (PySem.F.args_tuple_le_2 _ _) (tuple_le_cs b b' _ _ n n2 dd dd2 sl sl2)
        ⟨ho, ho2, [(decide (i = i'), decide (i ≤ i')), (decide (j = j'), decide (j ≤ j'))], .cons (eqInt _ s i t1 i' t2) (fun _ => rcLe_int _ s i t1 i' t2) (.cons (eqInt _ s j t12 j' t22) (fun _ => rcLe_int _ s j t12 j' t22) .nil), ⟨(fun x => nomatch x), q⟩⟩ (by omega)
def rLeP (K : PySem.W.Frag) : R2 := fun x y H Q => ∃ kd k1 k2, Pr K H kd x k1 ∧ Pr K H kd y k2 ∧ Q (.bl (!HT.lexLt k2 k1)) H
theorem op_leP {k : Nat} (hr : Room k X.A) : OpR X (compareOp .LtE) (rLeP X.K) := by
  intro pins s σ H x y v u Q I rx ry h
  obtain ⟨kd, _, _, ⟨a, p, m, l, rfl, ha, hm, rfl⟩, ⟨a', p', m', l', rfl, ha', hm', rfl⟩, q⟩ := h
  have hu := hr.units
  cases rx
  cases ry
  obtain ⟨its, r1, p1, _⟩ := I.tuple ha
  obtain ⟨its2, r2, p2, _⟩ := I.tuple ha'
  obtain ⟨u1, u2, rfl, ⟨t1, rfl⟩, r12⟩ := vals2 r1
  obtain ⟨w1, w2, rfl, ⟨t2, rfl⟩, r22⟩ := vals2 r2
  have c1 := (Mrk.cs I (A := X.A.in1) (by show X.A.units + 1 + 10 < cLine; omega) hm hm' r12 r22).1
  have c2 := Mrk.le I (A := X.A.in1) (by show X.A.units + 1 + 10 < cLine; omega) hm hm' r12 r22
  rw [lex_le] at q
  obtain ⟨⟨cls, dd, data, sl⟩, ho, hc, n, hd⟩ := id p1
  obtain ⟨⟨cls2, dd2, data2, sl2⟩, ho2, hc2, n2, hd2⟩ := id p2
  simp only at hc hd hc2 hd2
  subst hc hd hc2 hd2
  exact richCompare_meets_room (op := .LtE) ⟨_, ho, rfl⟩ ⟨_, ho2, rfl⟩ PySem.F.slot_tuple_le PySem.F.entry_tuple_le (PySem.F.args_tuple_le_2 _ _) (tuple_le_cs a a' _ _ n n2 dd dd2 sl sl2)
    ⟨ho, ho2, [(decide (p = p'), decide (p ≤ p')), (decide (l = l'), !HT.lexLt l' l)], .cons (eqInt _ s p t1 p' t2) (fun _ => rcLe_int _ s p t1 p' t2) (.cons c1 (fun _ => c2) .nil), ⟨(fun x => nomatch x), ⟨.bl _, H, I, rfl, q⟩⟩⟩ (by omega)
end
end L2
namespace L2
open PySem PySem.Spec PyProof.Rows
section
variable {prog : Program} {w : World} {A : Around} {E : Value → Shared → Prop} {s : Shared}
end
section
variable {X : Cx} {pins : List (Addr × Obj)} {σ : St} {H : Hp} {s : Shared} {a : Addr} {A : Around} {E : Value → Shared → Prop}
end
def tDNewE : TE := fun _ H Q => ∀ p, H p = none → Q (.ref p) (upd H p (.dK [])) ∨ Q (.ref p) (upd H p (.dT []))
theorem pe_dnewE {X : Cx} {pos : Pos} : PE X (.Dict [] [] pos) tDNewE := fun pins s σ H Q I h => by
  rcases h _ (I.hok.fresh (Nat.le_refl _)) with q | q
  · exact wpAny_Dict_empty ⟨.ref s.heap.objs.size, _, I.laid (a := s.heap.objs.size) (o := .dK []) (t' := s.toks) (fun _ _ q => Heap.get?_push_of_some _ q) (Nat.le_refl _) (dk_empty s.heap I.big), rfl, q⟩
  · exact wpAny_Dict_empty ⟨.ref s.heap.objs.size, _, I.laid (a := s.heap.objs.size) (o := .dT []) (t' := s.toks) (fun _ _ q => Heap.get?_push_of_some _ q) (Nat.le_refl _) (dt_empty s.heap I.big), rfl, q⟩
def eqOk : V → Bool
  | .flt _ => false
  | .byt _ => false
  | _ => true
theorem eq_relV {A : Around} {s : Shared} {v : V} {u u' : Value} (hf : eqOk v = true) (r : RelV v u) (r' : RelV v u') : SeqAt.EqAt A s u u' true := by
  cases v with
  | non => cases (show u = Value.none from r); cases (show u' = Value.none from r'); exact SeqAt.EqAt.same _
  | bl b => cases (show u = Value.bool b from r); cases (show u' = Value.bool b from r'); exact SeqAt.EqAt.same _
  | int i => obtain ⟨t, rfl⟩ := r; obtain ⟨t', rfl⟩ := r'; have h := SeqAt.EqAt.int_int (A := A) (s := s) i t i t'; rwa [beq_self_eq_true] at h
  | str x => obtain ⟨t, rfl⟩ := r; obtain ⟨t', rfl⟩ := r'; have h := SeqAt.EqAt.str_str (A := A) (s := s) x t x t'; simpa using h
  | byt b => exact absurd hf (by simp [eqOk])
  | flt b => exact absurd hf (by simp [eqOk])
  | ref a => cases (show u = Value.ref a from r); cases (show u' = Value.ref a from r'); exact SeqAt.EqAt.same _
  | ty n => cases (show u = Value.type n from r); cases (show u' = Value.type n from r'); exact SeqAt.EqAt.same _
def SmV (K : PySem.W.Frag) (H : Hp) (v v' : V) : Prop := (v = v' ∧ eqOk v = true) ∨ ∃ d e, Dp K H v d ∧ Dp K H v' e ∧ d.depth ≤ 60 ∧ PyData.eqv d e = true
theorem SmV.at {X : Cx} {pins : List (Addr × Obj)} {σ : St} {H : Hp} {s : Shared} {A : Around} {v v' : V} {u u' : Value} (I : Inv X pins σ H s) (h : SmV X.K H v v') (r : RelV v u) (r' : RelV v' u') (hu : A.units + 60 < cLine) : SeqAt.EqAt A s u u' true := by
  rcases h with ⟨rfl, h⟩ | ⟨d, e, h1, h2, hd, he⟩
  · exact eq_relV h r r'
  · obtain ⟨as, r1⟩ := h1.reads I r
    obtain ⟨bs, r2⟩ := h2.reads I r'
    have := SeqAt.eqAt_reads d e A s u u' as bs r1 r2 h1.lay h2.lay (by omega)
    rwa [he] at this
section
variable {prog : Program} {w : World} {K : Type} [DecidableEq K] {knd : HeapKind prog w K} {A : Around} {E : Value → Shared → Prop} {s : Shared}
end
section
variable {X : Cx}
end
section
variable {prog : Program} {w : World} {A : Around} {E : Value → Shared → Prop} {s : Shared} {I : Addr} {fp wr : List Addr} {G : Array GenState → Array GenState → Prop} {n : Nat} {P : Nat → Value → Prop} {St : Nat → Shared → Prop}
end
theorem Room.one {k : Nat} {A : Around} (r : Room k A) : A.units + 1 < cLine := by have := r.un; omega
theorem ev_dget {td ty : TE} {σ : St} {H : Hp} {a : Addr} {y v : V} (ha : Ev td σ H (.ref a)) (hb : Ev ty σ H y) (g : DGet H a y (some v)) : Ev (tDGet td ty) σ H v := fun _ q => ha _ (hb _ ⟨a, v, rfl, g, q⟩)
end L2
namespace L2
open PySem PySem.Spec PyProof.Rows
section
variable {X : Cx} {pins : List (Addr × Obj)} {σ : St} {H : Hp} {s : Shared} {d : Addr} {u : HO} {o : Obj}
theorem ObjOk.upd {P : Program} {w : World} {h : Heap} {b : Addr} {x v : HO} (ok : ObjOk P w H h b x) (nt : ∀ xs, H d ≠ some (.tup xs)) (no : ∀ y, H d ≠ some (.own y)) : ObjOk P w (L2.upd H d v) h b x :=
  ok.stay (fun _ _ _ q => q) (fun c q => by rw [upd_ne (fun z => by rw [z] at q; exact no _ q)]; exact q) fun c xs q => by rw [upd_ne (fun z => by rw [z] at q; exact nt _ q)]; exact q
theorem Inv.freeze (I : Inv X pins σ H s) (e : H d = some u) (mu : Mut (some u)) : ∃ o, Inv X pins σ (upd H d (.frz o u)) s ∧ s.heap.get? d = some o := by
  have ok := I.hok d u e
  obtain ⟨o, ho⟩ : ∃ o, s.heap.get? d = some o := by
    cases u with
    | lst xs => obtain ⟨_, _, _, _, z⟩ := ok; exact ⟨_, z⟩
    | dK kvs => obtain ⟨_, _, _, _, o, _, _, z, _⟩ := ok; exact ⟨o, z⟩
    | dT kvs => obtain ⟨_, _, _, _, o, _, _, z, _⟩ := ok; exact ⟨o, z⟩
    | set S n => obtain ⟨o, _, _, _, z, _⟩ := ok; exact ⟨o, z⟩
    | ins C dx fs => obtain ⟨_, _, _, z, _⟩ := ok; exact ⟨_, z⟩
    | ext φ => obtain ⟨_, z, _⟩ := ok; exact z
    | _ => exact mu.elim
  have mu' : Mut (H d) := by rw [e]; exact mu
  refine ⟨o, I.write (t' := s.toks) (h' := s.heap) (x := d) (e := d) (o := .frz o u) mu' (.inl rfl) (fun b v _ q => q) ⟨o, ho⟩ ⟨ho, ?_⟩, ho⟩
  exact ok.upd (fun xs z => by rw [z] at mu'; exact mu') (fun y z => by rw [z] at mu'; exact mu')
theorem Inv.thaw (I : Inv X pins σ H s) (e : H d = some (.frz o u)) (nb : ∀ o' u', X.H₀ d ≠ some (.frz o' u')) : Inv X pins σ (upd H d u) s := by
  have ne : ∀ b, H b = none → b ≠ d := fun b n z => by rw [z, e] at n; cases n
  have nt : ∀ xs, H d ≠ some (.tup xs) := fun xs z => by rw [e] at z; cases z
  have no : ∀ y, H d ≠ some (.own y) := fun y z => by rw [e] at z; cases z
  have B := I.base
  refine ⟨I.ok, I.os, I.bare, ⟨B.keep, B.slot, fun b v q n hx => ?_, B.there, fun b xs q => ?_, fun b v w q => ?_, fun b ps q => ?_⟩, I.loc, I.cell, ?_, fun x c q => ?_, fun p hp => ?_, fun b v q => ?_, I.len⟩
  · have := B.free b v q n hx
    rw [upd_ne (ne b this)]; exact this
  · have := B.tups b xs q
    rw [upd_ne (fun z => by rw [z] at this; exact nt _ this)]; exact this
  · have := B.frzs b v w q
    rw [upd_ne (fun z => by rw [z] at q; exact nb _ _ q)]; exact this
  · obtain ⟨more, this⟩ := B.tbls b ps q
    exact ⟨more, by rw [upd_ne (fun z => by rw [z, e] at this; cases this)]; exact this⟩
  · rw [upd_ne (ne _ I.free)]; exact I.free
  · rw [upd_ne (ne _ (I.freeC x c q))]; exact I.freeC x c q
  · obtain ⟨h1, h2, h3⟩ := I.pin p hp
    exact ⟨h1, by rw [upd_ne (ne _ h2)]; exact h2, h3⟩
  · by_cases hb : b = d
    · subst hb
      rw [upd_same] at q; cases q
      obtain ⟨_, z⟩ := I.hok b _ e
      exact z.upd nt no
    · rw [upd_ne hb] at q
      exact (I.hok b v q).upd nt no
end
def frzD (D : Ends) (d : Addr) (o : Obj) (u : HO) : Ends :=
  ⟨fun σ1 H1 => H1 d = some (.frz o u) ∧ D.nx σ1 (upd H1 d u), fun v H1 => H1 d = some (.frz o u) ∧ D.rt v (upd H1 d u), fun σ1 H1 => H1 d = some (.frz o u) ∧ D.bk σ1 (upd H1 d u), fun σ1 H1 => H1 d = some (.frz o u) ∧ D.ct σ1 (upd H1 d u)⟩
def tFrz (t : TS) : TS := fun D σ H => ∃ d u, H d = some u ∧ Mut (some u) ∧ ∀ o, t (frzD D d o u) σ (upd H d (.frz o u))
theorem ps_frz {X : Cx} {a : Stmt} {t : TS} (h : PS X a t) : PS X a (tFrz t) := by
  intro pins s σ H D I ht
  obtain ⟨d, u, e, mu, q⟩ := ht
  have nb : ∀ o' u', X.H₀ d ≠ some (.frz o' u') := fun o' u' z => by
    have := I.base.frzs d o' u' z
    rw [e] at this; cases this; exact mu
  obtain ⟨o, I1, _⟩ := I.freeze e mu
  refine thn (h pins s σ _ _ I1 (q o)) fun f s' hf => ?_
  cases f with
  | next => obtain ⟨σ', H', I', e', k⟩ := hf; exact ⟨σ', _, I'.thaw e' nb, k⟩
  | brk => obtain ⟨σ', H', I', e', k⟩ := hf; exact ⟨σ', _, I'.thaw e' nb, k⟩
  | cont => obtain ⟨σ', H', I', e', k⟩ := hf; exact ⟨σ', _, I'.thaw e' nb, k⟩
  | ret v => obtain ⟨x, σ', H', I', r, e', k⟩ := hf; exact ⟨x, σ', _, I'.thaw e' nb, r, k⟩
def szU : HO → Nat
  | .dK kvs => kvs.length
  | .dT kvs => kvs.length
  | _ => 0
def DictU : HO → Prop
  | .dK _ => True
  | .dT _ => True
  | _ => False
def KeyAt (H : Hp) : HO → Nat → V → V → Prop
  | .dK kvs, i, x, v => ∃ k, kvs[i]? = some (k, v) ∧ x = kV k
  | .dT kvs, i, x, v => ∃ k b, kvs[i]? = some (k, v) ∧ x = .ref b ∧ H b = some (.tup (k.map kV))
  | _, _, _, _ => False
theorem paired_get {α β : Type} {R : α → β → Prop} : ∀ {xs : List α} {ys : List β} (_ : Paired R xs ys) (i : Nat) (hi : i < ys.length), ∃ x, xs[i]? = some x ∧ R x ys[i]
  | _, _, .nil, i, hi => absurd hi (Nat.not_lt_zero _)
  | _, _, .cons r _, 0, _ => ⟨_, rfl, r⟩
  | _, _, .cons _ t, i + 1, hi => by
    obtain ⟨x, h1, h2⟩ := paired_get t i (by simpa using hi)
    exact ⟨x, by simpa using h1, by simpa using h2⟩
theorem raw_of {P : Program} {w : World} {H : Hp} {h : Heap} {d : Addr} {o : Obj} {u : HO} (ok : HOk P w H h) (e : H d = some (.frz o u)) (hu : DictU u) : (d == sysModules) = false ∧ h.get? d = some o ∧ o.ExactDict ∧
    ∃ es ep, o.data = .dict es ep ∧ es.size = szU u ∧ ∀ i (hi : i < es.size), ∃ x v, KeyAt H u i x v ∧ RelV x es[i].key ∧ RelV v es[i].val := by
  obtain ⟨ho, k⟩ := ok d _ e
  cases u with
  | dK kvs =>
    obtain ⟨z, hs, vs, rel, o', es, ep, h1, h2, h3, h4, h5, h6⟩ := k
    rw [ho] at h1; cases h1
    have hl : es.size = vs.length := by rw [← h5.length]; simp
    refine ⟨hs, ho, h2, es, ep, h3, by rw [hl, ← rel.length]; rfl, fun i hi => ?_⟩
    obtain ⟨p, hp, e1, r1⟩ := paired_get rel i (by omega)
    obtain ⟨q1, q2⟩ := h5.get? (i := i) (e := es[i]) (k := vs[i].1) (v := vs[i].2) (by simp [hi]) (by rw [List.getElem?_eq_getElem])
    refine ⟨kV p.1, p.2, ⟨p.1, hp, rfl⟩, ?_, by rw [q2]; exact r1⟩
    rw [← e1] at q1
    rcases keyIs_shape q1 with ⟨j, t, ek, ev⟩ | ⟨j, t, ek, ev⟩ <;> rw [ek, ev] <;> exact ⟨t, rfl⟩
  | dT kvs =>
    obtain ⟨z, hs, xs, rel, o', es, ep, h1, h2, h3, h4, h5⟩ := k
    rw [ho] at h1; cases h1
    have hl : es.size = xs.length := size_of_entries h4
    refine ⟨hs, ho, h2, es, ep, h3, by rw [hl, ← Paired.length rel]; rfl, fun i hi => ?_⟩
    obtain ⟨p, hp, e1, e2, r1⟩ := paired_get rel i (by omega)
    have ee : es[i] = entryOfKey (tupleKind (mixKind P w)) xs[i] := by
      have := entry_at h4 i
      rw [List.getElem?_eq_getElem (by omega), Array.getElem?_eq_getElem hi] at this
      exact Option.some.inj this
    refine ⟨.ref xs[i].2.1, p.2, ⟨p.1, _, hp, rfl, e2⟩, ?_, ?_⟩
    · rw [ee]; rfl
    · rw [ee]; exact r1
  | _ => exact hu.elim
section
variable {prog : Program} {w : World} {A : Around} {E : Value → Shared → Prop} {s : Shared} {d it : Addr} {o : Obj} {es : Array DictEntry} {i ep : Nat}
theorem rk_iter {Q : Value → Shared → Prop} (hd : (d == sysModules) = false) (ho : s.heap.get? d = some o) (hc : o.ExactDict) (hdat : o.data = .dict es ep)
    (hQ : Q (.ref s.heap.objs.size) { s with heap := s.heap.push { cls := .type "dict_keyiterator", data := .fields #[.ref d, .int 0 0, .int es.size 0, .int ep 0] } }) : wpAny (model prog w) A (pyIter (.ref d)) Q E s := by
  have hT : s.TypeIs (.ref d) "dict" := ⟨o, ho, hc.1⟩
  refine wpAny_pyIter_slot hT F.slot_dict_iter (wpAny_call_entry F.slot_dict_iter hT F.entry_dict_iter ?_ (F.args_dict_iter_1 _))
  unfold Builtin.«dict.__iter__» Builtin.Dict.dictSlotNone
  refine wpAny_bind (wpAny_bind (wpAny_notOrdered_dict hT ?_))
  show wpAny _ _ (pure (Value.ref d)) _ _ s
  refine wpAny_pure ?_
  show wpAny _ _ (Builtin.Dict.showsAll d >>= _) _ _ s
  unfold Builtin.Dict.showsAll
  rw [if_neg (by rw [hd]; exact Bool.false_ne_true)]
  refine wpAny_bind (wpAny_pure (wpAny_bind (wpAny_dictEntries ho hdat (wpAny_bind (wpAny_dictEpoch ho hdat ?_)))))
  refine wpAny_bind (wpAny_newObj_type (wpAny_pure ⟨_, rfl, "dict_keyiterator", _, ⟨_, Heap.get?_push_size _ rfl, rfl⟩, F.slot_dict_keyiterator_next.lookup, ?_⟩))
  simpa [rawInt] using hQ
theorem rk_next {Q : Option Value → Shared → Prop} (hit : s.heap.IsKeyIter it d i es.size ep) (hod : s.heap.get? d = some o) (hdd : o.data = .dict es ep) (hi : i < es.size)
    (hQ : ∀ h', h'.IsKeyIter it d (i + 1) es.size ep → Heap.SameBut it s.heap h' → Q (some es[i].key) { s with heap := h' }) : wpAny (model prog w) A (pyNext (.ref it)) Q E s := by
  obtain ⟨oi, ho, hc, hd⟩ := id hit
  unfold pyNext
  refine wpAny_bind (wpAny_attempt (wpAny_callSpecial?_slot (name := Str.ofString "__next__") hit.typeIs F.slot_dict_keyiterator_next
    (wpAny_call_entry F.slot_dict_keyiterator_next hit.typeIs F.entry_dict_keyiterator_next ?_ (F.args_dict_keyiterator_next_1 _))))
  refine wpAny_bind (wpAny_pure (wpAny_bind (wpAny_bind ?_)))
  first | refine wpAny_bind (wpAny_typeNameOfWhole_keyiter hit.typeIs (wpAny_pure ?_)) | refine wpAny_bind (wpAny_typeNameOf_keyiter hit.typeIs (wpAny_pure ?_))
  refine wpAny_bind (wpAny_fieldsOf ho hd ?_)
  simp only [show Builtin.Dict_items.ownsTuple "dict_keyiterator" = false by decide, Bool.false_eq_true, if_false]
  show wpAny _ _ (if (Value.ref d == Value.none) = true then _ else _) _ _ s
  rw [if_neg (show ¬ ((Value.ref d == Value.none) = true) from Bool.false_ne_true)]
  refine wpAny_bind (wpAny_pure (wpAny_bind (wpAny_dictEntries hod hdd ?_)))
  rw [if_neg (by simp)]
  refine wpAny_bind (wpAny_pure (wpAny_bind (wpAny_dictEpoch hod hdd ?_)))
  rw [if_neg (by simp)]
  refine wpAny_pure ?_
  simp only [show ¬ ((i : Int) < 0) from by omega, if_false, Int.toNat_natCast, Array.getElem?_eq_getElem hi]
  refine wpAny_bind ?_
  first | refine wpAny_bind (wpAny_typeNameOfWhole_keyiter hit.typeIs (wpAny_pure ?_)) | refine wpAny_bind (wpAny_typeNameOf_keyiter hit.typeIs (wpAny_pure ?_))
  refine wpAny_bind (wpAny_isOneOf_keyiter hit.typeIs ?_)
  show wpAny _ _ (setField (.ref it) 1 (rawInt ((i : Int) + 1)) >>= _) _ _ s
  refine wpAny_bind (wpAny_setField ho hd (by simp) ?_)
  have new : (s.heap.update it (Obj.mapFields (·.setIfInBounds 1 (rawInt ((i : Int) + 1))))).IsKeyIter it d (i + 1) es.size ep :=
    ⟨_, Heap.get?_update_self _ ho (Obj.isFreed_of_fields (Obj.data_mapFields hd _)), (Obj.cls_mapFields ..).trans hc, by rw [Obj.data_mapFields hd]; simp [rawInt]⟩
  refine wpAny_bind (wpAny_holding (wpAny_bind (wpAny_isOneOf_keyiter (s := { s with heap := s.heap.update it (Obj.mapFields (·.setIfInBounds 1 (rawInt ((i : Int) + 1)))) }) new.typeIs ?_)))
  show wpAny _ _ (pure es[i].key) _ _ _
  exact wpAny_pure (wpAny_pure ⟨_, rfl, wpAny_pure (hQ _ new (Heap.SameBut.update ..))⟩)
theorem rk_end {Q : Option Value → Shared → Prop} (hh : A.handled = none) (hit : s.heap.IsKeyIter it d i es.size ep) (hod : s.heap.get? d = some o) (hdd : o.data = .dict es ep) (hi : es.size ≤ i)
    (hQ : ∀ h', Heap.ExtBut it s.heap h' → Q none { s with heap := h' }) : wpAny (model prog w) A (pyNext (.ref it)) Q E s := by
  obtain ⟨oi, ho, hc, hd⟩ := id hit
  unfold pyNext
  refine wpAny_bind (wpAny_attempt (wpAny_callSpecial?_slot (name := Str.ofString "__next__") hit.typeIs F.slot_dict_keyiterator_next
    (wpAny_call_entry F.slot_dict_keyiterator_next hit.typeIs F.entry_dict_keyiterator_next ?_ (F.args_dict_keyiterator_next_1 _))))
  refine wpAny_bind (wpAny_pure (wpAny_bind (wpAny_bind ?_)))
  first | refine wpAny_bind (wpAny_typeNameOfWhole_keyiter hit.typeIs (wpAny_pure ?_)) | refine wpAny_bind (wpAny_typeNameOf_keyiter hit.typeIs (wpAny_pure ?_))
  refine wpAny_bind (wpAny_fieldsOf ho hd ?_)
  simp only [show Builtin.Dict_items.ownsTuple "dict_keyiterator" = false by decide, Bool.false_eq_true, if_false]
  show wpAny _ _ (if (Value.ref d == Value.none) = true then _ else _) _ _ s
  rw [if_neg (show ¬ ((Value.ref d == Value.none) = true) from Bool.false_ne_true)]
  refine wpAny_bind (wpAny_pure (wpAny_bind (wpAny_dictEntries hod hdd ?_)))
  rw [if_neg (by simp)]
  refine wpAny_bind (wpAny_pure (wpAny_bind (wpAny_dictEpoch hod hdd ?_)))
  rw [if_neg (by simp)]
  refine wpAny_pure ?_
  simp only [show ¬ ((i : Int) < 0) from by omega, if_false, Int.toNat_natCast, Array.getElem?_eq_none hi]
  refine wpAny_bind ?_
  first | refine wpAny_bind (wpAny_typeNameOfWhole_keyiter hit.typeIs (wpAny_pure ?_)) | refine wpAny_bind (wpAny_typeNameOf_keyiter hit.typeIs (wpAny_pure ?_))
  show wpAny _ _ (setField (.ref it) 0 .none >>= _) _ _ s
  refine wpAny_bind (wpAny_setField ho hd (by simp) ?_)
  show wpAny _ _ (newExc (.type "StopIteration") [] >>= _) _ _ _
  refine wpAny_bind ?_
  simp only [newExc, newTuple]
  refine wpAny_bind (wpAny_newObj_type ?_ (by size_fits))
  refine wpAny_bind (m := firstArgMember _ _) (wpAny_of_eq (a := Value.none) (by first | rfl | (simp only [firstArgMember]; rfl)) (wpAny_newObj_type ?_ (by size_fits)))
  simp only [raiseNew]
  refine wpAny_bind (wpAny_handled ?_)
  rw [show A.in1.handled = none from hh]
  refine wpAny_bind (wpAny_pure (wpAny_throw ?_))
  refine wpAny_bind (wpAny_isInstance (T := "StopIteration") (b := true) ⟨_, Heap.get?_push_size _ rfl, rfl⟩ isSubtype_stop ?_)
  exact wpAny_pure (hQ _ (((Heap.SameBut.update ..).extBut.push _).push _))
end
def Itk (d : Addr) (o : Obj) (u : HO) : It :=
  ⟨fun i H => H d = some (.frz o u) ∧ i < szU u, fun i H x H' => H' = H ∧ ∃ v, KeyAt H u i x v, fun i H => H d = some (.frz o u) ∧ szU u ≤ i⟩
theorem keyiter_at {h h' : Heap} {it d : Addr} {i n ep : Nat} (x : h.IsKeyIter it d i n ep) (k : ∀ o, h.get? it = some o → h'.get? it = some o) : h'.IsKeyIter it d i n ep := let ⟨o, ho, r⟩ := x; ⟨o, k _ ho, r⟩
theorem turn_keys {P : Program} {w : World} {K : PySem.W.Frag} {tg : Expr} (d it : Addr) (o : Obj) (u : HO) (hu : DictU u) (es : Array DictEntry) (ep : Nat) (hd : o.data = .dict es ep) :
    Turn P w K tg (Itk d o u) [it] it (fun i h => h.IsKeyIter it d i es.size ep) where
  mem := by simp
  obj := fun i h st b hb => by
    rw [List.mem_singleton.mp hb]
    obtain ⟨oi, e, c, q⟩ := st
    exact ⟨oi, e, fun v z => by rw [q] at z; cases z⟩
  keep := fun i h h' st k => keyiter_at st fun oi e => k it (by simp) oi e
  item := by
    intro X hP hw hK hc i pins s σ H E I hf st hg
    subst hP hw hK
    obtain ⟨hH, hi⟩ := hg
    obtain ⟨_, hod, _, es', ep', hd', hz, hall⟩ := raw_of I.hok hH hu
    rw [hd] at hd'; cases hd'
    obtain ⟨f0, f1, f2, f3, f4, f5⟩ := hf it (by simp)
    have hi' : i < es.size := by omega
    obtain ⟨x, v, hk, r1, r2⟩ := hall i hi'
    refine rk_next st hod hd hi' fun h' st' sb => ?_
    have I1 : Inv X pins σ H { s with heap := h' } := I.turned (t' := s.toks) (fun b ob hb e => (sb.2 b hb).trans e) f0 f1 f3 f4 f5
    obtain ⟨oi, e, c, q⟩ := id st'
    exact ⟨_, rfl, go_of (s := { s with heap := h' }) e c q (by decide) ⟨x, H, I1, r1, ⟨rfl, v, hk⟩, st', fun b hb => (hf b hb).1⟩⟩
  done := by
    intro X hP hw hK hc i pins s σ H E I hf st hg
    subst hP hw hK
    obtain ⟨hH, hi⟩ := hg
    obtain ⟨_, hod, _, es', ep', hd', hz, hall⟩ := raw_of I.hok hH hu
    rw [hd] at hd'; cases hd'
    obtain ⟨f0, f1, f2, f3, f4, f5⟩ := hf it (by simp)
    exact rk_end (I.ok.hd hc) st hod hd (by omega) fun h' eb => ⟨rfl, I.turned (t' := s.toks) (fun b ob hb e => eb b ob hb e) f0 f1 f3 f4 f5⟩
  self := fun A i s Q E st h => by
    refine wpAny_pyIter_slot st.typeIs F.slot_dict_keyiterator_iter (wpAny_call_entry F.slot_dict_keyiterator_iter st.typeIs F.entry_dict_keyiterator_iter ?_ (F.args_dict_keyiterator_iter_1 _))
    show wpAny _ _ (ret (.ref it)) _ _ s
    exact wpAny_pure ⟨_, rfl, "dict_keyiterator", _, st.typeIs, F.slot_dict_keyiterator_next.lookup, h⟩
def iKeys (te : TE) : TI := fun σ H R => te σ H fun x H1 => ∃ d o u, x = .ref d ∧ H1 d = some (.frz o u) ∧ DictU u ∧ R (Itk d o u) H1
theorem pi_keys {X : Cx} {tg e : Expr} {te : TE} (he : PE X e te) : PI X tg e (iKeys te) := by
  intro pins s σ H R I h
  refine thn (he pins s σ H _ I h) fun v s1 ⟨x, H1, I1, r, d, o, u, ex, hd, hu, q⟩ => ?_
  subst ex
  cases (show v = Value.ref d from r)
  obtain ⟨hS, hod, hc, es, ep, hdd, hz, _⟩ := raw_of I1.hok hd hu
  refine rk_iter hS hod hc hdd ?_
  have kk : ∀ b ob, s1.heap.get? b = some ob → (s1.heap.push { cls := .type "dict_keyiterator", data := .fields #[.ref d, .int 0 0, .int es.size 0, .int ep 0] }).get? b = some ob := fun b ob z => Heap.get?_push_of_some _ z
  refine ⟨s1.heap.objs.size, [s1.heap.objs.size], _, _, H1, rfl, I1.kept (t' := s1.toks) kk, turn_keys d _ o u hu es ep hdd, ⟨_, Heap.get?_push_size _ rfl, rfl, rfl⟩, fun b hb => ?_, q⟩
  rw [List.mem_singleton.mp hb]
  exact I1.fpOk (Nat.le_refl _) (I1.hok.fresh (Nat.le_refl _))
section
variable {prog : Program} {w : World} {A : Around} {E : Value → Shared → Prop} {s : Shared} {d it v : Addr} {o : Obj} {es : Array DictEntry} {i ep : Nat} {ok ov : Value}
end
theorem for_keys {d : Addr} {o : Obj} {u : HO} {g : TG} {tb : TS} {D : Ends} {σ : St} {H : Hp} (Pv : Nat → St → Hp → Prop) (h0 : Pv 0 σ H) (hl : ∀ i σ H, i ≤ szU u → Pv i σ H → H d = some (.frz o u))
    (hs : ∀ i x v σ H, KeyAt H u i x v → i < szU u → Pv i σ H → g x σ H fun σ2 H2 => tb { D with nx := Pv (i + 1), ct := Pv (i + 1), bk := D.nx } σ2 H2) (hd : ∀ σ H, Pv (szU u) σ H → D.nx σ H) :
    ∃ W : Nat → Nat → St → Hp → Prop, (∃ m, W 0 m σ H) ∧ ∀ i m σ H, W i m σ H →
      ((Itk d o u).stop i H ∧ D.nx σ H) ∨ ((Itk d o u).go i H ∧ ∃ N : St → Hp → Prop, (∀ σ' H', N σ' H' → ∃ m', m' < m ∧ W (i + 1) m' σ' H') ∧ ∀ x H', (Itk d o u).yld i H x H' → g x σ H' fun σ2 H2 => tb { D with nx := N, ct := N, bk := D.nx } σ2 H2) := by
  refine ⟨fun i m σ H => m = szU u - i ∧ i ≤ szU u ∧ Pv i σ H, ⟨szU u, by simp, Nat.zero_le _, h0⟩, ?_⟩
  rintro i m σ H ⟨rfl, hi, p⟩
  have q := hl i σ H hi p
  by_cases hlt : i < szU u
  · refine .inr ⟨⟨q, hlt⟩, Pv (i + 1), fun σ' H' p' => ⟨szU u - (i + 1), by omega, rfl, hlt, p'⟩, fun x H' y => ?_⟩
    obtain ⟨e, v, k⟩ := y
    subst e
    exact hs i x v σ _ k hlt p
  · have e : i = szU u := by omega
    subst e
    exact .inl ⟨⟨q, Nat.le_refl _⟩, hd σ H p⟩
end L2
namespace L2
open PySem PySem.Spec PyProof.Rows
section
variable {X : Cx}
end
section
variable {prog : Program} {w : World} {A : Around} {E : Value → Shared → Prop} {s : Shared} {d : Addr} {o : Obj} {es : Array DictEntry} {ep : Nat}
theorem len_raw {Q : Value → Shared → Prop} (hd : (d == sysModules) = false) (ho : s.heap.get? d = some o) (hc : o.ExactDict) (hdat : o.data = .dict es ep) (hz : es.size ≤ sizeLine)
    (h : Q (.int es.size (s.toks + 1)) { s with toks := s.toks + 1 + 1 }) : wpAny (model prog w) A (call (.builtin "len") [.ref d]) Q E s := by
  have hT : s.TypeIs (.ref d) "dict" := ⟨o, ho, hc.1⟩
  have hsl : sizeLine = 2 ^ 24 := rfl
  refine PyProof.Rows.call_len_slot (n := es.size) hT F.slot_dict_len (fun Q' hq => wpAny_call_entry F.slot_dict_len hT F.entry_dict_len ?_ (F.args_dict_len_1 _)) (by omega) (by omega) h
  show wpAny _ _ (dictSize d >>= _) _ _ s
  unfold dictSize
  refine wpAny_bind (wpAny_bind (wpAny_dictEntries ho hdat (wpAny_pure ?_)))
  show wpAny _ _ (Builtin.Dict.pendingCount d >>= _) _ _ s
  refine wpAny_bind (wpAny_pendingCount_other hd (wpAny_ret_mkInt ?_))
  simpa using hq
end
section
variable {X : Cx}
theorem call_lenDT : CallR X (.builtin "len") (fun xs H Q => ∃ a kvs, xs = [V.ref a] ∧ Rd H a (.dT kvs) ∧ Q (.int kvs.length) H) := by
  intro pins s σ H xs us Q I r h
  obtain ⟨a, kvs, rfl, ha, q⟩ := h
  obtain ⟨u, rfl, ru⟩ := vals1 r
  cases ru
  obtain ⟨z, hd, xs, rel, o, es, ep, ho, hc, hdat, he, _⟩ := dt_rd I.hok ha
  have e1 := size_of_entries he
  have e2 := Paired.length rel
  refine len_raw hd ho hc hdat (by omega) ⟨.int kvs.length, H, I.tok _, ⟨s.toks + 1, ?_⟩, q⟩
  rw [e1, e2]
end
section
variable {X : Cx}
end
end L2
namespace L2
open PySem PySem.Spec PyProof.Rows
def hAt (es : Array (Int × Value)) (i : Nat) : Int := (es[i]?.map (·.1)).getD 0
def addT (t : SetTable) (es : Array (Int × Value)) (h : Int) (x : Value) : Option (SetTable × Array (Int × Value)) :=
  if t.gaveWay = true then none else
  match t.probe (hAt es) h (t.probeStart h) with
  | some (.empty j none) => if (t.put j).1.tooFull = true then none else if (t.put j).1.fits (SetTable.insertAt es (t.put j).2 (h, x)).size = true then some ((t.put j).1, SetTable.insertAt es (t.put j).2 (h, x)) else none
  | _ => none
section
variable {prog : Program} {w : World} {A : Around} {E : Value → Shared → Prop} {s : Shared}
theorem hbv_ints {b : Addr} {o : Obj} {items : Array Value} {n : Nat} {Q : Bool → Shared → Prop} (ho : s.heap.get? b = some o) (hc : o.cls = .type "tuple") (hd : o.data = .seq items n) (hi : ∀ v ∈ items, ∃ i t, v = Value.int i t) (h : Q true s) :
    wpAny (model prog w) A (hashByValue 8 (.ref b)) Q E s := by
  have hT : s.TypeIs (.ref b) "tuple" := ⟨o, ho, hc⟩
  unfold hashByValue
  refine wpAny_bind (wpAny_specialOf hT F.slot_tuple_hash.lookup ?_)
  dsimp only
  refine wpAny_bind ?_
  unfold seqItems?
  refine wpAny_bind (wpAny_load ho ?_)
  rw [hd]
  refine wpAny_pure (wpAny_bind ?_)
  show wpAny _ _ (forIn items _ _) _ _ _
  rw [← Array.forIn_toList]
  refine wpAny_forIn_list _ (fun rest q s' => s' = s ∧ q = (none, ()) ∧ ∀ v ∈ rest, ∃ i t, v = Value.int i t) _ ?_ ?_ _ _ ⟨rfl, rfl, fun v hv => hi v (Array.mem_toList_iff.mp hv)⟩
  · rintro v rest q s' ⟨rfl, rfl, hr⟩
    obtain ⟨i, t, rfl⟩ := hr v List.mem_cons_self
    have e : hashByValue 7 (.int i t) = pure true := by simp [hashByValue]
    rw [e]
    exact wpAny_bind (wpAny_pure (by
      show wpAny _ _ (if (!true) = true then _ else _) _ _ _
      rw [if_neg (by decide)]
      exact wpAny_pure ⟨rfl, rfl, fun x hx => hr x (List.mem_cons_of_mem _ hx)⟩))
  · rintro q s' ⟨rfl, rfl, _⟩
    exact wpAny_pure h
theorem setAdd_free {K : Type} [DecidableEq K] {knd : HeapKind prog w K} {a b : Addr} {k : K} {o : Obj} {es es' : Array (Int × Value)} {ep : Nat} {t t' : SetTable} {Q : Bool → Shared → Prop} (hr : knd.room A) (hk : knd.is s.heap k b) (ho : s.heap.get? a = some o) (hd : o.data = .set es ep t) (hf : t.fits es.size = true) (hz : es'.size < 1000)
    (hv : ∀ (tk : Nat) (Q' : Bool → Shared → Prop), Q' true { s with toks := tk } → wpAny (model prog w) A (hashByValue 8 (.ref b)) Q' E { s with toks := tk })
    (e : addT t es (knd.hash k) (.ref b) = some (t', es'))
    (h : ∀ h', Heap.SameBut a s.heap h' → h'.get? a = some { o with data := .set es' (ep + 1) t' } → Q true { s with heap := h', toks := s.toks + knd.draws k }) :
    wpAny (model prog w) A (setAdd a (.ref b)) Q E s := by
  unfold addT at e
  split at e
  · cases e
  · rename_i hg
    split at e
    · rename_i j hp
      split at e
      · cases e
      · rename_i hfull
        split at e
        · rename_i hfit
          injection e with e
          injection e with e1 e2
          unfold setAdd
          refine wpAny_holding (wpAny_bind (knd.pyHash hr hk ?_))
          unfold setAddHashed
          refine wpAny_holding ?_
          show wpAny _ _ (setAddHashedIn a (.ref b) (knd.hash k) (99999 + 1)) _ _ _
          unfold setAddHashedIn
          refine wpAny_bind (wpAny_setState_of (s := { s with toks := s.toks + knd.draws k }) ho hd hf ?_)
          dsimp only
          rw [if_neg (show ¬ byScan (.ref b) es = true by simp [byScan, Value.scannable])]
          refine wpAny_bind ?_
          unfold setSearch
          show wpAny _ _ (setSearchFrom a (.ref b) (knd.hash k) true (99999 + 1) none) _ _ _
          unfold setSearchFrom
          refine wpAny_bind (wpAny_setState_of (s := { s with toks := s.toks + knd.draws k }) ho hd hf ?_)
          dsimp only
          rw [if_neg hg]
          split
          · rename_i met hm
            have em : met = .empty j none := Option.some.inj (hm.symm.trans hp)
            subst em
            dsimp only
            refine wpAny_pure ?_
            dsimp only
            refine wpAny_bind (wpAny_setState_of (s := { s with toks := s.toks + knd.draws k }) ho hd hf ?_)
            dsimp only
            subst e1 e2
            have tail : wpAny (model prog w) A (storeSet a (SetTable.insertAt es (t.put j).2 (knd.hash k, .ref b)) (t.put j).1 >>= fun _ => if (!false && (t.put j).1.tooFull) = true then (setRelay a (SetTable.grown (es.size + 1)) >>= fun _ => pure true) else pure true) Q E { s with toks := s.toks + knd.draws k } := by
              refine wpAny_bind (wpAny_storeSet_of (s := { s with toks := s.toks + knd.draws k }) ho hd ?_ (by have : sizeLine = 2 ^ 24 := rfl; omega))
              rw [if_neg (by simpa using hfull)]
              refine wpAny_pure (h _ (Heap.SameBut.update ..) ?_)
              have := Heap.get?_update_self (Obj.putSet (SetTable.insertAt es (t.put j).2 (knd.hash k, .ref b)) (t.put j).1) ho (by rw [putSet_of _ _ hd]; rfl)
              rw [putSet_of _ _ hd] at this
              exact this
            split
            · refine wpAny_bind (hv _ _ ?_)
              rw [if_pos (rfl : true = true)]
              exact tail
            · refine wpAny_bind (wpAny_pure ?_)
              rw [if_pos (rfl : true = true)]
              exact tail
          · rename_i hm
            exact (hm _ hp).elim
        · cases e
    · cases e
end
section
variable {prog : Program} {w : World} {A : Around} {R : Result → Shared → Prop} {I : Addr} {fp wr : List Addr} {G : Array GenState → Array GenState → Prop} {n : Nat} {P : Nat → Value → Prop} {St : Nat → Shared → Prop}
def ITup (h : Heap) (k : List Int) (b : Addr) : Prop := ∃ o items c, h.get? b = some o ∧ o.cls = .type "tuple" ∧ o.data = .seq items c ∧ IntsAre items.toList k
theorem loop_tups (W : WalksS prog w A.in1 I fp wr G n P St) (S : Addr) (hSf : S ∉ fp) (knd : HeapKind prog w (List Int)) (hroom : knd.room A.in1) (his : ∀ h k b, ITup h k b → knd.is h k b) (ad : Nat → Addr) (key : Nat → List Int) (hval : ∀ i v, P i v → v = .ref (ad i))
    (had : ∀ i, i < n → ad i ≠ S ∧ ad i ∉ wr) (T : Nat → SetTable) (Es : Nat → Array (Int × Value)) (hadd : ∀ i, i < n → addT (T i) (Es i) (knd.hash (key i)) (.ref (ad i)) = some (T (i + 1), Es (i + 1))) (hfit : ∀ i, i ≤ n → (T i).fits (Es i).size = true ∧ (Es i).size < 1000) :
    ∀ (k i : Nat) (s : Shared), n - i = k → i ≤ n → St i s → (∀ j, j < n → ITup s.heap (key j) (ad j)) → (∃ o ep, s.heap.get? S = some o ∧ o.ExactSet ∧ o.data = .set (Es i) ep (T i)) →
      (∀ s', Moved (S :: wr) G s s' → (∃ o ep, s'.heap.get? S = some o ∧ o.ExactSet ∧ o.data = .set (Es n) ep (T n)) → R (.ok (.ret .none)) s') →
      codeAny (model prog w) A (.builtin "set.update.loop" ⟨[.ref S, .ref I], []⟩) R s := by
  have hSw : S ∉ wr := fun h => hSf (W.sub _ h)
  have more : ∀ b ∈ wr, b ∈ S :: wr := fun b hb => List.mem_cons_of_mem _ hb
  have it_kept : ∀ {h h' : Heap} {k b}, ITup h k b → (∀ o, h.get? b = some o → h'.get? b = some o) → ITup h' k b := fun ⟨o, its, c, h1, h2⟩ f => ⟨o, its, c, f o h1, h2⟩
  intro k
  induction k with
  | zero =>
    intro i s hk hi hst ht hS hR
    obtain rfl : i = n := by omega
    refine codeAny_builtin F.entry_set_update_loop ?_
    rw [Around.under_plainId F.plain_set_update_loop _]
    show wpAny _ A.in1 (pyNext (.ref I) >>= _) _ _ s
    refine wpAny_bind (W.done s _ _ hst fun s' hm => wpAny_pure (hR s' (hm.mono more) ?_))
    obtain ⟨o, ep, h1, h2⟩ := hS
    exact ⟨o, ep, hm.heap S _ hSw h1, h2⟩
  | succ k ih =>
    intro i s hk hi hst ht hS hR
    have hlt : i < n := by omega
    refine codeAny_builtin F.entry_set_update_loop ?_
    rw [Around.under_plainId F.plain_set_update_loop _]
    show wpAny _ A.in1 (pyNext (.ref I) >>= _) _ _ s
    refine wpAny_bind (W.item i s _ _ hlt hst fun v s' hP hst' hm => ?_)
    obtain rfl := hval i v hP
    obtain ⟨o, ep, h1, h2, h3⟩ := hS
    have ht' : ∀ j, j < n → ITup s'.heap (key j) (ad j) := fun j hj => it_kept (ht j hj) fun o q => hm.heap _ o (had j hj).2 q
    obtain ⟨ob, its, c, g1, g2, g3, g4⟩ := id (ht' i hlt)
    show wpAny _ A.in1 (holding [Value.ref (ad i)] (setAdd S (.ref (ad i))) >>= _) _ _ s'
    refine wpAny_bind (wpAny_holding ?_)
    refine setAdd_free (knd := knd) (s := s') hroom (his _ _ _ (ht' i hlt)) (hm.heap S _ hSw h1) h3 (hfit i hi).1 (hfit (i + 1) hlt).2 (fun tk Q' q => hbv_ints (s := { s' with toks := tk }) g1 g2 g3 (fun v hv => ?_) q) (hadd i hlt) fun h' sb hg => ?_
    · exact g4.allInts v (by simpa using hv)
    · refine wpAny_pure ⟨plainId_quiet F.plain_set_update_loop _, ih (i + 1) _ (by omega) hlt (W.frame _ s' _ _ hst' (Nat.le_add_right _ _) fun b hb o e => ?_) (fun j hj => it_kept (ht' j hj) fun o q => ?_) ⟨_, _, hg, h2, rfl⟩ fun s'' hm'' hS'' => ?_⟩
      · rw [sb.2 b (fun z => hSf (z ▸ hb))]; exact e
      · rw [sb.2 _ (had j hj).1]; exact q
      · refine hR s'' (Moved.trans W.gtrans ((hm.mono more).then_heap (Nat.le_add_right _ _) fun b o hb e => ?_) hm'') hS''
        rw [sb.2 b (fun z => hb (by rw [z]; exact List.mem_cons_self))]; exact e
end
abbrev set0 (led : Bool) : Obj := { cls := .type "set", dict := none, data := .set #[] 0 (.fresh 0 0 led) }
set_option maxHeartbeats 3200000 in
theorem call_set_tups {prog : Program} {w : World} {A : Around} {E : Value → Shared → Prop} {s : Shared} {l : Addr} {as : List Addr} {Q : Value → Shared → Prop} (hh : A.handled = none) (hl : s.heap.IsList l (as.map Value.ref).toArray)
    (knd : HeapKind prog w (List Int)) (hroom : knd.room A.in1.in1.in1) (his : ∀ h k b, ITup h k b → knd.is h k b) (key : Nat → List Int) (htup : ∀ j, j < as.length → ITup s.heap (key j) (as.getD j 0))
    (T : Bool → Nat → SetTable) (Es : Bool → Nat → Array (Int × Value)) (h0 : ∀ led, T led 0 = .fresh 0 0 led ∧ Es led 0 = #[]) (hadd : ∀ led i, i < as.length → addT (T led i) (Es led i) (knd.hash (key i)) (.ref (as.getD i 0)) = some (T led (i + 1), Es led (i + 1)))
    (hfit : ∀ led i, i ≤ as.length → (T led i).fits (Es led i).size = true ∧ (Es led i).size < 1000)
    (h : ∀ (led : Bool) (h' : Heap) (tk : Nat), (∃ o ep, h'.get? s.heap.objs.size = some o ∧ o.ExactSet ∧ o.data = .set (Es led as.length) ep (T led as.length)) → (∀ b o, b < s.heap.objs.size → s.heap.get? b = some o → h'.get? b = some o) →
      Q (.ref s.heap.objs.size) { s with heap := h', toks := tk }) : wpAny (model prog w) A (call (.type "set") [.ref l]) Q E s := by
  obtain ⟨c0, tl0, hmro⟩ := F.called_set.mro
  have made := F.called_set.made
  have sub := F.called_set.sub
  have nt := F.called_set.notType
  have cc := F.called_set.canCreate
  have ck := F.typeCall_set_1 (.ref l)
  refine wpAny_call (codeAny_of_tree ?_)
  show wpAny _ _ (callAny (.type "set") ⟨[.ref l], []⟩) _ _ _
  refine wpAny_pure ⟨Code.quiet_builtin _ (by decide +kernel), codeAny_builtin F.entry_type_call ?_⟩
  rw [Around.under_plain (weight_type_call_type "set" [.ref l] []) rfl]
  repeat (any_goals (first | assumption | wp_step))
  refine codeAny_mono (code_set_new_1 (.ref l) (E := E) (Q₁ := fun v s₁ => ∃ led : Bool, v = .ref s.heap.objs.size ∧ s₁ = { s with heap := s.heap.push (set0 led) }) fun led => ⟨led, rfl, rfl⟩) fun r s₁ hr => ?_
  match r, hr with
  | .error e, hr => exact hr
  | .ok (.ret v), ⟨led, ev, es⟩ =>
    subst ev es
    have hS : (s.heap.push (set0 led)).get? s.heap.objs.size = some (set0 led) := Heap.get?_push_size _ rfl
    have hT : Shared.TypeIs { s with heap := s.heap.push (set0 led) } (.ref s.heap.objs.size) "set" := ⟨_, hS, rfl⟩
    have li := F.called_set.init.lookup
    have bi := F.called_set.init.bind (.ref s.heap.objs.size)
    repeat (any_goals (first | assumption | wp_step))
    refine codeAny_mono (codeAny_call_builtin (R := wants (fun r s₂ => r = .none ∧ ∃ h' tk, s₂ = { s with heap := h', toks := tk } ∧ (∃ o ep, h'.get? s.heap.objs.size = some o ∧ o.ExactSet ∧ o.data = .set (Es led as.length) ep (T led as.length)) ∧
      ∀ b o, b < s.heap.objs.size → s.heap.get? b = some o → h'.get? b = some o) E) F.called_set.init.plain F.entry_set_init (check_set_init_1 hT ?_)) fun r₂ s₂ hr₂ => ?_
    · have lt : l < s.heap.objs.size := by obtain ⟨o, ho, _⟩ := hl; exact Heap.lt_size ho
      obtain ⟨⟨oc, od, odt, osl⟩, hol, hcl, nl, hdl⟩ := id hl
      simp only at hcl hdl
      subst hcl hdl
      have hol' : (s.heap.push (set0 led)).get? l = some ⟨.type "list", od, .seq (as.map Value.ref).toArray nl, osl⟩ := Heap.get?_push_of_some _ hol
      have n1 := F.sub_list_set
      have n2 := F.sub_list_frozenset
      have n3 : (Value.type "list" == Value.type "dict") = false := by decide
      have hl1 : (s.heap.push (set0 led)).IsList l (as.map Value.ref).toArray := ⟨_, hol', rfl, nl, rfl⟩
      unfold Builtin.«set.__init__» noKeywords Builtin.Frozenset.updateFrom
      generalize ePI : pyIter = PI
      wp_walk
      subst ePI
      refine wpAny_pyIter_list hl1 (wpAny_bind (wpAny_runValue ?_))
      have sz1 : (s.heap.push (set0 led)).objs.size = s.heap.objs.size + 1 := Heap.size_push ..
      have hd3 : A.in1.in1.in1.handled = none := by simp [hh]
      have neI : l ≠ (s.heap.push (set0 led)).objs.size := by rw [sz1]; exact Nat.ne_of_lt (Nat.lt_succ_of_lt lt)
      have nS : s.heap.objs.size ∉ [(s.heap.push (set0 led)).objs.size, l] := by
        rw [sz1]
        intro z
        rcases List.mem_cons.mp z with z | z
        · exact absurd z (Nat.ne_of_lt (Nat.lt_succ_self _))
        · exact absurd (List.mem_singleton.mp z) (Nat.ne_of_gt lt)
      have hld : ∀ j, j < as.length → as.getD j 0 < s.heap.objs.size := fun j hj => by obtain ⟨o, _, _, h1, _⟩ := htup j hj; exact Heap.lt_size h1
      refine loop_tups ((Walks.list hd3 _ l neI (as.map Value.ref).toArray).toS) s.heap.objs.size nS knd hroom his (fun i => as.getD i 0) key (fun i v hv => ?_) (fun i hi => ?_) (T led) (Es led) (fun i hi => hadd led i (by simpa using hi)) (fun i hi => hfit led i (by simpa using hi))
        ((as.map Value.ref).toArray.size - 0) 0 _ (by omega) (Nat.zero_le _) ⟨⟨_, Heap.get?_push_size _ rfl, rfl, rfl⟩, (hl1.push _)⟩ (fun j hj => ?_) ?_ fun s' hm hS' => ?_
      · have hv' : (as.map Value.ref).toArray[i]? = some v := hv
        rw [List.getElem?_toArray, List.getElem?_map] at hv'
        obtain ⟨x, hx, rfl⟩ := Option.map_eq_some_iff.mp hv'
        show _ = Value.ref (as.getD i 0)
        rw [List.getD_eq_getElem?_getD, hx]; rfl
      · have hi' : i < as.length := by simpa using hi
        have := hld i hi'
        refine ⟨Nat.ne_of_lt this, fun z => ?_⟩
        have z' := List.mem_singleton.mp z
        rw [sz1] at z'
        exact absurd z' (Nat.ne_of_lt (Nat.lt_succ_of_lt this))
      · obtain ⟨o, its, c, q1, q2⟩ := htup j (by simpa using hj)
        exact ⟨o, its, c, Heap.get?_push_of_some _ (Heap.get?_push_of_some _ q1), q2⟩
      · refine ⟨_, 0, Heap.get?_push_of_some _ hS, ⟨rfl, rfl, rfl⟩, ?_⟩
        rw [(h0 led).1, (h0 led).2]
      · obtain ⟨h', g', d', tk', os'⟩ := s'
        obtain rfl : g' = s.gens := hm.gens
        obtain rfl : d' = s.drawn := hm.drawn
        obtain rfl : os' = s.os := hm.os
        refine wpAny_pure ?_
        show wpAny _ _ (ret Value.none) _ _ _
        refine wpAny_pure ⟨rfl, h', tk', rfl, by simpa using hS', fun b o hb e => hm.heap b o (fun z => ?_) (Heap.get?_push_of_some _ (Heap.get?_push_of_some _ e))⟩
        rcases List.mem_cons.mp z with z | z
        · exact absurd z (Nat.ne_of_lt hb)
        · have z' := List.mem_singleton.mp z
          rw [sz1] at z'
          exact absurd z' (Nat.ne_of_lt (Nat.lt_succ_of_lt hb))
    · match r₂, hr₂ with
      | .error e, z => exact z
      | .ok (.ret v), ⟨e1, h', tk, e2, z1, z2⟩ =>
        subst e1 e2
        repeat (any_goals (first | assumption | wp_step))
        exact h led h' tk z1 z2
      | .ok .next, z => exact z.elim
      | .ok .brk, z => exact z.elim
      | .ok .cont, z => exact z.elim
  | .ok .next, hr => exact hr.elim
  | .ok .brk, hr => exact hr.elim
  | .ok .cont, hr => exact hr.elim
end L2
namespace L2
open PySem PySem.Spec PyProof.Rows
end L2
namespace L2
open PySem PySem.Spec PyProof.Rows
end L2
namespace L2
open PySem PySem.Spec PyProof.Rows
structure ClsM (K : PySem.W.Frag) (C : Addr) (m : Str) (f : Addr) : Prop where
  ex : ∃ mc, PySem.W.readsIn K C mc = true ∧ PySem.W.findCls K (.ref C) mc m = some (.val (.ref f))
  hh : PySem.W.handedIn (.ref f) = true
  hg : PySem.W.specialIn K (.ref C) "__getattribute__" = some (some (.builtin "type.__getattribute__"))
  kp : PySem.W.keepIn K (.ref f) = true
structure ClsCallee (P : Program) (w : World) (K : PySem.W.Frag) (mg : Str → Option Value) (base : Heap) (C : Addr) (m : Str) (k : Nat) (ps : List Str) (sp : Sp) : Prop where
  ex : ∃ f fd, FnOk P w K mg base CX0 k f fd ps sp ∧ ClsM K C m f ∧ Binds K fd ps []
section
variable {X : Cx} {C : Addr} {k : Nat} {ps : List Str} {sp : Sp} {m : Str} {pos apos : Pos} {e o : Expr} {es : List Expr} {t : TA}
end
structure FunD (K : PySem.W.Frag) (x qual : Str) (st : Stmt) (f : Addr) (fd : FuncData) : Prop where
  ex : ∃ (oc : Value) (od : Option Addr) (dV kV doc pm : Value) (an : Option Addr) (cdv ct : Value) (osl : Array (Option Value)),
    fd = PySem.W.fnOf x qual (defArgs st) (defBody st) (defScope st) dV kV doc pm an cdv ct ∧ K.lookup f = some ⟨oc, od, .func fd, osl⟩ ∧ PySem.W.codeIn K cdv qual = true
section
variable {P : Program} {w : World} {K : PySem.W.Frag} {mg : Str → Option Value} {base : Heap}
theorem FunD.ok {x qual : Str} {st : Stmt} {f : Addr} {fd : FuncData} {N ps : List Str} {k : Nat} {sp : Sp} (F : FunD K x qual st f fd) (S : FnScope N ps (defScope st)) (len : ∀ vs H Q E, sp vs H Q E → vs.length = ps.length)
    (hbody : ∀ (cdv : Value) (A : Around) (outer : List Env) (s : Shared) (H : Hp) (vs : List V) (Q : VK) (E : XK), Room k (A.deeper (envOfC qual (defScope st) s.heap.objs.size f cdv)) → sp vs H Q E →
      ∃ t, PSs (cxOf CX0 P w K mg base N qual (defScope st) f cdv A outer s H E).nox (defBody st) t ∧ t { nx := fun _ H' => Q .non H', rt := Q } (start N vs) H) : FnOk P w K mg base CX0 (k + 1) f fd ps sp := by
  obtain ⟨oc, od, dV, kV, doc, pm, an, cdv, ct, osl, rfl, lk, hcd⟩ := F.ex
  refine fn_of lk hcd S len fun A outer s H vs Q E hr hsp => ?_
  obtain ⟨t, h, q⟩ := hbody cdv A outer s H vs Q E hr hsp
  exact ⟨t, h.nox, q⟩
end
end L2
namespace L2
open PySem PySem.Spec PyProof.Rows
section
variable {prog : Program} {w : World} {A : Around} {h : Heap} {g : Array GenState} {d : Drawn} {t : Nat} {os : OsState} {a : Addr}
end
end L2
namespace L2
open PySem PySem.Spec PyProof.Rows
section
variable {prog : Program} {w : World} {A : Around} {R : Result → Shared → Prop} {I : Addr} {fp wr : List Addr} {G : Array GenState → Array GenState → Prop} {n : Nat} {P : Nat → Value → Prop} {St : Nat → Shared → Prop} {K : Type} [DecidableEq K]
end
section
variable {prog : Program} {w : World} {A : Around} {E : Value → Shared → Prop} {s : Shared} {K : Type} [DecidableEq K]
end
end L2
namespace L2
open PySem PySem.Spec PyProof.Rows
end L2
namespace L2
open PySem PySem.Spec PyProof.Rows
structure Nx (prog : Program) (w : World) (A : Around) (it src : Addr) (vals : Array Value) (St : Nat → Heap → Prop) : Prop where
  obj : ∀ i h, St i h → ∃ o vs, h.get? it = some o ∧ o.data = .fields vs ∧ o.cls ≠ .type "zip" ∧ ∃ o', h.get? src = some o'
  keep : ∀ i h h', St i h → (∀ o, h.get? it = some o → h'.get? it = some o) → (∀ o, h.get? src = some o → h'.get? src = some o) → St i h'
  item : ∀ (i : Nat) (s : Shared) (Q : Value → Shared → Prop) (E : Value → Shared → Prop) (x : Value), St i s.heap → vals[i]? = some x → (∀ h', St (i + 1) h' → Heap.SameBut it s.heap h' → Q x { s with heap := h' }) → wpAny (model prog w) A (Builtin.SmallTypes.nextOf (.ref it)) Q E s
  done : ∀ (i : Nat) (s : Shared) (Q : Value → Shared → Prop) (E : Value → Shared → Prop), A.handled = none → St i s.heap → vals[i]? = none →
    (∀ h' e, Heap.ExtBut it s.heap h' → (∃ o, h'.get? e = some o ∧ o.cls = .type "StopIteration") → E (.ref e) { s with heap := h' }) → wpAny (model prog w) A (Builtin.SmallTypes.nextOf (.ref it)) Q E s
section
variable {prog : Program} {w : World} {A : Around} {E : Value → Shared → Prop} {s : Shared}
theorem Nx.list {it l : Addr} {items : Array Value} (hne : l ≠ it) : Nx prog w A it l items (fun i h => h.IsListIter it l i ∧ h.IsList l items) where
  obj := fun i h ⟨⟨o, h1, h2, h3⟩, ⟨o', h4, _⟩⟩ => ⟨o, _, h1, h3, by rw [h2]; decide, o', h4⟩
  keep := fun i h h' ⟨x, y⟩ k1 k2 => ⟨x.at k1, y.at k2⟩
  item := fun i s Q E x ⟨h1, h2⟩ hx hQ => wpAny_nextOf_list_item h1 h2 hx fun h' a b => hQ h' ⟨a, h2.at fun o e => b.extBut _ _ hne e⟩ b
  done := fun i s Q E hh ⟨h1, h2⟩ hx hE => wpAny_nextOf_list_end hh h1 h2 hx hE
theorem nx_tup_item {it t : Addr} {i : Nat} {items : Array Value} {x : Value} {Q : Value → Shared → Prop} (hit : IsTupIter s.heap it t i) (ht : IsTup s.heap t items) (hx : items[i]? = some x)
    (hQ : ∀ h', IsTupIter h' it t (i + 1) → Heap.SameBut it s.heap h' → Q x { s with heap := h' }) : wpAny (model prog w) A (Builtin.SmallTypes.nextOf (.ref it)) Q E s := by
  obtain ⟨o, ho, hc, hd⟩ := id hit
  obtain ⟨ol, hol, _, nl, hdl⟩ := ht
  unfold Builtin.SmallTypes.nextOf
  refine wpAny_bind (wpAny_callSpecial?_slot (name := Str.ofString "__next__") hit.typeIs slot_tupleiter_next (wpAny_call_entry slot_tupleiter_next hit.typeIs entry_tupleiter_next ?_ (args_tupleiter_next _)))
  show wpAny _ _ (field (.ref it) 0 >>= _) _ _ s
  refine wpAny_bind (wpAny_field ho hd (x := .ref t) rfl ?_)
  show wpAny _ _ (if (Value.ref t == Value.none) = true then _ else _) _ _ s
  rw [if_neg (show ¬ ((Value.ref t == Value.none) = true) from Bool.false_ne_true)]
  show wpAny _ _ (field (.ref it) 1 >>= _) _ _ s
  refine wpAny_bind (wpAny_field ho hd (x := .int i 0) rfl ?_)
  show wpAny _ _ (seqItems? (.ref t) >>= _) _ _ s
  refine wpAny_bind (wpAny_seqItems hol hdl ?_)
  simp only [Int.toNat_natCast, hx]
  refine wpAny_bind (wpAny_setField ho hd (by simp) (wpAny_pure ⟨x, rfl, wpAny_pure (hQ _ ?_ (Heap.SameBut.update ..))⟩))
  exact ⟨_, Heap.get?_update_self _ ho (Obj.isFreed_of_fields (Obj.data_mapFields hd _)), (Obj.cls_mapFields ..).trans hc, by rw [Obj.data_mapFields hd]; simp [rawInt]⟩
theorem nx_tup_end {it t : Addr} {i : Nat} {items : Array Value} {Q : Value → Shared → Prop} (hh : A.handled = none) (hit : IsTupIter s.heap it t i) (ht : IsTup s.heap t items) (hx : items[i]? = none)
    (hE : ∀ h' e, Heap.ExtBut it s.heap h' → (∃ o, h'.get? e = some o ∧ o.cls = .type "StopIteration") → E (.ref e) { s with heap := h' }) : wpAny (model prog w) A (Builtin.SmallTypes.nextOf (.ref it)) Q E s := by
  obtain ⟨o, ho, hc, hd⟩ := id hit
  obtain ⟨ol, hol, _, nl, hdl⟩ := ht
  unfold Builtin.SmallTypes.nextOf
  refine wpAny_bind (wpAny_callSpecial?_slot (name := Str.ofString "__next__") hit.typeIs slot_tupleiter_next (wpAny_call_entry slot_tupleiter_next hit.typeIs entry_tupleiter_next ?_ (args_tupleiter_next _)))
  show wpAny _ _ (field (.ref it) 0 >>= _) _ _ s
  refine wpAny_bind (wpAny_field ho hd (x := .ref t) rfl ?_)
  show wpAny _ _ (if (Value.ref t == Value.none) = true then _ else _) _ _ s
  rw [if_neg (show ¬ ((Value.ref t == Value.none) = true) from Bool.false_ne_true)]
  show wpAny _ _ (field (.ref it) 1 >>= _) _ _ s
  refine wpAny_bind (wpAny_field ho hd (x := .int i 0) rfl ?_)
  show wpAny _ _ (seqItems? (.ref t) >>= _) _ _ s
  refine wpAny_bind (wpAny_seqItems hol hdl ?_)
  simp only [Int.toNat_natCast, hx]
  refine wpAny_bind (wpAny_rule (wpAny_bind (wpAny_setField ho hd (by simp) ?_)))
  show wpAny _ _ (newExc (.type "StopIteration") [] >>= _) _ _ _
  refine wpAny_bind ?_
  simp only [newExc, newTuple]
  refine wpAny_bind (wpAny_newObj_type ?_ (by size_fits))
  refine wpAny_bind (m := firstArgMember _ _) (wpAny_of_eq (a := Value.none) (by first | rfl | (simp only [firstArgMember]; rfl)) (wpAny_newObj_type ?_ (by size_fits)))
  simp only [raiseNew]
  refine wpAny_bind (wpAny_handled ?_)
  first | rw [show A.in1.handled = none from hh] | rw [hh]
  refine wpAny_bind (wpAny_pure (wpAny_throw ?_))
  exact hE _ _ (((Heap.SameBut.update ..).extBut.push _).push _) ⟨_, Heap.get?_push_size _ rfl, rfl⟩
theorem Nx.tup {it t : Addr} {items : Array Value} (hne : t ≠ it) : Nx prog w A it t items (fun i h => IsTupIter h it t i ∧ IsTup h t items) where
  obj := fun i h ⟨⟨o, h1, h2, h3⟩, ⟨o', h4, _⟩⟩ => ⟨o, _, h1, h3, by rw [h2]; decide, o', h4⟩
  keep := fun i h h' ⟨⟨o, h1, h2⟩, ⟨o', h4, h5⟩⟩ k1 k2 => ⟨⟨o, k1 _ h1, h2⟩, ⟨o', k2 _ h4, h5⟩⟩
  item := fun i s Q E x ⟨h1, h2⟩ hx hQ => nx_tup_item h1 h2 hx fun h' a b => hQ h' ⟨a, h2.extBut b.extBut hne⟩ b
  done := fun i s Q E hh ⟨h1, h2⟩ hx hE => nx_tup_end hh h1 h2 hx hE
structure ZA (z TI TO i1 i2 s1 s2 : Addr) : Prop where
  TIz : TI ≠ z
  TOz : TO ≠ z
  i1z : i1 ≠ z
  i2z : i2 ≠ z
  TITO : TI ≠ TO
  TIi1 : TI ≠ i1
  TIi2 : TI ≠ i2
  TOi1 : TO ≠ i1
  TOi2 : TO ≠ i2
  i12 : i1 ≠ i2
  s1z : s1 ≠ z
  s1TO : s1 ≠ TO
  s1i2 : s1 ≠ i2
  s2z : s2 ≠ z
  s2TO : s2 ≠ TO
  s2i1 : s2 ≠ i1
end
end L2
namespace L2
open PySem PySem.Spec PyProof.Rows
end L2
namespace L2
open PySem PySem.Spec PyProof.Rows
end L2
namespace L2
open PySem PySem.Spec PyProof.Rows
section
variable {prog : Program} {w : World} {A : Around} {E : Value → Shared → Prop} {s : Shared} {d it v : Addr} {o : Obj} {es : Array DictEntry} {i ep : Nat}
end
structure KCalleeN (P : Program) (w : World) (K : PySem.W.Frag) (mg : Str → Option Value) (base : Heap) (C : Addr) (x : Str) (k : Nat) (ps : List Str) (sp : Sp) : Prop where
  ex : ∃ f fd, FnOk P w K mg base CX0 k f fd ps sp ∧ Mk K C f ∧ mg x = some (.ref C) ∧ Binds K fd ps [Value.none]
end L2
namespace L2
open PySem PySem.Spec PyProof.Rows
section
variable {X : Cx}
noncomputable def isT (H : Hp) (c : List Int) (u : Value) : Bool := match u with
  | .ref a => @decide (H a = some (.tup (c.map V.int))) (Classical.propDecidable _)
  | _ => false
end
def hv3 (k : Nat) : Int := reduceHash (Builtin.Tuple.tupleHashOf [((k / 256 : Nat) : Int), ((k / 16 % 16 : Nat) : Int), ((k % 16 : Nat) : Int)])
end L2
namespace L2
open PySem PySem.Spec PyProof.Rows
section
variable {prog : Program} {w : World} {d : Addr} {es : Array DictEntry} {ep : Nat}
theorem rk_src (hd : (d == sysModules) = false) : PySem.W.KdlSrc prog w "dict" d d es.size (fun i v => ∃ hi : i < es.size, v = es[i].key) (fun h => ∃ o, h.get? d = some o ∧ o.ExactDict ∧ o.data = .dict es ep) where
  type := fun _ ⟨o, ho, hc, _⟩ => ⟨o, ho, hc.1⟩
  there := fun _ ⟨o, ho, _⟩ => ⟨Heap.lt_size ho, Heap.lt_size ho⟩
  keep := fun _ _ ⟨o, ho, x⟩ hk => ⟨o, hk d (.inl rfl) o ho, x⟩
  notList := by decide
  notTuple := by decide
  hint := fun _ _ _ _ ⟨o, ho, hc, _⟩ hq => PySem.W.kdl_hint_dict ⟨o, ho, hc.1⟩ hq
  iter := fun A s hh ⟨o, ho, hc, hdat⟩ => ⟨_, fun i h => h.IsKeyIter s.heap.objs.size d i es.size ep ∧ ∃ o, h.get? d = some o ∧ o.data = .dict es ep, (fun _ _ hq => rk_iter hd ho hc hdat hq), {
      sub := fun b hb => by simp at hb; simp [hb]
      frame := fun _ _ _ ⟨st, o, h1, h2⟩ hk => ⟨keyiter_at st fun o e => hk _ (by simp) o e, o, hk d (by simp) o h1, h2⟩
      item := fun i s' Q E hi ⟨st, o, h1, h2⟩ hQ => rk_next st h1 h2 hi fun h' st' sb => hQ _ h' s'.toks ⟨hi, rfl⟩ ⟨st', o, (sb.2 d (Nat.ne_of_lt (Heap.lt_size ho))).trans h1, h2⟩ fun b o hb e => (sb.2 b (fun z => hb (by simp [z]))).trans e
      done := fun s' Q E ⟨st, o, h1, h2⟩ hQ => rk_end hh st h1 h2 (Nat.le_refl _) fun h' eb => hQ h' s'.toks fun b o hb e => eb b o (fun z => hb (by simp [z])) e
      self := fun i s' Q E ⟨st, _⟩ hQ => wpAny_pyIter_keyiter st hQ }, ⟨⟨_, Heap.get?_push_size _ rfl, rfl, rfl⟩, o, Heap.get?_push_of_some _ ho, hdat⟩⟩
end
section
variable {X : Cx}
end
end L2
namespace L2
open PySem PySem.Spec PyProof.Rows
section
variable {X : Cx}
end
end L2
namespace L2
open PySem PySem.Spec PyProof.Rows
section
variable {prog : Program} {w : World} {κ : Type} [DecidableEq κ] {knd : HeapKind prog w κ} {A : Around} {E : Value → Shared → Prop} {s : Shared}
theorem setdef_heap {d b : Addr} {zs : List (κ × Addr × Value)} {k : κ} {v : Value} {Q : Value → Shared → Prop} (hu : knd.room A) (hk : knd.is s.heap k b) (hm : s.heap.DictOfH knd d zs)
    (h1 : ∀ p, atKey zs k = some p → Q p.2 { s with toks := s.toks + knd.draws k })
    (h2 : atKey zs k = none → ∀ h', h'.DictOfH knd d (storedH zs k b v) → Heap.SameBut d s.heap h' → Q v { s with heap := h', toks := s.toks + knd.draws k })
    (hsz : zs.length ≤ sizeLine) : wpAny (model prog w) A (dictSetDefault d (.ref b) v) Q E s := by
  obtain ⟨ob, en, ep, ho, hc, hd, he, his, hn⟩ := hm
  unfold dictSetDefault
  try with_reducible refine wpAny_holding ?_
  refine wpAny_bind (knd.pyHash hu hk ?_)
  refine wpAny_bind (wpAny_dictFind_heap (s := { s with toks := s.toks + knd.draws k }) hu hk ho hd he his hn (fun hno => ?_) fun j p hj => ?_)
  · have hz := atKey_none_of_get hno
    have hnot : k ∉ zs.map (·.1) := not_mem_keys_of_get hno
    have e3 : storedH zs k b v = zs ++ [(k, b, v)] := storedH_new hz b v
    refine wpAny_bind (wpAny_rule (wpAny_bind (wpAny_updateDictKeys (hz := by have e := size_of_entries he; omega) (s := { s with toks := s.toks + knd.draws k }) ho hd
      (wpAny_pure (h2 hz _ ⟨_, _, ep + 1, Heap.get?_update_self _ ho (Obj.isFreed_of_dict (Obj.data_mapDictKeys hd _)), hc.mapDictKeys _, Obj.data_mapDictKeys hd _, ?_, ?_, ?_⟩ (Heap.SameBut.update ..))))))
    · rw [e3]; simp [he, entryOfKey]
    · rw [e3]
      intro x hx
      rcases List.mem_append.mp hx with hx | hx
      · exact knd.keeps (his x hx) ho hd (Heap.SameBut.update ..)
      · cases List.mem_singleton.mp hx
        exact knd.keeps hk ho hd (Heap.SameBut.update ..)
    · rw [e3, List.map_append, List.nodup_append]
      refine ⟨hn, by simp, fun x hx y hy => ?_⟩
      cases List.mem_singleton.mp hy
      exact fun e => hnot ((show x = k from e) ▸ hx)
  · have hz := atKey_of_get hn hj
    refine wpAny_bind (wpAny_dictEntries (s := { s with toks := s.toks + knd.draws k }) ho hd ?_)
    rw [entry_at he j, hj]
    exact wpAny_bind (wpAny_rule (wpAny_pure (h1 p hz)))
end
section
variable {X : Cx}
def rSetDef : V → List V → Hp → VK → Prop := fun x vs H Q => ∃ a b kvs k y, x = .ref a ∧ vs = [.ref b, y] ∧ H a = some (.dT kvs) ∧ H b = some (.tup (k.map kV)) ∧ kvs.length < sizeLine ∧
  (∀ v, valV kvs k = some v → Q v H) ∧ (valV kvs k = none → Q y (upd H a (.dT (putK kvs k y))))
theorem mt_setdef {j : Nat} (hr : Room j X.A) : MtR X "dict.setdefault" rSetDef := by
  intro pins s σ H x vs v us Q I rx rv h
  obtain ⟨a, b, kvs, k, y, rfl, rfl, ea, eb, l, q1, q2⟩ := h
  cases rx
  obtain ⟨u1, u2, rfl, r1, r2⟩ := vals2 rv
  cases r1
  obtain ⟨z, hd, xs, rel, dd⟩ := dt_of I.hok ea
  have hz : xs.length ≤ sizeLine := by rw [← Paired.length rel]; exact z
  have hl : (putK kvs k y).length ≤ sizeLine := by have := length_putK kvs k y; omega
  have hu : X.A.units + 1 < cLine := Room.one hr
  refine wpAny_call_entry PySem.F.slot_dict_setdefault dd.typeIs PySem.F.entry_dict_setdefault ?_ (PySem.F.args_dict_setdefault_3 _ _ _)
  unfold Builtin.«dict.setdefault»
  refine wpAny_bind ?_
  unfold Builtin.Dict.keyAndDefault
  refine wpAny_bind (wpAny_notOrdered_dict dd.typeIs ?_)
  show wpAny _ _ (pure (a, Value.ref b, some u2)) _ _ s
  refine wpAny_pure ?_
  show wpAny _ _ (if (a == sysModules) = true then _ else (dictSetDefault a (.ref b) u2 >>= _)) _ _ s
  rw [if_neg (by rw [hd]; exact Bool.false_ne_true)]
  refine wpAny_bind (setdef_heap (tupleKind_room_in1 hu) (key_of I.hok eb) dd (fun p hp => wpAny_pure ⟨p.2, rfl, ?_⟩) (fun hn h' dd' hs => wpAny_pure ⟨u2, rfl, ?_⟩) hz)
  · have := rel.val k
    rw [hp] at this
    cases e : valV kvs k with
    | none => rw [e] at this; exact this.elim
    | some v => rw [e] at this; exact ⟨v, H, I.tok _, this, q1 v e⟩
  · have := rel.val k
    rw [hn] at this
    cases e : valV kvs k with
    | some v => rw [e] at this; exact this.elim
    | none =>
      obtain ⟨q, es, ep, hq, g2, g3, g4, _, g5⟩ := dd'
      refine ⟨y, _, d_write (ob := .dT (putK kvs k y)) I (by rw [ea]; exact True.intro) hs ⟨q, hq⟩ ⟨hl, hd, _, (rel.put k eb r2).keeps fun c ys ec => ?_, q, es, ep, hq, g2, g3, g4, g5⟩, r2, q2 e⟩
      rw [upd_ne (ne_of ec ea (fun z => nomatch z))]
      exact ec
def rGetT : V → List V → Hp → VK → Prop := fun x vs H Q => ∃ a y z o, x = .ref a ∧ vs = [y, z] ∧ DGet H a y o ∧ Q (o.getD z) H
theorem mt_getT {j : Nat} (hr : Room j X.A) : MtR X "dict.get" rGetT := by
  intro pins s σ H x vs v us Q I rx rv h
  obtain ⟨a, y, z, o, rfl, rfl, g, q⟩ := h
  cases rx
  obtain ⟨u1, u2, rfl, r1, r2⟩ := vals2 rv
  exact d_get2 (Room.one hr) I g r1 r2 fun w' s' I' r' => ⟨_, H, I', r', q⟩
end
section
open PySem.SeqAt
open PySem.AutoSeq1 (wpAny_loadPart')
open PySem.MeetsSeq PySem.MeetsSeq2 PySem.MeetsSeq3
end
section
variable {prog : Program} {w : World} {A : Around} {E : Value → Shared → Prop} {s : Shared}
end
end L2
namespace L2
open PySem PySem.Spec PyProof.Rows
section
variable {prog : Program} {w : World} {A : Around} {R : Result → Shared → Prop} {it : Addr} {fp wr : List Addr} {P : Nat → Value → Prop} {St : Nat → Heap → Prop}
end
section
variable {prog : Program} {w : World} {A : Around} {E : Value → Shared → Prop} {s : Shared}
end
section
variable {X : Cx}
end
section
variable {prog : Program} {w : World} {A : Around} {R : Result → Shared → Prop} {it : Addr} {fp wr : List Addr} {P : Nat → Value → Prop} {St : Nat → Heap → Prop}
end
section
variable {prog : Program} {w : World} {A : Around} {E : Value → Shared → Prop} {s : Shared}
end
section
variable {X : Cx}
end
end L2
namespace L2
open PySem PySem.Spec PyProof.Rows
abbrev IPr := List Int × List Int
abbrev Prs2 (H : Hp) (as : List Addr) (ls : List IPr) : Prop := Paired (fun a (e : IPr) => ∃ x y, H a = some (.tup [.ref x, .ref y]) ∧ H x = some (.tup (e.1.map V.int)) ∧ H y = some (.tup (e.2.map V.int))) as ls
theorem Prs2.at {H : Hp} : ∀ {as : List Addr} {cs : List IPr} {i : Nat} {a : Addr}, Prs2 H as cs → as[i]? = some a → ∃ c x y, cs[i]? = some c ∧ H a = some (.tup [.ref x, .ref y]) ∧ H x = some (.tup (c.1.map V.int)) ∧ H y = some (.tup (c.2.map V.int))
  | _, _, 0, _, .cons (b := c) h t, e => by cases e; obtain ⟨x, y, h1, h2, h3⟩ := h; exact ⟨c, x, y, rfl, h1, h2, h3⟩
  | _, _, i + 1, _, .cons h t, e => Prs2.at (i := i) t e
  | _, _, _, _, .nil, e => by simp at e
theorem Prs2.same {H H' : Hp} {as : List Addr} {cs : List IPr} (h : Prs2 H as cs) (e : Same H H') : Prs2 H' as cs := Paired.mapP h fun _ _ ⟨x, y, h1, h2, h3⟩ => ⟨x, y, e _ _ h1, e _ _ h2, e _ _ h3⟩
theorem Prs2.tups {H H' : Hp} {as : List Addr} {cs : List IPr} (h : Prs2 H as cs) (e : ∀ b xs, H b = some (.tup xs) → H' b = some (.tup xs)) : Prs2 H' as cs := Paired.mapP h fun _ _ ⟨x, y, h1, h2, h3⟩ => ⟨x, y, e _ _ h1, e _ _ h2, e _ _ h3⟩
def dtE (e : IPr) : PyData := .tuple [.tuple (e.1.map PyData.int), .tuple (e.2.map PyData.int)]
theorem Prs2.dp {K : PySem.W.Frag} {H : Hp} {a x y : Addr} {e : IPr} (h1 : H a = some (.tup [.ref x, .ref y])) (h2 : H x = some (.tup (e.1.map V.int))) (h3 : H y = some (.tup (e.2.map V.int))) : Dp K H (.ref a) (dtE e) :=
  .tup (SqT.of h1) (.cons (Dp.ints (SqT.of h2)) (.cons (Dp.ints (SqT.of h3)) .nil))
theorem Prs2.dps {K : PySem.W.Frag} {H : Hp} : ∀ {as : List Addr} {cs : List IPr}, Prs2 H as cs → Dps K H (as.map V.ref) (cs.map dtE)
  | _, _, .nil => .nil
  | _, _, .cons ⟨_, _, h1, h2, h3⟩ t => .cons (Prs2.dp h1 h2 h3) (Prs2.dps t)
section
variable {X : Cx}
end
end L2
namespace L2
open PySem PySem.Spec PyProof.Rows
def OnlyT (Ps : List Addr) (H : Hp) : Prop := ∀ b, H b = none ∨ (∃ o xs, H b = some (.frz o (.lst xs))) ∨ (b ∈ Ps ∧ H b = some (.tbl #[]))
theorem law_callT {P : Program} {w : World} {K : PySem.W.Frag} {mg mb : Str → Option Value} {CX : CXT} {k : Nat} {fa a : Addr} {fd : FuncData} {x : Str} {sp : Sp} {s₁ : Shared} {vs : List Value} {ns : List Int} {Ts : List (Addr × Addr)}
    (KX : K.In s₁.heap) (hns : s₁.heap.Ns mainGlobals mg) (hb : s₁.heap.Ns builtinsNs mb) (hbb : ∀ x : Str, x ≠ "__name__" → mb x = bootBuiltins x) (hlim : s₁.heap.NoLimit) (hg : s₁.gens = #[])
    (ha : s₁.heap.get? a = some { cls := .type "list", data := .seq vs.toArray }) (hi : IntsAre vs ns) (hl : ns.length ≤ sizeLine) (hr : Room k callerA)
    (hT : ∀ q ∈ Ts, PySem.W.CodeHd s₁.heap q.1 q.2 ∧ s₁.heap.get? q.2 = some (PySem.W.tabObj #[])) (nK : ∀ q ∈ Ts, K.lookup q.2 = none)
    (hbm : ∃ bm ob, mg "__builtins__" = some (.ref bm) ∧ bm ≠ builtinsNs ∧ s₁.heap.get? bm = some ob ∧ ob.cls = .type "module" ∧ ob.dict = some builtinsNs ∧ ob.data = .plain)
    (F : ∀ base : Heap, K.In base → base.Ns mainGlobals mg → (∀ q ∈ Ts, base.BuiltinsAt mg q.2 ∧ mainGlobals ≠ q.2) → FnOk P w K mg base CX k fa fd [x] sp) (hbind : ∀ (s : Shared) (u : Value), BindsTo s fd ⟨[u], []⟩ [(x, u)])
    (hsp : ∀ H : Hp, OnlyT (Ts.map (·.2)) H → (∀ q ∈ Ts, H q.2 = some (.tbl #[])) → SqL K H a (ns.map V.int) → sp [.ref a] H (fun v _ => v = .bl true) fun _ _ _ => False)
    (hCX : ∀ H e s', CX [] H s₁ (fun _ _ _ => False) e s' → False) :
    codeAny (model P w) callerA (.call (.ref fa) ⟨[.ref a], []⟩) (fun r s' => r = .ok (.ret (.bool true)) ∧ OldK s₁.heap s'.heap ∧ s'.os = s₁.os ∧ AllBare s'.gens) s₁ := by
  have rv := vals_ints hi
  have lenV := hi.length
  have nTa : a ∉ Ts.map (·.2) := fun z => by
    obtain ⟨q, hq, e⟩ := List.mem_map.mp z
    have := (hT q hq).2
    rw [e, ha] at this; cases this
  have core : ∀ H : Hp, OnlyT (Ts.map (·.2)) H → (∀ q ∈ Ts, H q.2 = some (.tbl #[])) → SqL K H a (ns.map V.int) → HOk P w H s₁.heap → (∀ b, H b ≠ none → b = a ∨ b ∈ Ts.map (·.2)) → (H a ≠ none → K.lookup a = none) →
      codeAny (model P w) callerA (.call (.ref fa) ⟨[.ref a], []⟩) (fun r s' => r = .ok (.ret (.bool true)) ∧ OldK s₁.heap s'.heap ∧ s'.os = s₁.os ∧ AllBare s'.gens) s₁ := by
    intro H hO hTt hS hok hA hK
    have base_of : ∀ {b : Addr} {o : Obj}, s₁.heap.get? b = some o → H b = none → (hidT s₁.heap H).get? b = some o := fun e n => hidT_get e n
    have noA : ∀ {b : Addr} {o : Obj} {es : Array DictEntry} {ep : Nat}, s₁.heap.get? b = some o → o.data = .dict es ep → H b = none := fun {b o es ep} e d => by
      cases q : H b with
      | none => rfl
      | some u =>
        rcases hA b (by rw [q]; simp) with e' | e'
        · subst e'
          rw [ha] at e; cases e
          have d' : Data.seq vs.toArray _ = Data.dict es ep := d
          cases d'
        · obtain ⟨r, hr', rfl⟩ := List.mem_map.mp e'
          rw [(hT r hr').2] at e; cases e
          cases d
    have nsK : ∀ {b : Addr} {m : Str → Option Value}, s₁.heap.Ns b m → (hidT s₁.heap H).Ns b m := fun {b m} ⟨o, es, ep, e, d, r⟩ => ⟨o, es, ep, base_of e (noA e d), d, r⟩
    have hKb : K.In (hidT s₁.heap H) := fun b o e => base_of (KX b o e) (by
      cases q : H b with
      | none => rfl
      | some u =>
        rcases hA b (by rw [q]; simp) with e' | e'
        · subst e'
          rw [hK (by rw [q]; simp)] at e; cases e
        · obtain ⟨r, hr', rfl⟩ := List.mem_map.mp e'
          rw [nK r hr'] at e; cases e)
    have hM : Mod K mg (hidT s₁.heap H) := ⟨hKb, nsK hns, ⟨mb, nsK hb, hbb⟩, let ⟨mc, h1, h2⟩ := hlim; ⟨mc, nsK h1, h2⟩⟩
    have e0 : Env0 P w K mg (hidT s₁.heap H) callerA [] s₁ H := ⟨rfl, hM, fun b o e => of_hidT e, Nat.le_of_eq (hidT_size _ _), trivial, fun b hb => absurd (show b ∈ ([] : List Addr) from hb) (by simp), hok, .of_eq hg⟩
    have hBM : ∀ q ∈ Ts, (hidT s₁.heap H).BuiltinsAt mg q.2 ∧ mainGlobals ≠ q.2 := fun q hq => by
      obtain ⟨bm, ob, b1, b2, b3, b4, b5, b6⟩ := hbm
      have hgP : mainGlobals ≠ q.2 := fun z => by
        obtain ⟨o, es, ep, e, hd, _⟩ := hns
        rw [z, (hT q hq).2] at e; cases e; cases hd
      have hbP : bm ≠ q.2 := fun z => by rw [z, (hT q hq).2] at b3; cases b3; cases b6
      have hbG : bm ≠ mainGlobals := fun z => by
        obtain ⟨o, es, ep, e, hd, _⟩ := hns
        rw [z, e] at b3; cases b3; rw [hd] at b6; cases b6
      have hbn : H bm = none := by
        cases qq : H bm with
        | none => rfl
        | some u =>
          exfalso
          rcases hA bm (by rw [qq]; simp) with e' | e'
          · rw [e', ha] at b3; cases b3; cases b6
          · obtain ⟨r, hr', e''⟩ := List.mem_map.mp e'
            rw [← e'', (hT r hr').2] at b3; cases b3; cases b6
      exact ⟨⟨bm, ob, b1, b2, hbG, hbP, base_of b3 hbn, b4, b5, b6⟩, hgP⟩
    refine codeAny_mono ((F _ hKb (nsK hns) hBM).run callerA [] s₁ H ⟨[.ref a], []⟩ [.ref a] [.ref a] _ _ hr e0 (hbind s₁ (.ref a)) (.cons rfl .nil) (hsp H hO hTt hS)) fun r s' h => ?_
    cases r with
    | error e => exact (hCX H e s' h).elim
    | ok fl =>
      cases fl with
      | next => exact False.elim h
      | brk => exact False.elim h
      | cont => exact False.elim h
      | ret u =>
        obtain ⟨v, H', os, bare, un, hok', r', q⟩ := h
        have q' : v = .bl true := q
        subst q'
        obtain rfl : u = Value.bool true := r'
        have cases3 : ∀ b o, s₁.heap.get? b = some o → s'.heap.get? b = some o ∨ ∃ r ∈ Ts, r.2 = b ∧ ∃ more, s'.heap.get? b = some (PySem.W.tabObj (#[] ++ more)) := fun b o e => by
          cases q : H b with
          | none => exact .inl (un.keep b o e q (by intro z; exact absurd (show b ∈ ([] : List Addr) from z) (by simp)) (by simp))
          | some u =>
            rcases hO b with z | ⟨ob, xs, z⟩ | ⟨hb', z⟩
            · rw [q] at z; cases z
            · have z2 := un.frzs b ob _ z
              obtain ⟨e1, _⟩ := hok b _ z
              obtain ⟨e2, _⟩ := hok' b _ z2
              rw [e] at e1; cases e1
              exact .inl e2
            · obtain ⟨more, z2⟩ := un.tbls b _ z
              obtain ⟨r, hr', e'⟩ := List.mem_map.mp hb'
              exact .inr ⟨r, hr', e', more, hok' b _ z2⟩
        refine ⟨rfl, ⟨fun b o e => ?_, fun b o e => ?_⟩, os, bare⟩
        · rcases cases3 b o e with z | ⟨r, hr', rfl, more, z⟩
          · exact .inl z
          · obtain ⟨h1, h2⟩ := hT r hr'
            rw [h2] at e; cases e
            exact .inr (.inl ⟨(h1.tab h2).isCodeTable, rfl, #[], more, rfl, z⟩)
        · rcases cases3 b o e with z | ⟨r, hr', rfl, more, z⟩
          · exact ⟨_, z⟩
          · exact ⟨_, z⟩
  have tOf : ∀ q ∈ Ts, q.2 ∈ Ts.map (·.2) := fun q hq => List.mem_map.mpr ⟨q, hq, rfl⟩
  have tbl_ok : ∀ (H : Hp) b, b ∈ Ts.map (·.2) → ObjOk P w H s₁.heap b (.tbl #[]) := fun H b hb' => by
    obtain ⟨r, hr', rfl⟩ := List.mem_map.mp hb'
    exact (hT r hr').2
  cases hk : K.lookup a with
  | some o =>
    have e := KX a o hk
    rw [ha] at e
    cases e
    refine core (fun b => if b ∈ Ts.map (·.2) then some (.tbl #[]) else none) (fun b => ?_) (fun q hq => if_pos (tOf q hq)) (.inr ⟨_, vs.toArray, _, hk, rfl, rfl, rfl, by rw [List.size_toArray, lenV]; exact hl, by simpa using rv⟩) (fun b u z => ?_) (fun b z => ?_) fun z => absurd (if_neg nTa) z
    · by_cases hb : b ∈ Ts.map (·.2)
      · exact .inr (.inr ⟨hb, if_pos hb⟩)
      · exact .inl (if_neg hb)
    · by_cases hb : b ∈ Ts.map (·.2)
      · have z' := (if_pos hb).symm.trans z
        cases z'
        exact tbl_ok _ b hb
      · have z' := (if_neg hb).symm.trans z
        cases z'
    · by_cases hb : b ∈ Ts.map (·.2)
      · exact .inr hb
      · exact absurd (if_neg hb) z
  | none =>
    refine core (fun b => if b = a then some (.frz { cls := .type "list", data := .seq vs.toArray } (.lst (ns.map V.int))) else if b ∈ Ts.map (·.2) then some (.tbl #[]) else none) (fun b => ?_) (fun q hq => ?_) (.inl (.inr ⟨{ cls := .type "list", data := .seq vs.toArray }, if_pos rfl⟩)) (fun b u z => ?_) (fun b z => ?_) fun _ => hk
    · by_cases hb : b = a
      · exact .inr (.inl ⟨_, _, if_pos hb⟩)
      · by_cases hb2 : b ∈ Ts.map (·.2)
        · exact .inr (.inr ⟨hb2, (if_neg hb).trans (if_pos hb2)⟩)
        · exact .inl ((if_neg hb).trans (if_neg hb2))
    · have : q.2 ≠ a := fun z => nTa (z ▸ tOf q hq)
      exact (if_neg this).trans (if_pos (tOf q hq))
    · by_cases hb : b = a
      · have z' := (if_pos hb).symm.trans z
        cases z'
        subst hb
        exact ⟨ha, by rw [List.length_map]; exact hl, vs, _, rv, ha⟩
      · by_cases hb2 : b ∈ Ts.map (·.2)
        · have z' := ((if_neg hb).trans (if_pos hb2)).symm.trans z
          cases z'
          exact tbl_ok _ b hb2
        · have z' := ((if_neg hb).trans (if_neg hb2)).symm.trans z
          cases z'
    · by_cases hb : b = a
      · exact .inl hb
      · by_cases hb2 : b ∈ Ts.map (·.2)
        · exact .inr hb2
        · exact absurd ((if_neg hb).trans (if_neg hb2)) z
theorem walk_ofT {l : PySem.W.OpenLaw} {n k : Nat} {q : Program} {loose : List Str} {XP : (Str → Option Value) → Heap → Prop} {YP : World → Heap → Prop} {d : DefRec} {K : Params → PySem.W.Frag} {CX : World → CXT} {sp : World → Sp} {x : Str} {xs : List Str}
    (hn : l.most = some n) (hn2 : n ≤ sizeLine) (hdf : d.params.defaults = []) (hr : Room k callerA)
    (hY : ∀ (w : World) (h : Heap), YP w h → (K w.params).In h)
    (Ts : World → List (Addr × Addr))
    (hrec : ∀ y ∈ xs, ∃ e, (recsOf q).find? (fun e => e.name == y) = some e)
    (hts : ∀ (w : World), ∀ t ∈ Ts w, (∃ y ∈ xs, PySem.W.tabIn (K w.params) y = some t) ∧ (K w.params).lookup t.2 = none)
    (F : ∀ (w : World) (mg : Str → Option Value) (fa : Addr) (h : Heap), (K w.params).In h → h.Ns mainGlobals mg → mg d.name = some (.ref fa) →
      ∃ fd : FuncData, (∀ (s : Shared) (u : Value), BindsTo s fd ⟨[u], []⟩ [(x, u)]) ∧
        ∀ base : Heap, (K w.params).In base → base.Ns mainGlobals mg → (∀ t ∈ Ts w, base.BuiltinsAt mg t.2 ∧ mainGlobals ≠ t.2) → FnOk l.prog w (K w.params) mg base (CX w) k fa fd [x] (sp w))
    (hsp : ∀ (w : World) (H : Hp) (a : Addr) (ns : List Int), ns.length ≤ n → OnlyT ((Ts w).map (·.2)) H → (∀ t ∈ Ts w, H t.2 = some (.tbl #[])) → SqL (K w.params) H a (ns.map V.int) → sp w [.ref a] H (fun v _ => v = .bl true) fun _ _ _ => False)
    (hCX : ∀ (w : World) (H : Hp) (s : Shared) (e : Value) (s' : Shared), CX w [] H s (fun _ _ _ => False) e s' → False) :
    PySem.W.WalkO q loose XP YP l.row.toRowW d [] (fun f vs => PySem.call f vs) := by
  refine Att.attach_call hn hdf fun w s₀ s₁ mg mb fa o pm cd doc a vs ns G Y ho hd hcd hmg hobj hints hlen hg => ?_
  have KX := hY w _ Y
  obtain ⟨fd, hb, hF⟩ := F w mg fa _ KX G.T.g hmg
  refine law_callT (Ts := Ts w) KX G.T.g G.T.b G.T.builtins G.T.nolimit hg hobj hints (Nat.le_trans hlen hn2) hr (fun t ht => ?_) (fun t ht => (hts w t ht).2) G.T.bmain hF hb (fun H hO hT hS => hsp w H a ns hlen hO hT hS) fun H e s' => hCX w H s₁ e s'
  obtain ⟨⟨y, hy, e⟩, _⟩ := hts w t ht
  obtain ⟨r, hr'⟩ := hrec y hy
  exact PySem.W.tab_of G.T KX hr' e
end L2
namespace L2
open PySem PySem.Spec PyProof.Rows
def exO (a : Addr) (o : Obj) : HO := .ext fun h => h.get? a = some o
theorem exO_ok {P : Program} {w : World} {H : Hp} {h : Heap} {a : Addr} {o : Obj} (e : h.get? a = some o) : ObjOk P w H h a (exO a o) := ⟨e, ⟨o, e⟩, fun _ _ e1 k => k _ e1⟩
def CodeOf (oc : Obj) (c : Addr) (qual : Str) : Prop := ∀ h : Heap, h.get? c = some oc → h.CodeRec (.ref c) qual
def tLam (P : Addr) (pos : Pos) (qual : Str) (mk : Addr → Value → Obj) : TE := fun _ H Q => ∃ ps, H P = some (.tbl ps) ∧ TriplesOk ps.toList ∧ codeAmong pos ps.toList = none ∧
  ∀ f c' oc ctv, H f = none → H c' = none → f ≠ c' → CodeOf oc c' qual → Q (.ref f) (upd (upd (upd H P (.tbl (ps ++ #[rawInt pos.line, rawInt pos.col, .ref c']))) c' (exO c' oc)) f (exO f (mk c' ctv)))
theorem pe_lam {X : Cx} {params : Arguments} {body : Expr} {scope : Scope} {pos : Pos} {P c : Addr} {clos : List (Str × Addr)} (hdef : defaultsOf params X.env = ([], [])) (hcl : closureFor scope X.env = pure clos) (hcode : X.env.code = .ref c)
    (hC : PySem.W.codeHdIn X.K c P = true) (hB : X.base.BuiltinsAt X.mg P) (hgP : mainGlobals ≠ P) :
    PE X (.Lambda params body scope pos) (tLam P pos (X.env.qual ++ "<lambda>") fun c' ctv => PySem.W.kla_obj "<lambda>" (X.env.qual ++ "<lambda>") params body scope clos ((X.mg "__name__").getD .none) c' ctv) := by
  intro pins s σ H Q I h
  obtain ⟨ps, hP, ht, hnf, q⟩ := h
  have hPs : s.heap.get? P = some (PySem.W.tabObj ps) := I.hok P _ hP
  refine PySem.W.kla_eval hdef (PySem.W.kla_makeFunction hcl I.ok.glob (I.mod.glob.keeps I.bk) hcode (PySem.W.codeHd_of_K I.kIn hC) hPs ht hnf hgP
    (let ⟨bm, o, h1, h2, h3, h4, h5, r⟩ := hB; ⟨bm, o, h1, h2, h3, h4, I.bk _ _ h5, r⟩) fun c' ctv h' tk hx hge hlt hrec hP' => ?_)
  obtain ⟨oc, hoc⟩ : ∃ oc, h'.get? c' = some oc := by
    obtain ⟨a, o, _, _, e0, e1, _⟩ := hrec
    cases e0
    exact ⟨o, e1⟩
  have hsz : s.heap.objs.size ≤ h'.objs.size := by
    have : c' < h'.objs.size := hlt
    omega
  have hcN : s.heap.get? c' = none := Heap.get?_none_of_le hge
  have hfN : s.heap.get? h'.objs.size = none := Heap.get?_none_of_le hsz
  have hHc : H c' = none := I.hok.none_of hcN
  have hHf : H h'.objs.size = none := I.hok.none_of hfN
  have hfc : h'.objs.size ≠ c' := Nat.ne_of_gt hlt
  have hPc : P ≠ c' := ne_of_none hP hHc
  have hPf : P ≠ h'.objs.size := ne_of_none hP hHf
  refine ⟨.ref h'.objs.size, _, ?_, rfl, q h'.objs.size c' oc ctv hHf hHc hfc fun h1 e1 => ?_⟩
  · have kp : ∀ b o, b ≠ P → s.heap.get? b = some o → (h'.push (PySem.W.kla_obj "<lambda>" (X.env.qual ++ "<lambda>") params body scope clos ((X.mg "__name__").getD .none) c' ctv)).get? b = some o := fun b o hb e => Heap.get?_push_of_some _ (hx b o hb e)
    have nPn : ∀ b, H b = none → b ≠ P := fun b n z => by rw [z, hP] at n; cases n
    have new : ∀ b u, s.heap.get? b = some u → b ≠ c' ∧ b ≠ h'.objs.size := fun b u e => ⟨fun z => (by rw [z, hcN] at e; cases e), fun z => (by rw [z, hfN] at e; cases e)⟩
    refine I.step (g' := s.gens) (d' := s.drawn) (ch := []) (fun _ z => nomatch z) (fun b o _ _ _ e n => kp b o (nPn b n) e) (fun b o _ _ _ e n => ⟨o.slots, kp b o (nPn b n) e⟩) (fun b o _ e n => ?_) (fun b o _ e => ?_) (fun b xs e => ?_) (fun b o u e => ?_) (fun b ps' e => ?_) (fun m hm => ?_) (fun b u e => ?_) I.bare
    · rw [upd_ne (new b o e).2, upd_ne (new b o e).1, upd_ne (nPn b n)]; exact n
    · by_cases hb : b = P
      · subst hb; exact ⟨_, Heap.get?_push_of_some _ hP'⟩
      · exact ⟨o, kp b o hb e⟩
    · rw [upd_ne (ne_of_none e hHf), upd_ne (ne_of_none e hHc), upd_ne (ne_of e hP (fun z => nomatch z))]; exact e
    · rw [upd_ne (ne_of_none e hHf), upd_ne (ne_of_none e hHc), upd_ne (ne_of e hP (fun z => nomatch z))]; exact e
    · by_cases hb : b = P
      · subst hb
        rw [hP] at e; cases e
        exact ⟨_, by rw [upd_ne hPf, upd_ne hPc, upd_same]⟩
      · exact ⟨#[], by rw [upd_ne (ne_of_none e hHf), upd_ne (ne_of_none e hHc), upd_ne hb, e]; simp⟩
    · exact (hm.extBut hx (fun z => by rw [← z, I.free] at hP; cases hP)).push _
    · by_cases hbf : b = h'.objs.size
      · subst hbf
        rw [upd_same] at e; cases e
        exact exO_ok (Heap.get?_push_size _ rfl)
      rw [upd_ne hbf] at e
      by_cases hbc : b = c'
      · subst hbc
        rw [upd_same] at e; cases e
        exact exO_ok (Heap.get?_push_of_some _ hoc)
      rw [upd_ne hbc] at e
      by_cases hbP : b = P
      · subst hbP
        rw [upd_same] at e; cases e
        exact Heap.get?_push_of_some _ hP'
      rw [upd_ne hbP] at e
      refine (I.hok b u e).stay (fun b2 u2 hb2 e2 => kp b2 u2 ?_ e2) (fun b2 e2 => ?_) (fun b2 xs e2 => ?_)
      · rcases hb2 with z | z
        · rw [z]; exact hbP
        · exact ne_of z hP (fun z => nomatch z)
      · rw [upd_ne (ne_of_none e2 hHf), upd_ne (ne_of_none e2 hHc), upd_ne (ne_of e2 hP (fun z => nomatch z))]; exact e2
      · rw [upd_ne (ne_of_none e2 hHf), upd_ne (ne_of_none e2 hHc), upd_ne (ne_of e2 hP (fun z => nomatch z))]; exact e2
  · obtain ⟨a, o, vs, t, e0, e2, r⟩ := hrec
    cases e0
    rw [hoc] at e2; cases e2
    exact ⟨_, _, vs, t, rfl, e1, r⟩
end L2
namespace L2
open PySem PySem.Spec PyProof.Rows
structure LamScope (ps : List Str) (clos : List (Str × Addr)) (scope : Scope) : Prop where
  kind : scope.kind = .function
  co : scope.isCoroutine = false
  gen : scope.isGenerator = false
  nocell : ∀ x ∈ scope.names, x.2 ≠ .cell
  par : ∀ x ∈ ps, scope.names.lookup x = some .local
  free : ∀ x, scope.names.lookup x = some .free → ∃ c, clos.lookup x = some c
  fr : ∀ x ∈ clos.map (·.1), scope.names.lookup x = some .free
  nd : (ps ++ clos.map (·.1)).Nodup
  inj : ∀ x y c, clos.lookup x = some c → clos.lookup y = some c → x = y
def lamEnv (qual : Str) (scope : Scope) (clos : List (Str × Addr)) (L f : Addr) (cd : Value) : Env := newEnv scope L mainGlobals clos (qual ++ ".<locals>.") (some f) cd none builtinsNs
def cxLam (P : Program) (w : World) (K : PySem.W.Frag) (mg : Str → Option Value) (base : Heap) (ps : List Str) (clos : List (Str × Addr)) (qual : Str) (scope : Scope) (f : Addr) (cd : Value) (A : Around) (outer : List Env) (s : Shared) (H : Hp) : Cx where
  prog := P
  w := w
  K := K
  mg := mg
  base := base
  A := A.deeper (lamEnv qual scope clos s.heap.objs.size f cd)
  N := ps ++ clos.map (·.1)
  s₀ := s
  H₀ := H
  env := lamEnv qual scope clos s.heap.objs.size f cd
  outer := outer
  stack := lamEnv qual scope clos s.heap.objs.size f cd :: outer
  ex := []
  fn := fun _ => false
  calm := true
  pn := []
  xe := fun _ _ => False
theorem lookup_nd {β : Type} : ∀ {l : List (Str × β)} {x : Str} {u : β}, (l.map (·.1)).Nodup → (x, u) ∈ l → l.lookup x = some u
  | [], _, _, _, h => by simp at h
  | (y, v) :: r, x, u, hn, h => by
    rw [List.map_cons, List.nodup_cons] at hn
    rw [List.lookup_cons]
    rcases List.mem_cons.mp h with e | h
    · cases e; simp
    · have : ¬ x = y := fun z => hn.1 (by rw [← z]; exact List.mem_map.mpr ⟨_, h, rfl⟩)
      have hb : (x == y) = false := by simpa using this
      rw [hb]
      exact lookup_nd hn.2 h
theorem lam_inv {P : Program} {w : World} {K : PySem.W.Frag} {mg : Str → Option Value} {base : Heap} {ps : List Str} {clos : List (Str × Addr)} {qual : Str} {scope : Scope} {f : Addr} {cd : Value} {A : Around} {outer : List Env} {s : Shared} {H : Hp} {us : List Value} {vs cvs : List V} {h' : Heap} {tk : Nat} {fo : Obj}
    (S : LamScope ps clos scope) (hd : A.handled = none) (e0 : Env0 P w K mg base A outer s H) (hl : vs.length = ps.length) (r : Vals vs us) (hcl : cvs.length = clos.length)
    (hc : ∀ (i : Nat) x c v, clos[i]? = some (x, c) → cvs[i]? = some v → H c = none ∧ ∃ u, RelV v u ∧ s.heap.IsCell c (some u))
    (hns : h'.Ns s.heap.objs.size fun x => (ps.zip us).reverse.lookup x) (hsb : Heap.SameBut s.heap.objs.size (s.heap.push fo) h') :
    Inv (cxLam P w K mg base ps clos qual scope f cd A outer s H) [] (vs.map some ++ cvs.map some) H { s with heap := h', toks := tk } := by
  have hk : ∀ b o, s.heap.get? b = some o → h'.get? b = some o := fun b o e => (hsb.2 b (Nat.ne_of_lt (Heap.lt_size e))).trans (Heap.get?_push_of_some _ e)
  have nd := List.nodup_append.mp S.nd
  have cellAt : ∀ x c, clos.lookup x = some c → ∃ (i : Nat) (v : V), clos[i]? = some (x, c) ∧ cvs[i]? = some v := fun x c h => by
    obtain ⟨i, hi⟩ := List.mem_iff_getElem?.mp (PySem.mem_of_lookup h)
    have hlt := (List.getElem?_eq_some_iff.mp hi).1
    exact ⟨i, cvs[i], hi, List.getElem?_eq_getElem (by omega)⟩
  have cellK : ∀ c v, s.heap.IsCell c v → h'.IsCell c v := fun c v ⟨o, ho, hd⟩ => ⟨o, hk _ _ ho, hd⟩
  refine ⟨⟨e0.mod, S.kind, rfl, rfl, Nat.le_refl _, S.inj, fun y hy => ?_, fun y c z _ => absurd z Bool.false_ne_true, fun _ => hd, Around.frames_deeper e0.frames, .inr ⟨rfl, rfl⟩, fun b z => absurd (show b ∈ ([] : List Addr) from z) (by simp), e0.bs, e0.bsz, fun b _ _ z => absurd (show b ∈ ([] : List Addr) from z) (by simp), fun b z => absurd (show b ∈ ([] : List Addr) from z) (by simp), e0.funs, e0.frf⟩,
    rfl, e0.bare, Un.kept hk, ⟨_, hns, fun i y v h1 h2 h3 => ?_⟩, fun y c h => ?_, e0.hok.fresh (Nat.le_refl _), fun y c h => ?_, fun p hp => absurd (show p ∈ ([] : List (Addr × Obj)) from hp) (by simp), e0.hok.kept hk, ?_⟩
  · have hy : scope.names.lookup y = some .cell ∨ scope.names.lookup y = some .free := hy
    rcases hy with hy | hy
    · exact absurd rfl (S.nocell _ (PySem.mem_of_lookup hy))
    · exact S.free y hy
  · have h1 : (ps ++ clos.map (·.1))[i]? = some y := h1
    by_cases hi : i < ps.length
    · rw [List.getElem?_append_left hi] at h1
      rw [List.getElem?_append_left (by rw [List.length_map]; omega), List.getElem?_map] at h2
      have ha : vs[i]? = some v := by
        cases e : vs[i]? with
        | none => rw [e] at h2; cases h2
        | some a => rw [e] at h2; cases h2; rfl
      obtain ⟨u, hu, rv⟩ := r.get ha
      refine ⟨u, rv, .inl ⟨S.par y (List.mem_of_getElem? h1), ?_⟩⟩
      refine lookup_nd ?_ (List.mem_reverse.mpr (List.mem_iff_getElem?.mpr ⟨i, by rw [List.getElem?_zip_eq_some]; exact ⟨h1, hu⟩⟩))
      rw [List.map_reverse]
      refine (List.reverse_perm _).nodup_iff.mpr ?_
      rw [List.map_fst_zip (by have := r.length; omega)]
      exact nd.1
    · rw [List.getElem?_append_right (by omega), List.getElem?_map] at h1
      rw [List.getElem?_append_right (by rw [List.length_map]; omega), List.getElem?_map, List.length_map, hl] at h2
      obtain ⟨⟨y', c⟩, e1, e2⟩ := Option.map_eq_some_iff.mp h1
      cases e2
      obtain ⟨v', e3, e4⟩ := Option.map_eq_some_iff.mp h2
      cases e4
      obtain ⟨_, u, rv, hcell⟩ := hc _ _ _ _ e1 e3
      have hm : (y', c) ∈ clos := List.mem_of_getElem? e1
      exact ⟨u, rv, .inr ⟨.inr (S.fr y' (List.mem_map.mpr ⟨_, hm, rfl⟩)), c, lookup_nd nd.2.1 hm, cellK _ _ hcell⟩⟩
  · obtain ⟨i, v, e1, e2⟩ := cellAt y c h
    obtain ⟨_, u, _, hcell⟩ := hc _ _ _ _ e1 e2
    exact ⟨_, cellK _ _ hcell⟩
  · obtain ⟨i, v, e1, e2⟩ := cellAt y c h
    exact (hc _ _ _ _ e1 e2).1
  · show (vs.map some ++ cvs.map some).length = (ps ++ clos.map (·.1)).length
    rw [List.length_append, List.length_append, List.length_map, List.length_map, List.length_map]
    omega
theorem lam_run {CX : CXT} {P : Program} {w : World} {K : PySem.W.Frag} {mg : Str → Option Value} {base : Heap} {k : Nat} {f c' : Addr} {name qual : Str} {params : Arguments} {body : Expr} {scope : Scope} {pm ctv : Value} {ps : List Str} {clos : List (Str × Addr)} {A : Around} {outer : List Env} {s : Shared} {H : Hp} {args : Args} {us : List Value} {vs cvs : List V} {Q : VK} {E : XK}
    (ho : s.heap.get? f = some (PySem.W.kla_obj name qual params body scope clos pm c' ctv)) (hrec : s.heap.CodeRec (.ref c') qual) (S : LamScope ps clos scope) (hr : Room (k + 1) A) (e0 : Env0 P w K mg base A outer s H) (hl : vs.length = ps.length) (r : Vals vs us) (hcl : cvs.length = clos.length)
    (hc : ∀ (i : Nat) x c v, clos[i]? = some (x, c) → cvs[i]? = some v → H c = none ∧ ∃ u, RelV v u ∧ s.heap.IsCell c (some u)) (hb : BindsTo s (PySem.W.kla_fn name qual params body scope clos pm (.ref c') ctv) args (ps.zip us))
    (hbody : Room k (A.deeper (lamEnv qual scope clos s.heap.objs.size f (.ref c'))) → ∃ te, PE (cxLam P w K mg base ps clos qual scope f (.ref c') A outer s H) body te ∧ te (vs.map some ++ cvs.map some) H Q) :
    codeAny (model P w) A (.call (.ref f) args) (CR CX outer P w H s Q E) s := by
  have lim : s.heap.NoLimit := e0.mod.nolimit.keeps fun b o e => (e0.bs b o e).1
  refine PySem.W.kla_callFunE hr.depth ho rfl S.co S.gen rfl hrec (hb _ _ _ _ ?_)
  refine wpAny_newFunctionEnv S.nocell (fun x hx => S.par x.1 (List.of_mem_zip hx).1) (fun h' hns hsb => ?_) S.kind
  have hk : ∀ b o, s.heap.get? b = some o → h'.get? b = some o := fun b o e => (hsb.2 b (Nat.ne_of_lt (Heap.lt_size e))).trans (Heap.get?_push_of_some _ e)
  refine ⟨lim.keeps hk, PySem.W.kla_codeExpr ?_⟩
  obtain ⟨te, ht, hq⟩ := hbody (hr.deeper _)
  have I := lam_inv (qual := qual) (f := f) (cd := .ref c') (tk := s.toks + (ps.zip us).length) S hr.hd e0 hl r hcl hc hns hsb
  exact wpAny_mono (ht [] _ _ H Q I hq) (fun v s' ⟨x, H', J, rx, q⟩ => ⟨x, H', J.os, J.bare, J.base, J.hok, rx, q⟩) fun e s' z => False.elim z
end L2
namespace L2
open PySem PySem.Spec PyProof.Rows
def drp (H : Hp) (c : Addr) : Hp := fun b => if b = c then none else H b
theorem drp_same {H : Hp} {c : Addr} : drp H c c = none := if_pos rfl
theorem drp_ne {H : Hp} {b c : Addr} (h : b ≠ c) : drp H c b = H b := if_neg h
theorem drp_none {H : Hp} {b c : Addr} (h : H b = none) : drp H c b = none := by
  by_cases e : b = c
  · rw [e]; exact drp_same
  · rw [drp_ne e]; exact h
theorem drp_some {H : Hp} {b c : Addr} {u v : HO} (h : H b = some u) (hc : H c = some v) (d : u ≠ v) : drp H c b = some u := by rw [drp_ne (ne_of h hc d)]; exact h
theorem exO_ne {a : Addr} {o : Obj} {u : HO} (h : ∀ φ, u ≠ .ext φ) : u ≠ exO a o := h _
theorem hok_drp {P : Program} {w : World} {H : Hp} {h : Heap} {c : Addr} {o : Obj} (ok : HOk P w H h) (hc : H c = some (exO c o)) : HOk P w (drp H c) h := fun a u e => by
  by_cases ha : a = c
  · subst ha; rw [drp_same] at e; cases e
  rw [drp_ne ha] at e
  exact (ok a u e).stay (fun _ _ _ z => z) (fun b z => drp_some z hc (exO_ne fun φ q => nomatch q)) (fun b xs z => drp_some z hc (exO_ne fun φ q => nomatch q))
theorem Env0.drp {P : Program} {w : World} {K : PySem.W.Frag} {mg : Str → Option Value} {base : Heap} {A : Around} {outer : List Env} {s : Shared} {H : Hp} {c : Addr} {o : Obj} (e : Env0 P w K mg base A outer s H) (hc : H c = some (exO c o)) : Env0 P w K mg base A outer s (L2.drp H c) :=
  ⟨e.frames, e.mod, fun b ob z => ⟨(e.bs b ob z).1, drp_none (e.bs b ob z).2⟩, e.bsz, e.funs, fun b hb => drp_none (e.frf b hb), hok_drp e.hok hc, e.bare⟩
theorem ce_back {P : Program} {w : World} {outer : List Env} {H : Hp} {s s' : Shared} {Q : VK} {u : Value} {c : Addr} {o : Obj} (hc : H c = some (exO c o)) (ho : s.heap.get? c = some o) (nf : c ∉ frs outer)
    (h : CE outer P w (drp H c) s (fun v H' => H' c = none → Q v (upd H' c (exO c o))) u s') : CE outer P w H s Q u s' := by
  obtain ⟨v, H', os, bare, un, hok, rv, q⟩ := h
  have hk : s'.heap.get? c = some o := un.keep c o ho drp_same nf (by simp)
  have hn : H' c = none := un.free c o ho drp_same (by simp)
  have nec : ∀ b, H b = none → b ≠ c := fun b z e => by rw [e, hc] at z; cases z
  refine ⟨v, _, os, bare, ⟨fun b ob e n hb hx => un.keep b ob e (drp_none n) hb hx, fun b ob e n hb hx => un.slot b ob e (drp_none n) hb hx, fun b ob e n hx => ?_, un.there, fun b xs e => ?_, fun b ob x e => ?_, fun b ps e => ?_⟩, fun a x e => ?_, rv, q hn⟩
  · rw [upd_ne (nec b n)]; exact un.free b ob e (drp_none n) hx
  · have z := un.tups b xs (drp_some e hc (exO_ne fun φ q => nomatch q))
    rw [upd_ne (ne_of_none z hn)]; exact z
  · have z := un.frzs b ob x (drp_some e hc (exO_ne fun φ q => nomatch q))
    rw [upd_ne (ne_of_none z hn)]; exact z
  · obtain ⟨more, z⟩ := un.tbls b ps (drp_some e hc (exO_ne fun φ q => nomatch q))
    exact ⟨more, by rw [upd_ne (ne_of_none z hn)]; exact z⟩
  · by_cases ha : a = c
    · subst ha
      rw [upd_same] at e; cases e
      exact exO_ok hk
    · rw [upd_ne ha] at e
      exact (hok a x e).stay (fun _ _ _ z => z) (fun b z => by rw [upd_ne (ne_of_none z hn)]; exact z) (fun b xs z => by rw [upd_ne (ne_of_none z hn)]; exact z)
end L2
namespace L2
open PySem PySem.Spec PyProof.Rows
theorem hok_own {P : Program} {w : World} {H : Hp} {h : Heap} {c : Addr} {o : Obj} (ok : HOk P w H h) (hc : H c = none) (ho : h.get? c = some o) : HOk P w (upd H c (exO c o)) h := fun a u e => by
  by_cases ha : a = c
  · subst ha
    rw [upd_same] at e; cases e
    exact exO_ok ho
  · rw [upd_ne ha] at e
    exact (ok a u e).stay (fun _ _ _ z => z) (fun b z => by rw [upd_ne (ne_of_none z hc)]; exact z) (fun b xs z => by rw [upd_ne (ne_of_none z hc)]; exact z)
theorem Env0.own {P : Program} {w : World} {K : PySem.W.Frag} {mg : Str → Option Value} {base : Heap} {A : Around} {outer : List Env} {s : Shared} {H : Hp} {c : Addr} {o : Obj} (e : Env0 P w K mg base A outer s H) (hc : H c = none) (ho : s.heap.get? c = some o) (nb : base.get? c = none) (nf : c ∉ frs outer) :
    Env0 P w K mg base A outer s (upd H c (exO c o)) :=
  ⟨e.frames, e.mod, fun b ob z => ⟨(e.bs b ob z).1, by rw [upd_ne (fun q => by rw [q, nb] at z; cases z)]; exact (e.bs b ob z).2⟩, e.bsz, e.funs, fun b hb => by rw [upd_ne (fun (q : b = c) => nf (by rw [← q]; exact hb))]; exact e.frf b hb, hok_own e.hok hc ho, e.bare⟩
theorem ce_own {P : Program} {w : World} {outer : List Env} {H : Hp} {s s' : Shared} {Q : VK} {u : Value} {c : Addr} {o : Obj} (hc : H c = none) (ho : s.heap.get? c = some o)
    (h : CE outer P w (upd H c (exO c o)) s (fun v H' => H' c = some (exO c o) ∧ Q v (drp H' c)) u s') : CE outer P w H s Q u s' := by
  obtain ⟨v, H', os, bare, un, hok, rv, hH, q⟩ := h
  have hk : s'.heap.get? c = some o := (hok c _ hH).1
  have up : ∀ {b : Addr} {x : HO}, H b = some x → upd H c (exO c o) b = some x := fun e => by rw [upd_ne (ne_of_none e hc)]; exact e
  have un0 : ∀ {b : Addr}, b ≠ c → H b = none → upd H c (exO c o) b = none := fun hb n => by rw [upd_ne hb]; exact n
  have dn : ∀ {b : Addr} {x : HO}, H b ≠ none → H' b = some x → drp H' c b = some x := fun n e => by
    rw [drp_ne (fun z => n (by rw [z]; exact hc))]; exact e
  refine ⟨v, drp H' c, os, bare, ⟨fun b ob e n hb hx => ?_, fun b ob e n hb hx => ?_, fun b ob e n hx => ?_, un.there, fun b xs e => ?_, fun b ob x e => ?_, fun b ps e => ?_⟩, hok_drp hok hH, rv, q⟩
  · by_cases hbc : b = c
    · subst hbc; rw [ho] at e; cases e; exact hk
    · exact un.keep b ob e (un0 hbc n) hb hx
  · by_cases hbc : b = c
    · subst hbc; rw [ho] at e; cases e; exact ⟨_, hk⟩
    · exact un.slot b ob e (un0 hbc n) hb hx
  · by_cases hbc : b = c
    · subst hbc; exact drp_same
    · rw [drp_ne hbc]; exact un.free b ob e (un0 hbc n) hx
  · exact dn (by rw [e]; simp) (un.tups b xs (up e))
  · exact dn (by rw [e]; simp) (un.frzs b ob x (up e))
  · obtain ⟨more, z⟩ := un.tbls b ps (up e)
    exact ⟨more, dn (by rw [e]; simp) z⟩
section
variable {X : Cx} {pins : List (Addr × Obj)} {σ : St} {H : Hp} {s : Shared}
theorem Inv.ownCell (I : Inv X pins σ H s) {i : Nat} {y : Str} {v : V} {c : Addr} (hN : X.N[i]? = some y) (hσ : σ[i]? = some (some v)) (hk : X.env.scope.names.lookup y = some .cell) (hcl : X.env.cells.lookup y = some c) (hL : X.env.locals < c) :
    ∃ o u, s.heap.get? c = some o ∧ o.data = .cell (some u) ∧ RelV v u ∧ H c = none ∧ X.base.get? c = none ∧ c ∉ frs X.stack := by
  obtain ⟨m, hn, hl⟩ := I.loc
  obtain ⟨u, r, l⟩ := hl i y v hN hσ (.inr (.inl hk))
  have hcell : ∃ c, X.env.cells.lookup y = some c ∧ s.heap.IsCell c (some u) := by
    rcases l with ⟨z, _⟩ | ⟨_, z⟩
    · have z' : X.env.scope.names.lookup y = some .local := z
      rw [hk] at z'; cases z'
    · exact z
  obtain ⟨c', hc', o, ho, hd⟩ := hcell
  rw [hcl] at hc'; cases hc'
  have hsz : X.s₀.heap.objs.size ≤ X.env.locals := I.ok.above
  refine ⟨o, u, ho, hd, r, I.freeC y c hcl, Heap.get?_none_of_le (Nat.le_trans I.ok.bsz (Nat.le_trans hsz (Nat.le_of_lt hL))), fun hb => ?_⟩
  rcases List.mem_cons.mp (I.stkSub c hb) with z | z
  · exact Nat.ne_of_gt hL z
  · obtain ⟨_, o2, ho2, _⟩ := I.ok.funs.mem z
    exact Nat.lt_irrefl _ (Nat.lt_of_lt_of_le (Nat.lt_trans (Heap.lt_size ho2) (Nat.lt_of_le_of_lt hsz hL)) (Nat.le_refl _))
def tCallC (sp : Sp) (c : Addr) (i : Nat) (t : TA) : TE := fun σ H Q => t σ H fun vs H1 => ∃ v, σ[i]? = some (some v) ∧ ∀ o u, H1 c = none → RelV v u → o.data = .cell (some u) →
  sp vs (upd H1 c (exO c o)) (fun r H' => H' c = some (exO c o) ∧ Q r (drp H' c)) E0
theorem pe_calC {x y : Str} {k i : Nat} {c : Addr} {ps : List Str} {sp : Sp} {p pos : Pos} {e : Expr} {es : List Expr} {t : TA} (C : Callee X.prog X.w X.K X.mg X.base x k ps sp) (hr : Room k X.A) (hg : Gl X x) (ha : PA X (e :: es) t)
    (hN : X.N[i]? = some y) (hk : X.env.scope.names.lookup y = some .cell) (hcl : X.env.cells.lookup y = some c) (hL : X.env.locals < c)
    (hdb : (x == ("__debug__" : Str)) = false := by decide) (he : starEach (e :: es) X.env = (false, eval e X.env) :: starEach es X.env := by rfl) (hpl : (backTo pos (starEach es X.env)).any (·.1) = false := by rfl) :
    PE X (.Call (.Name x p) (e :: es) [] pos) (tCallC sp c i t) := by
  obtain ⟨f, fd, G, hm, hkp, hb⟩ := C.ex
  intro pins s σ H Q I h
  refine wpAny_Call_Name_kw (ld_glob I hg hm ?_ hdb)
  refine PySem.W.callWith_K (h₀ := X.base) I.ok.mod.kin hkp (thn (ha pos pins s σ H _ I h) fun us s1 ⟨vs, H1, I1, r, v, hσ, q⟩ => ⟨I1.kIn, ?_⟩) he hpl
  obtain ⟨o, u, ho, hd, rv, hc, nb, nf⟩ := I1.ownCell hN hσ hk hcl hL
  have q := q o u hc rv hd
  have hl : us.length = ps.length := by rw [← r.length]; exact G.len _ _ _ _ q
  have bi : BindsTo s1 fd ⟨us, []⟩ (ps.zip us) := by
    have := hb s1 us I1.kIn (by rw [List.append_nil]; exact hl)
    rw [List.append_nil] at this
    exact this
  refine wpAny_call (codeAny_mono (G.run X.A X.stack s1 _ ⟨us, []⟩ us vs _ E0 hr (I1.env0.own hc ho nb nf) bi r q) fun r s' hq => ?_)
  cases r with
  | error e => exact False.elim hq
  | ok fl =>
    cases fl with
    | ret u => exact I1.after (ce_own hc ho hq)
    | next => exact False.elim hq
    | brk => exact False.elim hq
    | cont => exact False.elim hq
end
section
variable {M : Model} {A : Around} {E : Value → Shared → Prop} {s : Shared} {env : Env} {pos : Pos} {f : Addr} {Q : Value → Shared → Prop}
theorem callWith_dyn {e : Expr} {rest : List Expr} (h : wpAny M A (spliced (backTo pos (starEach (e :: rest) env))) (fun vs s₁ => (∃ o fd, s₁.heap.get? f = some o ∧ o.data = .func fd) ∧ wpAny M A (call (.ref f) vs) Q E s₁) E s)
    (he : starEach (e :: rest) env = (false, eval e env) :: starEach rest env) (hplain : (backTo pos (starEach rest env)).any (·.1) = false) :
    wpAny M A (callWith pos (.ref f) [] (backTo pos (starEach (e :: rest) env)) []) Q E s := by
  rw [he] at h ⊢
  refine PySem.W.callWith_of (P := fun h => ∃ o fd, h.get? f = some o ∧ o.data = .func fd) (by show ((false || (backTo pos (starEach rest env)).any (·.1)) || false) = false; rw [hplain]; rfl) (fun h ⟨o, fd, ho, hd⟩ => ⟨.frame, .inl rfl, ?_⟩) (Calls.evalArgs_plain h)
  obtain ⟨cls, di, da, sl⟩ := o
  cases hd
  exact (PySem.W.Looks.ld (part := none) ho).andThen .now
end
section
variable {X : Cx}
def tCallV (r : Addr → List V → Hp → VK → Prop) (te : TE) (t : TA) : TE := fun σ H Q => te σ H fun x H1 => ∃ f o fd, x = .ref f ∧ o.data = .func fd ∧ t σ H1 fun vs H2 => H2 f = some (exO f o) ∧ r f vs H2 Q
theorem pe_callV {x : Str} {p pos : Pos} {e : Expr} {es : List Expr} {te : TE} {t : TA} {r : Addr → List V → Hp → VK → Prop} (hf : PE X (.Name x p) te) (hr : ∀ f, CallR X (.ref f) (r f)) (ha : PA X (e :: es) t)
    (he : starEach (e :: es) X.env = (false, eval e X.env) :: starEach es X.env := by rfl) (hpl : (backTo pos (starEach es X.env)).any (·.1) = false := by rfl) :
    PE X (.Call (.Name x p) (e :: es) [] pos) (tCallV r te t) := by
  intro pins s σ H Q I h
  refine wpAny_Call_Name_kw (thn (hf pins s σ H _ I h) fun v s1 ⟨z, H1, I1, rz, f, o, fd, ez, hd, q⟩ => ?_)
  subst ez
  cases (show v = Value.ref f from rz)
  exact callWith_dyn (thn (ha pos pins s1 σ H1 _ I1 q) fun us s2 ⟨vs, H2, I2, r2, hH2, q2⟩ => ⟨⟨o, fd, (I2.hok _ _ hH2).1, hd⟩, hr f pins s2 σ H2 vs us Q I2 r2 q2⟩) he hpl
theorem call_lam1 {k : Nat} {name qual y : Str} {params : Arguments} {body : Expr} {scope : Scope} {pm : Value} {ps : List Str} {te : TE} (hr : Room (k + 1) X.A) (hps : ∀ c, LamScope ps [(y, c)] scope)
    (hb : ∀ (s : Shared) (us : List Value) (c c' : Addr) (ctv : Value), us.length = ps.length → BindsTo s (PySem.W.kla_fn name qual params body scope [(y, c)] pm (.ref c') ctv) ⟨us, []⟩ (ps.zip us))
    (hbody : ∀ (f c c' : Addr) (A : Around) (outer : List Env) (s : Shared) (H : Hp), Room k (A.deeper (lamEnv qual scope [(y, c)] s.heap.objs.size f (.ref c'))) → PE (cxLam X.prog X.w X.K X.mg X.base ps [(y, c)] qual scope f (.ref c') A outer s H) body te) (f : Addr) :
    CallR X (.ref f) (fun vs H Q => ∃ (c c' : Addr) (ctv : Value) (oc o : Obj) (u : Value) (v : V), H f = some (exO f (PySem.W.kla_obj name qual params body scope [(y, c)] pm c' ctv)) ∧ H c' = some (exO c' oc) ∧ CodeOf oc c' qual ∧ H c = some (exO c o) ∧ o.data = .cell (some u) ∧ RelV v u ∧ vs.length = ps.length ∧
      te (vs.map some ++ [some v]) (drp H c) fun r H' => H' c = none → Q r (upd H' c (exO c o))) := by
  intro pins s σ H vs us Q I r h
  obtain ⟨c, c', ctv, oc, o, u, v, hf, hc', hcode, hc, hd, rv, hl, q⟩ := h
  have ho : s.heap.get? c = some o := (I.hok _ _ hc).1
  have hof := (I.hok _ _ hf).1
  have hoc := (I.hok _ _ hc').1
  have nf : c ∉ frs X.stack := fun z => by have := I.stkFree c z; rw [hc] at this; cases this
  refine wpAny_call (codeAny_mono (lam_run (CX := CX0) (E := E0) (Q := fun r H' => H' c = none → Q r (upd H' c (exO c o))) hof (hcode _ hoc) (hps c) hr (I.env0.drp hc) hl r (cvs := [v]) rfl (fun i x d w' e1 e2 => ?_) (hb s us c c' ctv (by rw [← r.length]; exact hl)) (fun hr' => ⟨te, hbody f c c' _ _ _ _ hr', q⟩)) fun r s' hq => ?_)
  · cases i with
    | zero =>
      cases e1
      cases e2
      exact ⟨drp_same, u, rv, o, ho, hd⟩
    | succ i => simp at e1
  · cases r with
    | error e => exact False.elim hq
    | ok fl =>
      cases fl with
      | ret u => exact I.after (ce_back hc ho nf hq)
      | next => exact False.elim hq
      | brk => exact False.elim hq
      | cont => exact False.elim hq
end
end L2
namespace L2
open PySem PySem.Spec PyProof.Rows
section
variable {X : Cx}
def rSetG : V → List V → Hp → VK → Prop := fun x vs H Q => ∃ a y z o H', x = .ref a ∧ vs = [y, z] ∧ DGet H a y o ∧ DPut H a y z H' ∧ (∀ v, o = some v → Q v H) ∧ (o = none → Q z H')
theorem mt_setG {j : Nat} (hr : Room j X.A) : MtR X "dict.setdefault" rSetG := by
  intro pins s σ H x vs v us Q I rx rv h
  obtain ⟨a, y, z, o, H', rfl, rfl, g, p, q1, q2⟩ := h
  rcases p with ⟨kvs, k, ea, rfl, l, rfl⟩ | ⟨kvs, k, b, ea, rfl, eb, l, rfl⟩
  · have go : o = valV kvs k := by
      rcases g with ⟨kv', k', e, ey, l'⟩ | ⟨kv', k', b, e, ey, _⟩
      · rcases e with e | ⟨ob, e⟩
        · rw [ea] at e; cases e
          rw [kV_inj ey]; exact l'
        · rw [ea] at e; cases e
      · rcases e with e | ⟨ob, e⟩ <;> (rw [ea] at e; cases e)
    subst go
    cases rx
    obtain ⟨u1, u2, rfl, r1, r2⟩ := vals2 rv
    obtain ⟨z', hd, ws, rel, dd⟩ := dk_of I.hok ea
    have hl : (putK kvs k z).length ≤ sizeLine := by have := length_putK kvs k z; omega
    refine call_meetsIn PySem.F.slot_dict_setdefault dd.typeIs PySem.F.entry_dict_setdefault (PySem.F.args_dict_setdefault_3 _ _ _) (kt_meets_setdefault (mixKind X.prog X.w) a (kV_is r1) hd u2)
      ⟨ws, dd, (by rw [← rel.length]; exact z'), fun v hv => ?_, fun hn h' dd' hs => ?_⟩
    · have := rel.val k
      rw [hv] at this
      cases e : valV kvs k with
      | none => rw [e] at this; exact this.elim
      | some w' => rw [e] at this; exact ⟨w', H, I.tok _, this, q1 w' e⟩
    · have := rel.val k
      rw [hn] at this
      cases e : valV kvs k with
      | some w' => rw [e] at this; exact this.elim
      | none =>
        have he : ∃ q, h'.get? a = some q := let ⟨q, _, _, hq, _⟩ := dd'; ⟨q, hq⟩
        exact ⟨z, _, d_write (ob := .dK (putK kvs k z)) I (by rw [ea]; exact True.intro) hs he (dk_new hl hd (rel.put k r2) dd'), r2, q2 e⟩
  · have go : o = valV kvs k := by
      rcases g with ⟨kv', k', e, _⟩ | ⟨kv', k', b', e, ey, eb', l'⟩
      · rcases e with e | ⟨ob, e⟩ <;> (rw [ea] at e; cases e)
      · rcases e with e | ⟨ob, e⟩
        · rw [ea] at e; cases e
          cases ey
          rw [eb] at eb'
          injection eb' with eb'
          injection eb' with eb'
          rw [kVs_inj eb']; exact l'
        · rw [ea] at e; cases e
    subst go
    exact mt_setdef hr pins s σ H _ _ v us Q I rx rv ⟨a, b, kvs, k, z, rfl, rfl, ea, eb, l, q1, q2⟩
theorem call_listD (hcm : X.calm = true) : CallR X (.type "list") (fun xs H Q => ∃ (a : Addr) (u : HO), xs = [.ref a] ∧ H a = some u ∧ Mut (some u) ∧ DictU u ∧ szU u ≤ 1000 ∧
    ∀ (l : Addr) (ys : List V), H l = none → ys.length = szU u → (∀ (i : Nat) y, ys[i]? = some y → ∃ v, KeyAt H u i y v) → Q (.ref l) (upd H l (.lst ys))) := by
  intro pins s σ H xs us Q I r h
  obtain ⟨a, u, rfl, e, mu, du, hsz, q⟩ := h
  obtain ⟨uu, rfl, rx⟩ := vals1 r
  cases rx
  obtain ⟨o, I1, hgo⟩ := I.freeze e mu
  obtain ⟨hS, hod, hc, es, ep, hdd, hz, hall⟩ := raw_of I1.hok upd_same du
  have hes : es.size ≤ sizeLine := by rw [hz]; exact Nat.le_trans hsz (by decide)
  refine PySem.W.kdl_call (rk_src hS) (I.ok.hd hcm) ⟨o, hod, hc, hdd⟩ hes fun h' tk acc c hk hD hacc => ?_
  obtain ⟨ys, hys, hkeys⟩ : ∃ ys : List V, Vals ys acc.toList ∧ ∀ (i : Nat) y, ys[i]? = some y → ∃ v, KeyAt H u i y v := by
    have key : ∀ (i : Nat) v, acc.toList[i]? = some v → ∃ y, RelV y v ∧ ∃ w', KeyAt H u i y w' := fun i v hv => by
      obtain ⟨hi, rfl⟩ := hacc.2 i v (by rw [← Array.getElem?_toList]; exact hv)
      obtain ⟨x, y, hka, r1, r2⟩ := hall i hi
      refine ⟨x, r1, y, ?_⟩
      cases u with
      | dK kvs => exact hka
      | dT kvs =>
        obtain ⟨k, b, h1, h2, h3⟩ := hka
        have hb : b ≠ a := fun z => by rw [z, upd_same] at h3; cases h3
        rw [upd_ne hb] at h3
        exact ⟨k, b, h1, h2, h3⟩
      | _ => exact hka.elim
    have mk : ∀ (l : List Value) (f : Nat), (∀ (i : Nat) v, l[i]? = some v → ∃ y, RelV y v ∧ ∃ w', KeyAt H u (f + i) y w') → ∃ ys : List V, Vals ys l ∧ ∀ (i : Nat) y, ys[i]? = some y → ∃ v, KeyAt H u (f + i) y v := by
      intro l
      induction l with
      | nil => exact fun f _ => ⟨[], .nil, fun i y h => by simp at h⟩
      | cons v l ih =>
        intro f hf
        obtain ⟨y, r1, w', hka⟩ := hf 0 v rfl
        obtain ⟨ys, r2, hk2⟩ := ih (f + 1) fun i v' hv' => by
          have := hf (i + 1) v' hv'
          rw [show f + 1 + i = f + (i + 1) by omega]; exact this
        refine ⟨y :: ys, .cons r1 r2, fun i z hz => ?_⟩
        cases i with
        | zero => cases hz; exact ⟨w', hka⟩
        | succ i =>
          have := hk2 i z hz
          rw [show f + 1 + i = f + (i + 1) by omega] at this; exact this
    obtain ⟨ys, r, hk⟩ := mk acc.toList 0 fun i v hv => by rw [Nat.zero_add]; exact key i v hv
    exact ⟨ys, r, fun i y hy => by have := hk i y hy; rw [Nat.zero_add] at this; exact this⟩
  have hyl : ys.length = szU u := by rw [hys.length, Array.length_toList, hacc.1, hz]
  have hn : H s.heap.objs.size = none := I.hok.fresh (Nat.le_refl _)
  refine ⟨.ref s.heap.objs.size, _, I.laid (o := .lst ys) hk (Nat.le_refl _) ⟨?_, acc.toList, c, hys, hD⟩, rfl, q _ ys hn hyl hkeys⟩
  rw [hyl]; exact Nat.le_trans hsz (by decide)
theorem call_sortedN : CallR X (.builtin "sorted") (fun xs H Q => ∃ (p : Addr) (ns : List Int), xs = [.ref p] ∧ SqL X.K H p (ns.map V.int) ∧ ns.length < 64 ∧
    ∀ (l : Addr) (ms : List Int), H l = none → ms.Perm ns → ms.Pairwise (· ≤ ·) → Q (.ref l) (upd H l (.lst (ms.map V.int)))) := by
  intro pins s σ H xs us Q I r h
  obtain ⟨p, ns, rfl, hp, h64, q⟩ := h
  obtain ⟨u, rfl, rx⟩ := vals1 r
  cases rx
  obtain ⟨its, rv, pl, hz⟩ := I.list hp
  have hi := intsAre_of rv
  have hil : its.length = ns.length := by rw [← rv.length, List.length_map]
  refine sorted_ints pl.isList (by simpa using hi) (by simpa [hil] using h64) fun out ms a1 a2 a3 => ?_
  obtain ⟨e, he⟩ := sortedAll_at s.heap its out
  have hn : H (s.heap.objs.size + 1) = none := I.hok.fresh (Nat.le_succ _)
  refine ⟨.ref (s.heap.objs.size + 1), _, I.laid (o := .lst (ms.map V.int)) (h' := sortedAll s.heap its out) (t' := s.toks) (fun _ _ => sortedAll_old) (Nat.le_succ _) ⟨?_, out.toList, e, vals_ints a1, ?_⟩, rfl, q _ ms hn a2 a3⟩
  · rw [List.length_map, a2.length_eq]; exact Nat.le_trans (Nat.le_of_lt h64) (by decide)
  · exact he
end
end L2
namespace L2
open PySem PySem.Spec PyProof.Rows
def tbP (K : PySem.W.Frag) : Addr × Addr := (PySem.W.tabIn K "law").getD (0, 0)
section
variable {P : Program} {w : World} {K : PySem.W.Frag} {mg : Str → Option Value} {base : Heap}
theorem Fun.okC {x qual : Str} {st : Stmt} {f : Addr} {fd : FuncData} {N ps : List Str} {k : Nat} {sp : Sp} {cv : Value} (F : Fun K x qual st f fd) (hcv : fd.code = cv) (S : FnScope N ps (defScope st)) (len : ∀ vs H Q E, sp vs H Q E → vs.length = ps.length)
    (hbody : ∀ (A : Around) (outer : List Env) (s : Shared) (H : Hp) (vs : List V) (Q : VK) (E : XK), Room k (A.deeper (envOfC qual (defScope st) s.heap.objs.size f cv)) → sp vs H Q E →
      ∃ t, PSs (cxOf CX0 P w K mg base N qual (defScope st) f cv A outer s H E).nox (defBody st) t ∧ t { nx := fun _ H' => Q .non H', rt := Q } (start N vs) H) : FnOk P w K mg base CX0 (k + 1) f fd ps sp := by
  obtain ⟨oc, od, kV, doc, pm, an, cdv, ct, osl, rfl, lk, hcd⟩ := F.ex
  cases (show cdv = cv from hcv)
  refine fn_of lk hcd S len fun A outer s H vs Q E hr hsp => ?_
  obtain ⟨t, h, q⟩ := hbody A outer s H vs Q E hr hsp
  exact ⟨t, h.nox, q⟩
end
theorem call_lenU {X : Cx} : CallR X (.builtin "len") (fun xs H Q => ∃ a u, xs = [V.ref a] ∧ Rd H a u ∧ DictU u ∧ Q (.int (szU u : Nat)) H) := by
  intro pins s σ H xs us Q I r h
  obtain ⟨a, u, rfl, ha, hu, q⟩ := h
  cases u with
  | dT kvs => exact call_lenDT pins s σ H _ us Q I r ⟨a, kvs, rfl, ha, q⟩
  | dK kvs =>
    obtain ⟨v, rfl, rx⟩ := vals1 r
    cases rx
    exact d_len I ha fun t s' I' => ⟨.int _, H, I', ⟨t, rfl⟩, q⟩
  | _ => exact hu.elim
end L2
namespace L2
open PySem PySem.Spec PyProof.Rows
def tLamG (P : Addr) (pos : Pos) (qual : Str) (mk : Addr → Value → Obj) : TE := fun _ H Q => ∃ ps, H P = some (.tbl ps) ∧ TriplesOk ps.toList ∧ codeAmong pos ps.toList = none ∧
  ∀ f c' oc ctv HH, H f = none → H c' = none → f ≠ c' → CodeOf oc c' qual → (∀ b x, H b = some x → b ≠ P → HH b = some x) → (∃ ps', HH P = some (.tbl ps')) → HH c' = some (exO c' oc) → HH f = some (exO f (mk c' ctv)) → Q (.ref f) HH
theorem pe_lamG {X : Cx} {params : Arguments} {body : Expr} {scope : Scope} {pos : Pos} {P c : Addr} {clos : List (Str × Addr)} (hdef : defaultsOf params X.env = ([], [])) (hcl : closureFor scope X.env = pure clos) (hcode : X.env.code = .ref c)
    (hC : PySem.W.codeHdIn X.K c P = true) (hB : X.base.BuiltinsAt X.mg P) (hgP : mainGlobals ≠ P) :
    PE X (.Lambda params body scope pos) (tLamG P pos (X.env.qual ++ "<lambda>") fun c' ctv => PySem.W.kla_obj "<lambda>" (X.env.qual ++ "<lambda>") params body scope clos ((X.mg "__name__").getD .none) c' ctv) := by
  intro pins s σ H Q I h
  obtain ⟨ps, hP, h1, h2, q⟩ := h
  refine pe_lam hdef hcl hcode hC hB hgP pins s σ H Q I ⟨ps, hP, h1, h2, fun f c' oc ctv nf nc ne code => ?_⟩
  have nP1 : P ≠ c' := ne_of_none hP nc
  have nP2 : P ≠ f := ne_of_none hP nf
  refine q f c' oc ctv _ nf nc ne code (fun b x e hb => ?_) ⟨ps ++ #[rawInt pos.line, rawInt pos.col, .ref c'], ?_⟩ ?_ upd_same
  · rw [upd_ne (ne_of_none e nf), upd_ne (ne_of_none e nc), upd_ne hb]; exact e
  · rw [upd_ne nP2, upd_ne nP1, upd_same]
  · rw [upd_ne ne.symm, upd_same]
end L2
namespace K22
open PySem L2
def top (i : Nat) : Stmt := PySem.Challenge.pw_wirefloor_k22_spread.main.body.getD i (.Pass ⟨0, 0, 0, 0⟩)
abbrev sCell : Stmt := top 8
abbrev sMark : Stmt := top 9
abbrev sPrice : Stmt := top 10
abbrev sRows : Stmt := top 11
abbrev sStarts : Stmt := top 12
abbrev sNum : Stmt := top 13
abbrev sCome : Stmt := top 14
abbrev sBacked : Stmt := top 15
abbrev sEndsL : Stmt := top 16
abbrev sInit : Stmt := inClass (top 4) 0
abbrev sMany : Stmt := inClass (top 4) 1
abbrev sAdd : Stmt := inClass (top 4) 2
abbrev sSink : Stmt := inClass (top 4) 4
abbrev sTake : Stmt := inClass (top 4) 3
abbrev sSpread : Stmt := top 6
abbrev slaw : Stmt := top 17
structure Txt (K : PySem.W.Frag) (mg : Str → Option Value) (cHeap cWireError cNothingLeft : Addr) : Prop where
  len_ : mg "len" = none
  range_ : mg "range" = none
  isinstance_ : mg "isinstance" = none
  int_ : mg "int" = none
  bool_ : mg "bool" = none
  tuple_ : mg "tuple" = none
  dict_ : mg "dict" = none
  list_ : mg "list" = none
  sorted_ : mg "sorted" = none
  ValueError_ : mg "ValueError" = none
  cl_Heap : Cls K cHeap
  mg_Heap : mg "Heap" = some (.ref cHeap)
  na_Heap_pairs : NoAttr K cHeap "pairs"
  eWireError : mg "WireError" = some (.ref cWireError)
  eNothingLeft : ExcN K mg "NothingLeft" cNothingLeft
  ii : PySem.W.kitOne K (.type "int") (.type "int") = some true
  ib : PySem.W.kitOne K (.type "int") (.type "bool") = some false
  tt : PySem.W.kitOne K (.type "tuple") (.type "tuple") = some true
  dd : PySem.W.kitOne K (.type "dict") (.type "dict") = some true
namespace Hp
abbrev par (i : Nat) : Nat := (i - 1) / 2
section
variable {α : Type} (lt : α → α → Bool)
structure Ord : Prop where
  irr : ∀ a, lt a a = false
  tot : ∀ a b, lt a b = false → lt b a = false → a = b
  trans : ∀ a b c, lt a b = true → lt b c = true → lt a c = true
variable {lt} (O : Ord lt)
include O
theorem Ord.asym {a b : α} (h : lt a b = true) : lt b a = false := by
  cases e : lt b a with
  | false => rfl
  | true => have := O.trans _ _ _ h e; rw [O.irr] at this; cases this
theorem Ord.le_trans {a b c : α} (h1 : lt b a = false) (h2 : lt c b = false) : lt c a = false := by
  cases e : lt c a with
  | false => rfl
  | true =>
    cases e2 : lt a b with
    | true => have := O.trans _ _ _ e e2; rw [h2] at this; cases this
    | false =>
      have := O.tot a b e2 h1
      subst this
      rw [h2] at e; cases e
end
section
variable {α : Type} {lt : α → α → Bool} {d : α}
theorem get_set {l : List α} {i j : Nat} {a : α} (hi : i < l.length) : (l.set i a).getD j d = if i = j then a else l.getD j d := by
  rw [List.getD_eq_getElem?_getD, List.getElem?_set]
  by_cases h : i = j
  · subst h; simp [hi]
  · simp [h]
def Hpy (lt : α → α → Bool) (d : α) (ks : List α) : Prop := ∀ i, 0 < i → i < ks.length → lt (ks.getD i d) (ks.getD (par i) d) = false
theorem Hpy.least (O : Ord lt) {ks : List α} (h : Hpy lt d ks) : ∀ i, i < ks.length → lt (ks.getD i d) (ks.getD 0 d) = false := by
  intro i
  induction i using Nat.strongRecOn with
  | _ i ih =>
    intro hi
    by_cases h0 : i = 0
    · subst h0; exact O.irr _
    · exact O.le_trans (ih (par i) (by first | omega | (simp only [par] at *; omega)) (by first | omega | (simp only [par] at *; omega))) (h i (by first | omega | (simp only [par] at *; omega)) hi)
structure Up (lt : α → α → Bool) (d : α) (ks : List α) (p : Nat) (x : α) : Prop where
  at' : p < ks.length
  ok : ∀ i, 0 < i → i < ks.length → i ≠ p → lt ((ks.set p x).getD i d) ((ks.set p x).getD (par i) d) = false
  over : 0 < p → ∀ c, 0 < c → c < ks.length → par c = p → lt ((ks.set p x).getD c d) ((ks.set p x).getD (par p) d) = false
theorem Up.start {ks : List α} (h : Hpy lt d ks) (x : α) : Up lt d (ks ++ [x]) ks.length x := by
  have e : (ks ++ [x]).set ks.length x = ks ++ [x] := by simp
  refine ⟨by simp, fun i h0 hi hp => ?_, fun h0 c c0 hc hp => ?_⟩
  · have hi' : i < ks.length := by simp at hi; first | omega | (simp only [par] at *; omega)
    rw [e]
    have hpi : par i < ks.length := by first | omega | (simp only [par] at *; omega)
    have h1 : (ks ++ [x]).getD i d = ks.getD i d := by simp [List.getD_eq_getElem?_getD, List.getElem?_append_left hi']
    have h2 : (ks ++ [x]).getD (par i) d = ks.getD (par i) d := by simp [List.getD_eq_getElem?_getD, List.getElem?_append_left hpi]
    rw [h1, h2]
    exact h i h0 hi'
  · simp at hc; simp only [par] at hp; omega
theorem Up.step (O : Ord lt) {ks : List α} {p : Nat} {x : α} (h : Up lt d ks p x) (hp : 0 < p) (hx : lt x (ks.getD (par p) d) = true) : Up lt d (ks.set p (ks.getD (par p) d)) (par p) x := by
  obtain ⟨ha, ok, ov⟩ := h
  have hq : par p < p := by simp only [par]; omega
  have hl : (ks.set p (ks.getD (par p) d)).length = ks.length := by simp
  have g1 : ∀ j, (ks.set p x).getD j d = if p = j then x else ks.getD j d := fun j => get_set ha
  have g2 : ∀ j, ((ks.set p (ks.getD (par p) d)).set (par p) x).getD j d = if par p = j then x else if p = j then ks.getD (par p) d else ks.getD j d := fun j => by
    rw [get_set (by rw [hl]; first | omega | (simp only [par] at *; omega)), get_set ha]
  refine ⟨by rw [hl]; omega, fun i h0 hi hip => ?_, fun h0 c c0 hc hcp => ?_⟩
  · rw [hl] at hi
    rw [g2, g2, if_neg (Ne.symm hip)]
    have o := ok i h0 hi
    rw [g1, g1] at o
    by_cases hi1 : p = i
    · subst hi1
      rw [if_pos rfl, if_pos rfl]
      exact O.asym hx
    · rw [if_neg hi1]
      have o := o (Ne.symm hi1)
      rw [if_neg hi1] at o
      by_cases hi2 : par p = par i
      · rw [if_pos hi2]
        rw [if_neg (by first | omega | (simp only [par] at *; omega)), ← hi2] at o
        exact O.le_trans (O.asym hx) o
      · rw [if_neg hi2]
        by_cases hi3 : p = par i
        · rw [if_pos hi3]
          have v := ov hp i h0 hi hi3.symm
          rw [g1, g1, if_neg hi1, if_neg (by first | omega | (simp only [par] at *; omega))] at v
          exact v
        · rw [if_neg hi3]
          rw [if_neg hi3] at o
          exact o
  · rw [hl] at hc
    have hpp : par (par p) < par p := by simp only [par] at h0 ⊢; omega
    have n1 : par p ≠ c := by first | omega | (simp only [par] at *; omega)
    have n2 : par p ≠ par (par p) := by omega
    have n3 : p ≠ par (par p) := by omega
    rw [g2, g2, if_neg n1, if_neg n2, if_neg n3]
    have o1 := ok (par p) h0 (by first | omega | (simp only [par] at *; omega)) (by first | omega | (simp only [par] at *; omega))
    rw [g1, g1, if_neg (by first | omega | (simp only [par] at *; omega)), if_neg (by first | omega | (simp only [par] at *; omega))] at o1
    by_cases hcq : p = c
    · rw [if_pos hcq]; exact o1
    · rw [if_neg hcq]
      have o2 := ok c c0 hc (Ne.symm hcq)
      rw [g1, g1, if_neg hcq, hcp, if_neg (by first | omega | (simp only [par] at *; omega))] at o2
      exact O.le_trans o1 o2
theorem Up.done {ks : List α} {p : Nat} {x : α} (h : Up lt d ks p x) (hx : p = 0 ∨ lt x (ks.getD (par p) d) = false) : Hpy lt d (ks.set p x) := by
  obtain ⟨ha, ok, ov⟩ := h
  intro i h0 hi
  rw [List.length_set] at hi
  by_cases hip : i = p
  · subst hip
    rw [get_set ha, get_set ha, if_pos rfl, if_neg (by simp only [par]; first | omega | (simp only [par] at *; omega))]
    rcases hx with hx | hx
    · omega
    · exact hx
  · exact ok i h0 hi hip
theorem up_perm {ks : List α} {p q : Nat} {x : α} (hp : p < ks.length) (hq : q < ks.length) (hne : q ≠ p) : ((ks.set p (ks.getD q d)).set q x).Perm (ks.set p x) := by
  have hp' : p < (ks.set p x).length := by rw [List.length_set]; exact hp
  have hq' : q < (ks.set p x).length := by rw [List.length_set]; exact hq
  have e1 : (ks.set p x)[p] = x := by simp
  have e2 : (ks.set p x)[q] = ks.getD q d := by
    rw [List.getElem_set_ne (Ne.symm hne)]
    simp [List.getD_eq_getElem?_getD, hq]
  have := List.set_set_perm (as := ks.set p x) hp' hq'
  rw [e1, e2, List.set_set] at this
  exact this
structure Dn (lt : α → α → Bool) (d : α) (ks : List α) (p : Nat) (x : α) : Prop where
  at' : p < ks.length
  ok : ∀ i, 0 < i → i < ks.length → par i ≠ p → lt ((ks.set p x).getD i d) ((ks.set p x).getD (par i) d) = false
  over : 0 < p → ∀ c, 0 < c → c < ks.length → par c = p → lt ((ks.set p x).getD c d) ((ks.set p x).getD (par p) d) = false
theorem Dn.start {ks : List α} (h : Hpy lt d ks) (h0 : 0 < ks.length) (x : α) : Dn lt d ks 0 x := by
  refine ⟨h0, fun i i0 hi hp => ?_, fun z => absurd z (Nat.lt_irrefl _)⟩
  rw [get_set h0, get_set h0, if_neg (by first | omega | (simp only [par] at *; omega)), if_neg (Ne.symm hp)]
  exact h i i0 hi
def Least (lt : α → α → Bool) (d : α) (ks : List α) (p c : Nat) : Prop := par c = p ∧ 0 < c ∧ c < ks.length ∧ ∀ e, 0 < e → e < ks.length → par e = p → lt (ks.getD e d) (ks.getD c d) = false
theorem Dn.step (O : Ord lt) {ks : List α} {p c : Nat} {x : α} (h : Dn lt d ks p x) (hc : Least lt d ks p c) (hx : lt (ks.getD c d) x = true) : Dn lt d (ks.set p (ks.getD c d)) c x := by
  obtain ⟨ha, ok, ov⟩ := h
  obtain ⟨cp, c0, cl, cm⟩ := hc
  have hpc : p < c := by simp only [par] at cp; omega
  have hl : (ks.set p (ks.getD c d)).length = ks.length := by simp
  have g1 : ∀ j, (ks.set p x).getD j d = if p = j then x else ks.getD j d := fun j => get_set ha
  have g2 : ∀ j, ((ks.set p (ks.getD c d)).set c x).getD j d = if c = j then x else if p = j then ks.getD c d else ks.getD j d := fun j => by
    rw [get_set (by rw [hl]; exact cl), get_set ha]
  refine ⟨by rw [hl]; exact cl, fun i h0 hi hip => ?_, fun _ e e0 he ep => ?_⟩
  · rw [hl] at hi
    rw [g2, g2, if_neg (Ne.symm hip)]
    by_cases h1 : par i = p
    · rw [if_pos h1.symm]
      have hpi : p < i := by simp only [par] at h1; omega
      by_cases h2 : c = i
      · rw [if_pos h2]; exact O.asym hx
      · rw [if_neg h2, if_neg (by first | omega | (simp only [par] at *; omega))]
        exact cm i h0 hi h1
    · have h2 : c ≠ i := fun z => h1 (by rw [← z]; exact cp)
      rw [if_neg h2, if_neg (Ne.symm h1)]
      by_cases h3 : p = i
      · rw [if_pos h3]
        have v := ov (by first | omega | (simp only [par] at *; omega)) c c0 cl cp
        rw [g1, g1, if_neg (by first | omega | (simp only [par] at *; omega)), h3, if_neg (by simp only [par]; first | omega | (simp only [par] at *; omega))] at v
        exact v
      · rw [if_neg h3]
        have o := ok i h0 hi h1
        rw [g1, g1, if_neg h3, if_neg (Ne.symm h1)] at o
        exact o
  · rw [hl] at he
    have hce : c < e := by simp only [par] at ep; omega
    rw [g2, g2, if_neg (by first | omega | (simp only [par] at *; omega)), if_neg (by first | omega | (simp only [par] at *; omega)), cp, if_neg (by first | omega | (simp only [par] at *; omega)), if_pos rfl]
    have o := ok e e0 he (by rw [ep]; first | omega | (simp only [par] at *; omega))
    rw [g1, g1, if_neg (by first | omega | (simp only [par] at *; omega)), ep, if_neg (by first | omega | (simp only [par] at *; omega))] at o
    exact o
theorem Dn.done {ks : List α} {p : Nat} {x : α} (h : Dn lt d ks p x) (hx : ∀ c, 0 < c → c < ks.length → par c = p → lt (ks.getD c d) x = false) : Hpy lt d (ks.set p x) := by
  obtain ⟨ha, ok, ov⟩ := h
  intro i h0 hi
  rw [List.length_set] at hi
  by_cases hip : par i = p
  · have hpi : p < i := by simp only [par] at hip; omega
    rw [get_set ha, get_set ha, if_neg (by first | omega | (simp only [par] at *; omega)), if_pos hip.symm]
    exact hx i h0 hi hip
  · exact ok i h0 hi hip
end
end Hp
def MrkH (H : Hp) (kd : Bool) (m : V) (l : List Int) : Prop :=
  (kd = false ∧ ∃ i, m = .int i ∧ l = [i]) ∨ (kd = true ∧ ∃ b i j, m = .ref b ∧ H b = some (.tup [.int i, .int j]) ∧ l = [i, j])
def PrH (H : Hp) (kd : Bool) (v : V) (k : List Int) : Prop := ∃ a p m l, v = .ref a ∧ H a = some (.tup [.int p, m]) ∧ MrkH H kd m l ∧ k = p :: l
def TK (H H' : Hp) : Prop := ∀ b xs, H b = some (.tup xs) → H' b = some (.tup xs)
theorem TK.refl (H : Hp) : TK H H := fun _ _ e => e
theorem TK.trans {H H1 H2 : Hp} (a : TK H H1) (b : TK H1 H2) : TK H H2 := fun c xs e => b c xs (a c xs e)
theorem TK.new {H : Hp} {a : Addr} {o : HO} (h : H a = none) : TK H (upd H a o) := fun b xs e => by rw [upd_ne (ne_of_none e h)]; exact e
theorem TK.lst {H : Hp} {a : Addr} {o : HO} {vs : List V} (h : H a = some (.lst vs)) : TK H (upd H a o) := fun b xs e => by rw [upd_ne (fun z => by rw [z, h] at e; cases e)]; exact e
theorem MrkH.kept {H H' : Hp} {kd : Bool} {m : V} {l : List Int} (h : MrkH H kd m l) (k : TK H H') : MrkH H' kd m l := by
  rcases h with h | ⟨h, b, i, j, e, q, r⟩
  · exact .inl h
  · exact .inr ⟨h, b, i, j, e, k _ _ q, r⟩
theorem PrH.kept {H H' : Hp} {kd : Bool} {m : V} {l : List Int} (h : PrH H kd m l) (k : TK H H') : PrH H' kd m l := by
  obtain ⟨a, p, m, l, e, q, r, z⟩ := h
  exact ⟨a, p, m, l, e, k _ _ q, r.kept k, z⟩
theorem MrkH.of {K : PySem.W.Frag} {H : Hp} {kd : Bool} {m : V} {l : List Int} (h : MrkH H kd m l) : Mrk K H kd m l := by
  rcases h with h | ⟨h, b, i, j, e, q, r⟩
  · exact .inl h
  · exact .inr ⟨h, b, i, j, e, SqT.of q, r⟩
theorem PrH.of {K : PySem.W.Frag} {H : Hp} {kd : Bool} {m : V} {l : List Int} (h : PrH H kd m l) : Pr K H kd m l := by
  obtain ⟨a, p, m, l, e, q, r, z⟩ := h
  exact ⟨a, p, m, l, e, SqT.of q, r.of, z⟩
def KsH (H : Hp) (kd : Bool) (vs : List V) (ks : List (List Int)) : Prop := vs.length = ks.length ∧ ∀ (i : Nat) v, vs[i]? = some v → PrH H kd v (ks.getD i [])
theorem KsH.kept {H H' : Hp} {kd : Bool} {vs : List V} {ks : List (List Int)} (h : KsH H kd vs ks) (k : TK H H') : KsH H' kd vs ks := ⟨h.1, fun i v e => (h.2 i v e).kept k⟩
theorem KsH.nil (H : Hp) (kd : Bool) : KsH H kd [] [] := ⟨rfl, fun i v e => by cases e⟩
theorem KsH.set {H : Hp} {kd : Bool} {vs : List V} {ks : List (List Int)} {i : Nat} {v : V} {k : List Int} (h : KsH H kd vs ks) (hi : i < vs.length) (hv : PrH H kd v k) : KsH H kd (vs.set i v) (ks.set i k) := by
  refine ⟨by rw [List.length_set, List.length_set, h.1], fun j w e => ?_⟩
  rw [Hp.get_set (by rw [← h.1]; exact hi)]
  rw [List.getElem?_set] at e
  by_cases hj : i = j
  · rw [if_pos hj] at e ⊢
    rw [if_pos hi] at e; cases e; exact hv
  · rw [if_neg hj] at e ⊢
    exact h.2 j w e
theorem KsH.snoc {H : Hp} {kd : Bool} {vs : List V} {ks : List (List Int)} {v : V} {k : List Int} (h : KsH H kd vs ks) (hv : PrH H kd v k) : KsH H kd (vs ++ [v]) (ks ++ [k]) := by
  refine ⟨by rw [List.length_append, List.length_append, h.1]; rfl, fun j w e => ?_⟩
  rw [List.getD_eq_getElem?_getD]
  by_cases hj : j < vs.length
  · rw [List.getElem?_append_left hj] at e
    rw [List.getElem?_append_left (by rw [← h.1]; exact hj), ← List.getD_eq_getElem?_getD]
    exact h.2 j w e
  · rw [List.getElem?_append_right (by omega)] at e
    rw [List.getElem?_append_right (by rw [← h.1]; omega), ← h.1]
    cases ej : j - vs.length with
    | zero => rw [ej] at e; cases e; exact hv
    | succ n => rw [ej] at e; cases e
theorem KsH.at {H : Hp} {kd : Bool} {vs : List V} {ks : List (List Int)} (h : KsH H kd vs ks) {i : Nat} (hi : i < vs.length) : PrH H kd vs[i] (ks.getD i []) := h.2 i _ (List.getElem?_eq_getElem hi)
theorem lexO' : Hp.Ord HT.lexLt := ⟨lex_irrefl, lex_total, lex_trans⟩
abbrev HpOk (ks : List (List Int)) : Prop := Hp.Hpy HT.lexLt [] ks
structure HAt (C : Addr) (H : Hp) (p a : Addr) (vs : List V) : Prop where
  ob : ∃ dx, H p = some (.ins C dx [("pairs", .ref a)])
  ls : H a = some (.lst vs)
def But (H H' : Hp) (p a : Addr) : Prop := ∀ b o, H b = some o → b ≠ p → b ≠ a → H' b = some o
def spInit (C : Addr) : Sp := fun vs H Q _ => ∃ (p dx : Addr), vs = [.ref p] ∧ H p = some (.ins C dx []) ∧ ∀ (a : Addr) (H' : Hp), H a = none → HAt C H' p a [] → But H H' p a → Q .non H'
def spMany (C : Addr) : Sp := fun vs H Q _ => ∃ (p a : Addr) (us : List V), vs = [.ref p] ∧ HAt C H p a us ∧ Q (.int (us.length : Nat)) H
def spAdd (C : Addr) : Sp := fun as H Q _ => ∃ (p a : Addr) (kd : Bool) (vs : List V) (ks : List (List Int)) (pr : Int) (m : V) (l : List Int), as = [.ref p, .int pr, m] ∧ HAt C H p a vs ∧ KsH H kd vs ks ∧ HpOk ks ∧ MrkH H kd m l ∧ vs.length ≤ 200 ∧
  ∀ H' vs' ks', HAt C H' p a vs' → KsH H' kd vs' ks' → HpOk ks' → ks'.Perm (ks ++ [pr :: l]) → But H H' p a → Q .non H'
def spSink (C : Addr) : Sp := fun as H Q _ => ∃ (p a : Addr) (kd : Bool) (vs : List V) (ks : List (List Int)) (x : V) (kx : List Int), as = [.ref p, x] ∧ HAt C H p a vs ∧ KsH H kd vs ks ∧ HpOk ks ∧ 0 < vs.length ∧ PrH H kd x kx ∧ vs.length ≤ 200 ∧
  ∀ H' vs' ks', HAt C H' p a vs' → KsH H' kd vs' ks' → HpOk ks' → ks'.Perm (ks.set 0 kx) → But H H' p a → Q .non H'
def spTake (C N : Addr) : Sp := fun as H Q E => ∃ (p a : Addr) (kd : Bool) (vs : List V) (ks : List (List Int)), as = [.ref p] ∧ HAt C H p a vs ∧ KsH H kd vs ks ∧ HpOk ks ∧ vs.length ≤ 200 ∧ (vs = [] → E (.ref N) none H) ∧
  (vs ≠ [] → ∀ v k H' vs' ks', PrH H' kd v k → HAt C H' p a vs' → KsH H' kd vs' ks' → HpOk ks' → (k :: ks').Perm ks → (∀ z ∈ ks, HT.lexLt z k = false) → But H H' p a → Q v H')
theorem sq_while {tc : TT} {t u : TS} {D : Ends} {σ : St} {H : Hp} (W : Nat → St → Hp → Prop) (h0 : ∃ m, W m σ H) (hs : ∀ m σ H, W m σ H → ∃ b, EvT tc σ H b ∧ (b = true → ∀ N : St → Hp → Prop, (∀ m' σ' H', m' < m → W m' σ' H' → N σ' H') → t { D with nx := N, ct := N, bk := u D } σ H) ∧ (b = false → u D σ H)) :
    tSeq (tWhile tc t) u D σ H := while_ev (D := { D with nx := u D }) W h0 hs
theorem But.refl (H : Hp) (p a : Addr) : But H H p a := fun _ _ e _ _ => e
theorem But.tk {H H' : Hp} {p a : Addr} {C dx : Addr} {fs : List (Str × V)} {vs : List V} (h : But H H' p a) (e1 : H p = some (.ins C dx fs)) (e2 : H a = some (.lst vs)) : TK H H' := fun b xs e => h b _ e (fun z => by rw [z, e1] at e; cases e) (fun z => by rw [z, e2] at e; cases e)
theorem getD_at {vs : List V} {i : Nat} (h : i < vs.length) : vs[i]? = some (vs.getD i .non) := by simp [List.getD_eq_getElem?_getD, h]
theorem KsH.get {H : Hp} {kd : Bool} {vs : List V} {ks : List (List Int)} (h : KsH H kd vs ks) {i : Nat} (hi : i < vs.length) : PrH H kd (vs.getD i .non) (ks.getD i []) := h.2 i _ (getD_at hi)
theorem dl_get {α : Type} {l : List α} {i : Nat} {d : α} (h : i < l.length - 1) : l.dropLast.getD i d = l.getD i d := by
  rw [List.getD_eq_getElem?_getD, List.getD_eq_getElem?_getD, List.getElem?_dropLast, if_pos h]
theorem perm_take {α : Type} {ks : List α} {d : α} (h : 2 ≤ ks.length) : (ks.getD 0 d :: ks.dropLast.set 0 (ks.getD (ks.length - 1) d)).Perm ks := by
  match ks, h with
  | a :: b :: r, _ =>
    have e1 : (a :: b :: r).dropLast = a :: (b :: r).dropLast := rfl
    have e2 : (a :: b :: r).getD ((a :: b :: r).length - 1) d = (b :: r).getLast (by simp) := by
      rw [List.getD_eq_getElem?_getD, List.getLast_eq_getElem]
      simp
    rw [e1, e2]
    show (a :: (b :: r).getLast (by simp) :: (b :: r).dropLast).Perm (a :: b :: r)
    refine List.Perm.cons a ?_
    have e3 := List.dropLast_concat_getLast (l := b :: r) (by simp)
    exact ((List.perm_append_singleton ((b :: r).getLast (by simp)) (b :: r).dropLast).symm).trans (by rw [e3])
theorem KsH.drop {H : Hp} {kd : Bool} {vs : List V} {ks : List (List Int)} (h : KsH H kd vs ks) : KsH H kd vs.dropLast ks.dropLast := by
  refine ⟨by rw [List.length_dropLast, List.length_dropLast, h.1], fun i v e => ?_⟩
  have hi : i < vs.length - 1 := by
    have := (List.getElem?_eq_some_iff.mp e).1
    rwa [List.length_dropLast] at this
  rw [List.getElem?_dropLast, if_pos hi] at e
  rw [dl_get (by rw [← h.1]; exact hi)]
  exact h.2 i v e
theorem HpOk.drop {ks : List (List Int)} (h : HpOk ks) : HpOk ks.dropLast := fun i h0 hi => by
  rw [List.length_dropLast] at hi
  rw [dl_get hi, dl_get (by simp only [Hp.par]; omega)]
  exact h i h0 (by omega)
theorem KsH.erase {H : Hp} {kd : Bool} {vs : List V} {ks : List (List Int)} (h : KsH H kd vs ks) {i : Nat} (hi : i < vs.length) : KsH H kd (vs.eraseIdx i) (ks.eraseIdx i) := by
  refine ⟨by rw [List.length_eraseIdx_of_lt hi, List.length_eraseIdx_of_lt (by rw [← h.1]; exact hi), h.1], fun j v e => ?_⟩
  rw [List.getElem?_eraseIdx] at e
  rw [List.getD_eq_getElem?_getD, List.getElem?_eraseIdx]
  split at e
  · rename_i hj
    rw [if_pos hj, ← List.getD_eq_getElem?_getD]; exact h.2 j v e
  · rename_i hj
    rw [if_neg hj, ← List.getD_eq_getElem?_getD]; exact h.2 (j + 1) v e
def mdOf : Bool → List Int → PyData
  | false, [i] => .int i
  | true, l => .tuple (l.map .int)
  | false, _ => .none
theorem MrkH.dp {K : PySem.W.Frag} {H : Hp} {kd : Bool} {m : V} {l : List Int} (h : MrkH H kd m l) : Dp K H m (mdOf kd l) ∧ (mdOf kd l).depth ≤ 60 := by
  rcases h with ⟨rfl, i, rfl, rfl⟩ | ⟨rfl, b, i, j, rfl, e, rfl⟩
  · exact ⟨.int i, by simp [mdOf, PyData.depth]⟩
  · exact ⟨Dp.ints (ns := [i, j]) (SqT.of e), Nat.le_trans (depth_tints [i, j]) (by decide)⟩
namespace Dj
abbrev Far := Nat → Option Int
abbrev Back := Nat → Option (Option Nat)
def put {α : Type} (f : Nat → Option α) (k : Nat) (x : α) : Nat → Option α := fun j => if j = k then some x else f j
theorem put_eq {α : Type} {f : Nat → Option α} {k : Nat} {x : α} : put f k x k = some x := if_pos rfl
theorem put_ne {α : Type} {f : Nat → Option α} {k j : Nat} {x : α} (h : j ≠ k) : put f k x j = f j := if_neg h
structure G where
  rows : Nat → List (Nat × Int)
  starts : List (Nat × Int)
  nn : ∀ m, ∀ a ∈ rows m, 0 ≤ a.2
structure Mid (g : G) (far : Far) (back : Back) (hp : List (Int × Nat)) (dn : List Nat) (cur : Int) (x : Option (Nat × List (Nat × Int))) : Prop where
  here : ∀ m p, far m = some p → m ∈ dn ∨ (p, m) ∈ hp
  low : ∀ p m, (p, m) ∈ hp → ∃ q, far m = some q ∧ q ≤ p
  dom : ∀ m, (back m).isSome = (far m).isSome
  was : ∀ m ∈ dn, ∃ p, far m = some p ∧ p ≤ cur
  arcs : ∀ m ∈ dn, ∀ p, far m = some p → (∀ pre, x ≠ some (m, pre)) → ∀ a ∈ g.rows m, ∃ q, far a.1 = some q ∧ q ≤ p + a.2
  part : ∀ m pre, x = some (m, pre) → m ∈ dn ∧ far m = some cur ∧ ∀ a ∈ pre, a ∈ g.rows m ∧ ∃ q, far a.1 = some q ∧ q ≤ cur + a.2
  top : ∀ p m, (p, m) ∈ hp → cur ≤ p
  bn : ∀ m p, far m = some p → back m = some none → (m, p) ∈ g.starts
  bs : ∀ m p b, far m = some p → back m = some (some b) → b ∈ dn ∧ (m, p) ∉ g.starts ∧ ∃ q, far b = some q ∧ (m, p - q) ∈ g.rows b
  sta : ∀ a ∈ g.starts, ∃ q, far a.1 = some q ∧ q ≤ a.2
  ord : ∀ l m r b, dn = l ++ m :: r → back m = some (some b) → b ∈ r
  nd : dn.Nodup
section
variable {g : G} {far : Far} {back : Back} {hp : List (Int × Nat)} {dn : List Nat} {cur : Int} {m : Nat} {pre : List (Nat × Int)}
theorem Mid.skip (M : Mid g far back hp dn cur (some (m, pre))) {o : Nat} {w q : Int} (ha : (o, w) ∈ g.rows m) (hf : far o = some q) (hq : ¬ cur + w < q) : Mid g far back hp dn cur (some (m, pre ++ [(o, w)])) := by
  obtain ⟨h1, h2, h3⟩ := M.part m pre rfl
  refine { M with arcs := fun k hk p hp' hx => M.arcs k hk p hp' fun pr z => ?_, part := fun k pr z => ?_ }
  · injection z with z; injection z with z1 z2; exact hx (pre ++ [(o, w)]) (by rw [z1])
  · injection z with z; injection z with z1 z2
    subst z1 z2
    refine ⟨h1, h2, fun a h => ?_⟩
    rcases List.mem_append.mp h with h | h
    · exact h3 a h
    · rw [List.mem_singleton.mp h]; exact ⟨ha, q, hf, by show q ≤ cur + w; omega⟩
theorem Mid.more (M : Mid g far back hp dn cur (some (m, pre))) {o : Nat} {w : Int} (ha : (o, w) ∈ g.rows m) (hq : ∀ q, far o = some q → cur + w < q) {hp' : List (Int × Nat)} (hh : ∀ z, z ∈ hp' ↔ z = (cur + w, o) ∨ z ∈ hp) :
    Mid g (put far o (cur + w)) (put back o (some m)) hp' dn cur (some (m, pre ++ [(o, w)])) := by
  obtain ⟨h1, h2, h3⟩ := M.part m pre rfl
  have hw := g.nn m _ ha
  have hw : 0 ≤ w := hw
  have od : o ∉ dn := fun h => by
    obtain ⟨p, hp1, hp2⟩ := M.was o h
    have := hq p hp1; omega
  have le : ∀ k q, far k = some q → ∃ q', put far o (cur + w) k = some q' ∧ q' ≤ q := fun k q h => by
    by_cases e : k = o
    · subst e; exact ⟨_, put_eq, by have := hq q h; omega⟩
    · exact ⟨q, by rw [put_ne e]; exact h, Int.le_refl _⟩
  have keep : ∀ k ∈ dn, put far o (cur + w) k = far k := fun k hk => put_ne fun e => od (e ▸ hk)
  refine ⟨fun k p h => ?_, fun p k h => ?_, fun k => ?_, fun k hk => ?_, fun k hk p hp1 hx a h => ?_, fun k pr z => ?_, fun p k h => ?_, fun k p h hb => ?_, fun k p b h hb => ?_, fun a h => ?_, fun l k r b e hb => ?_, M.nd⟩
  · by_cases e : k = o
    · subst e; rw [put_eq] at h; cases h
      exact .inr ((hh _).mpr (.inl rfl))
    · rw [put_ne e] at h
      rcases M.here k p h with z | z
      · exact .inl z
      · exact .inr ((hh _).mpr (.inr z))
  · rcases (hh _).mp h with z | z
    · cases z; exact ⟨_, put_eq, Int.le_refl _⟩
    · obtain ⟨q, h1, h2⟩ := M.low p k z
      obtain ⟨q', h3, h4⟩ := le k q h1
      exact ⟨q', h3, by omega⟩
  · by_cases e : k = o
    · subst e; rw [put_eq, put_eq]; rfl
    · rw [put_ne e, put_ne e]; exact M.dom k
  · rw [keep k hk]; exact M.was k hk
  · rw [keep k hk] at hp1
    obtain ⟨q, h4, h5⟩ := M.arcs k hk p hp1 (fun pr z => by injection z with z; injection z with z1 z2; exact hx (pre ++ [(o, w)]) (by rw [z1])) a h
    obtain ⟨q', h6, h7⟩ := le _ q h4
    exact ⟨q', h6, by omega⟩
  · injection z with z; injection z with z1 z2
    subst z1 z2
    refine ⟨h1, by rw [keep _ h1]; exact h2, fun a h => ?_⟩
    rcases List.mem_append.mp h with h | h
    · obtain ⟨h4, q, h5, h6⟩ := h3 a h
      obtain ⟨q', h7, h8⟩ := le _ q h5
      exact ⟨h4, q', h7, by omega⟩
    · rw [List.mem_singleton.mp h]; exact ⟨ha, _, put_eq, Int.le_refl _⟩
  · rcases (hh _).mp h with z | z
    · cases z; omega
    · exact M.top p k z
  · by_cases e : k = o
    · subst e; rw [put_eq] at hb; cases hb
    · rw [put_ne e] at h hb; exact M.bn k p h hb
  · by_cases e : k = o
    · subst e; rw [put_eq] at h hb; cases h; cases hb
      refine ⟨h1, fun z => ?_, cur, by rw [keep _ h1]; exact h2, by rw [show cur + w - cur = w by omega]; exact ha⟩
      obtain ⟨q, h4, h5⟩ := M.sta _ z
      have := hq q h4
      have h5 : q ≤ cur + w := h5
      omega
    · rw [put_ne e] at h hb
      obtain ⟨h4, h5, q, h6, h7⟩ := M.bs k p b h hb
      exact ⟨h4, h5, q, by rw [keep b h4]; exact h6, h7⟩
  · obtain ⟨q, h4, h5⟩ := M.sta a h
    obtain ⟨q', h6, h7⟩ := le _ q h4
    exact ⟨q', h6, by omega⟩
  · have hk : k ∈ dn := by rw [e]; simp
    rw [put_ne fun (z : k = o) => od (z ▸ hk)] at hb
    exact M.ord l k r b e hb
theorem Mid.end (M : Mid g far back hp dn cur (some (m, g.rows m))) : Mid g far back hp dn cur none := by
  obtain ⟨h1, h2, h3⟩ := M.part m _ rfl
  refine { M with arcs := fun k hk p hp' _ a ha => ?_, part := fun _ _ z => nomatch z }
  by_cases e : k = m
  · subst e; rw [h2] at hp'; cases hp'; exact (h3 a ha).2
  · exact M.arcs k hk p hp' (fun pr z => by injection z with z; injection z with z1 _; exact e z1.symm) a ha
theorem Mid.drop (M : Mid g far back hp dn cur none) {p : Int} {hp' : List (Int × Nat)} (hh : ∀ z, z ∈ hp ↔ z = (p, m) ∨ z ∈ hp') (hl : ∀ z ∈ hp', p ≤ z.1) (h : far m ≠ some p ∨ m ∈ dn) : Mid g far back hp' dn p none := by
  have hc : cur ≤ p := M.top p m ((hh _).mpr (.inl rfl))
  refine { M with here := fun k q hk => ?_, low := fun q k hk => M.low q k ((hh _).mpr (.inr hk)), was := fun k hk => ?_, top := fun q k hk => hl _ hk, part := fun _ _ z => nomatch z }
  · rcases M.here k q hk with z | z
    · exact .inl z
    · rcases (hh _).mp z with z | z
      · cases z
        rcases h with h | h
        · exact absurd hk h
        · exact .inl h
      · exact .inr z
  · obtain ⟨q, h1, h2⟩ := M.was k hk
    exact ⟨q, h1, by omega⟩
theorem Mid.take (M : Mid g far back hp dn cur none) {p : Int} {hp' : List (Int × Nat)} (hh : ∀ z, z ∈ hp ↔ z = (p, m) ∨ z ∈ hp') (hl : ∀ z ∈ hp', p ≤ z.1) (h : far m = some p) (hn : m ∉ dn) : Mid g far back hp' (m :: dn) p (some (m, [])) := by
  have hc : cur ≤ p := M.top p m ((hh _).mpr (.inl rfl))
  refine ⟨fun k q hk => ?_, fun q k hk => M.low q k ((hh _).mpr (.inr hk)), M.dom, fun k hk => ?_, fun k hk q hq hx a ha => ?_, fun k pr z => ?_, fun q k hk => hl _ hk, M.bn, fun k q b hk hb => ?_, M.sta, fun l k r b e hb => ?_, List.nodup_cons.mpr ⟨hn, M.nd⟩⟩
  · rcases M.here k q hk with z | z
    · exact .inl (List.mem_cons_of_mem _ z)
    · rcases (hh _).mp z with z | z
      · cases z; exact .inl List.mem_cons_self
      · exact .inr z
  · rcases List.mem_cons.mp hk with z | z
    · subst z; exact ⟨p, h, Int.le_refl _⟩
    · obtain ⟨q, h1, h2⟩ := M.was k z
      exact ⟨q, h1, by omega⟩
  · rcases List.mem_cons.mp hk with z | z
    · subst z; exact absurd rfl (hx [])
    · exact M.arcs k z q hq (fun _ y => nomatch y) a ha
  · injection z with z; injection z with z1 z2
    subst z1 z2
    exact ⟨List.mem_cons_self, h, fun a ha => nomatch ha⟩
  · obtain ⟨h1, h2⟩ := M.bs k q b hk hb
    exact ⟨List.mem_cons_of_mem _ h1, h2⟩
  · cases l with
    | nil =>
      injection e with e1 e2
      subst e1 e2
      exact (M.bs m p b h hb).1
    | cons z l' =>
      injection e with e1 e2
      exact M.ord l' k r b e2 hb
structure St (ss : List (Nat × Int)) (far : Far) (back : Back) (hp : List (Int × Nat)) : Prop where
  here : ∀ m p, far m = some p → (p, m) ∈ hp ∧ (m, p) ∈ ss
  low : ∀ p m, (p, m) ∈ hp → ∃ q, far m = some q ∧ q ≤ p
  dom : ∀ m, (back m).isSome = (far m).isSome
  bn : ∀ m b, back m = some b → b = none
  sta : ∀ a ∈ ss, ∃ q, far a.1 = some q ∧ q ≤ a.2
theorem St.skip {ss : List (Nat × Int)} (S : St ss far back hp) {o : Nat} {w q : Int} (hf : far o = some q) (hq : ¬ w < q) : St (ss ++ [(o, w)]) far back hp := by
  refine { S with here := fun k p h => ⟨(S.here k p h).1, List.mem_append.mpr (.inl (S.here k p h).2)⟩, sta := fun a h => ?_ }
  rcases List.mem_append.mp h with h | h
  · exact S.sta a h
  · rw [List.mem_singleton.mp h]; exact ⟨q, hf, by show q ≤ w; omega⟩
theorem St.more {ss : List (Nat × Int)} (S : St ss far back hp) {o : Nat} {w : Int} (hq : ∀ q, far o = some q → w < q) {hp' : List (Int × Nat)} (hh : ∀ z, z ∈ hp' ↔ z = (w, o) ∨ z ∈ hp) : St (ss ++ [(o, w)]) (put far o w) (put back o none) hp' := by
  have le : ∀ k q, far k = some q → ∃ q', put far o w k = some q' ∧ q' ≤ q := fun k q h => by
    by_cases e : k = o
    · subst e; exact ⟨_, put_eq, by have := hq q h; omega⟩
    · exact ⟨q, by rw [put_ne e]; exact h, Int.le_refl _⟩
  refine ⟨fun k p h => ?_, fun p k h => ?_, fun k => ?_, fun k b h => ?_, fun a h => ?_⟩
  · by_cases e : k = o
    · subst e; rw [put_eq] at h; cases h
      exact ⟨(hh _).mpr (.inl rfl), by simp⟩
    · rw [put_ne e] at h
      exact ⟨(hh _).mpr (.inr (S.here k p h).1), List.mem_append.mpr (.inl (S.here k p h).2)⟩
  · rcases (hh _).mp h with z | z
    · cases z; exact ⟨_, put_eq, Int.le_refl _⟩
    · obtain ⟨q, h1, h2⟩ := S.low p k z
      obtain ⟨q', h3, h4⟩ := le k q h1
      exact ⟨q', h3, by omega⟩
  · by_cases e : k = o
    · subst e; rw [put_eq, put_eq]; rfl
    · rw [put_ne e, put_ne e]; exact S.dom k
  · by_cases e : k = o
    · subst e; rw [put_eq] at h; exact (Option.some.inj h).symm
    · rw [put_ne e] at h; exact S.bn k b h
  · rcases List.mem_append.mp h with h | h
    · obtain ⟨q, h1, h2⟩ := S.sta a h
      obtain ⟨q', h3, h4⟩ := le _ q h1
      exact ⟨q', h3, by omega⟩
    · rw [List.mem_singleton.mp h]; exact ⟨_, put_eq, Int.le_refl _⟩
theorem low_bound : ∀ (hp : List (Int × Nat)), ∃ c : Int, ∀ z ∈ hp, c ≤ z.1
  | [] => ⟨0, fun _ h => nomatch h⟩
  | a :: r => by
    obtain ⟨c, h⟩ := low_bound r
    refine ⟨min a.1 c, fun z hz => ?_⟩
    rcases List.mem_cons.mp hz with e | hz
    · subst e; omega
    · have := h z hz; omega
theorem St.mid (S : St g.starts far back hp) : ∃ c, Mid g far back hp [] c none := by
  obtain ⟨c, hc⟩ := low_bound hp
  refine ⟨c, fun m p h => .inr (S.here m p h).1, S.low, S.dom, (fun _ h => nomatch h), (fun _ h => nomatch h), (fun _ _ z => nomatch z), fun p m h => hc _ h, fun m p h _ => (S.here m p h).2, (fun m p b _ hb => by have := S.bn m _ hb; cases this), S.sta, fun l m r b e => ?_, List.nodup_nil⟩
  cases l <;> cases e
structure Told (g : G) (far : Far) (back : Back) : Prop where
  dom : ∀ m, (back m).isSome = (far m).isSome
  arcs : ∀ m p, far m = some p → ∀ a ∈ g.rows m, ∃ q, far a.1 = some q ∧ q ≤ p + a.2
  bn : ∀ m p, far m = some p → back m = some none → (m, p) ∈ g.starts
  bs : ∀ m p b, far m = some p → back m = some (some b) → (m, p) ∉ g.starts ∧ ∃ q, far b = some q ∧ (m, p - q) ∈ g.rows b
  sta : ∀ a ∈ g.starts, ∃ q, far a.1 = some q ∧ q ≤ a.2
  ord : ∃ dn : List Nat, dn.Nodup ∧ (∀ m, m ∈ dn ↔ (far m).isSome = true) ∧ ∀ l m r b, dn = l ++ m :: r → back m = some (some b) → b ∈ r
theorem Mid.told (M : Mid g far back [] dn cur none) : Told g far back := by
  have all : ∀ m p, far m = some p → m ∈ dn := fun m p h => by
    rcases M.here m p h with z | z
    · exact z
    · cases z
  refine ⟨M.dom, fun m p h a ha => M.arcs m (all m p h) p h (fun _ z => nomatch z) a ha, M.bn, fun m p b h hb => (M.bs m p b h hb).2, M.sta, dn, M.nd, fun m => ⟨fun h => ?_, fun h => ?_⟩, M.ord⟩
  · obtain ⟨p, h1, _⟩ := M.was m h; rw [h1]; rfl
  · obtain ⟨p, h1⟩ := Option.isSome_iff_exists.mp h; exact all m p h1
end
def ends (back : Back) : Nat → Nat → Bool
  | 0, _ => false
  | k + 1, m => match back m with
    | some (some b) => ends back k b
    | some none => true
    | none => false
theorem ends_in {g : G} {far : Far} {back : Back} {dn : List Nat} (T : Told g far back) (hall : ∀ m, m ∈ dn ↔ (far m).isSome = true) (ho : ∀ l m r b, dn = l ++ m :: r → back m = some (some b) → b ∈ r) : ∀ (r l : List Nat) (m : Nat), dn = l ++ r → m ∈ r → ends back r.length m = true
  | [], _, _, _, h => nomatch h
  | x :: r, l, m, e, h => by
    have hm : m ∈ dn := by rw [e]; exact List.mem_append.mpr (.inr h)
    have hd := T.dom m
    rw [(hall m).mp hm] at hd
    obtain ⟨b, hb⟩ := Option.isSome_iff_exists.mp hd
    show (match back m with | some (some b) => ends back r.length b | some none => true | none => false) = true
    rw [hb]
    cases b with
    | none => rfl
    | some c =>
      show ends back r.length c = true
      rcases List.mem_cons.mp h with z | z
      · subst z
        exact ends_in T hall ho r (l ++ [m]) c (by simp [e]) (ho l m r c e hb)
      · obtain ⟨r1, r2, e2⟩ := List.append_of_mem z
        have hc := ho (l ++ x :: r1) m r2 c (by rw [e, e2]; simp) hb
        refine ends_in T hall ho r (l ++ [x]) c (by simp [e]) ?_
        rw [e2]; exact List.mem_append.mpr (.inr (List.mem_cons_of_mem _ hc))
theorem Told.ends {g : G} {far : Far} {back : Back} (T : Told g far back) : ∃ dn : List Nat, dn.Nodup ∧ (∀ m, m ∈ dn ↔ (far m).isSome = true) ∧ ∀ m, (far m).isSome = true → ends back dn.length m = true := by
  obtain ⟨dn, h1, h2, h3⟩ := T.ord
  exact ⟨dn, h1, h2, fun m h => ends_in T h2 h3 dn [] m rfl ((h2 m).mpr h)⟩
end Dj
namespace Dj
def sumF (f : Nat → Nat) (l : List Nat) : Nat := (l.map f).sum
theorem bud_step (f : Nat → Nat) (dn : List Nat) (m : Nat) (hn : m ∉ dn) : ∀ (l : List Nat), l.Nodup → m ∈ l → sumF f (l.filter fun k => decide (k ∉ m :: dn)) + f m = sumF f (l.filter fun k => decide (k ∉ dn))
  | [], _, h => nomatch h
  | a :: r, nd, h => by
    rw [List.nodup_cons] at nd
    by_cases e : a = m
    · subst e
      have e1 : (r.filter fun k => decide (k ∉ a :: dn)) = r.filter fun k => decide (k ∉ dn) := by
        refine List.filter_congr fun k hk => ?_
        have : k ≠ a := fun z => nd.1 (z ▸ hk)
        simp [this]
      rw [List.filter_cons_of_neg (by simp), e1, List.filter_cons_of_pos (by simpa using hn)]
      unfold sumF
      rw [List.map_cons, List.sum_cons]; omega
    · have hm : m ∈ r := by
        rcases List.mem_cons.mp h with z | z
        · exact absurd z.symm e
        · exact z
      have ih := bud_step f dn m hn r nd.2 hm
      by_cases ha : a ∈ dn
      · rw [List.filter_cons_of_neg (by simp [ha]), List.filter_cons_of_neg (by simp [ha])]; exact ih
      · rw [List.filter_cons_of_pos (by simp [ha, e]), List.filter_cons_of_pos (by simp [ha])]
        unfold sumF at ih ⊢
        rw [List.map_cons, List.sum_cons, List.map_cons, List.sum_cons]; omega
def bud (g : G) (n : Nat) (dn : List Nat) : Nat := sumF (fun k => (g.rows k).length) ((List.range n).filter fun k => decide (k ∉ dn))
theorem bud_cons {g : G} {n m : Nat} {dn : List Nat} (hm : m < n) (hn : m ∉ dn) : bud g n (m :: dn) + (g.rows m).length = bud g n dn :=
  bud_step _ dn m hn _ List.nodup_range (List.mem_range.mpr hm)
end Dj
def mkL (kd : Bool) (k : Nat) : List Int := cond kd [(k : Int) / 4, (k : Int) * 7 % 4] [3 + (k : Int) * k * 1000003]
theorem mkL_inj : ∀ (kd : Bool), ∀ i < 12, ∀ j < 12, mkL kd i = mkL kd j → i = j := by decide
def Mk (H : Hp) (kd : Bool) (m : V) (k : Nat) : Prop := k < 12 ∧ MrkH H kd m (mkL kd k)
theorem Mk.kept {H H' : Hp} {kd : Bool} {m : V} {k : Nat} (h : Mk H kd m k) (t : TK H H') : Mk H' kd m k := ⟨h.1, h.2.kept t⟩
theorem MrkH.uniq {H : Hp} {kd : Bool} {m : V} {l l' : List Int} (h : MrkH H kd m l) (h' : MrkH H kd m l') : l = l' := by
  rcases h with ⟨rfl, i, rfl, rfl⟩ | ⟨rfl, b, i, j, rfl, e, rfl⟩
  · rcases h' with ⟨_, i', e', rfl⟩ | ⟨z, _⟩
    · cases e'; rfl
    · cases z
  · rcases h' with ⟨z, _⟩ | ⟨_, b', i', j', e1, e2, rfl⟩
    · cases z
    · cases e1
      rw [e] at e2; cases e2; rfl
theorem Mk.uniq {H : Hp} {kd : Bool} {m : V} {i j : Nat} (h : Mk H kd m i) (h' : Mk H kd m j) : i = j := mkL_inj kd i h.1 j h'.1 (h.2.uniq h'.2)
theorem same_tk {H H' : Hp} (s : Same H H') : TK H H' := fun b xs e => s _ _ e
def kI (k : Nat) : Key := Sum.inl (3 + (k : Int) * k * 1000003)
def kT (k : Nat) : List Key := [Sum.inl ((k : Int) / 4), Sum.inl ((k : Int) * 7 % 4)]
theorem kI_inj {i j : Nat} (hi : i < 12) (hj : j < 12) (e : kI i = kI j) : i = j := by
  unfold kI at e
  injection e with e
  exact mkL_inj false i hi j hj (by unfold mkL; rw [cond_false, cond_false, e])
theorem kT_inj {i j : Nat} (hi : i < 12) (hj : j < 12) (e : kT i = kT j) : i = j := by
  unfold kT at e
  injection e with e1 e2
  injection e1 with e1
  injection e2 with e2
  injection e2 with e2
  exact mkL_inj true i hi j hj (by unfold mkL; rw [cond_true, cond_true, e1, e2])
def DMx (R : HO → Prop) (kd : Bool) (us : List Nat) (g : Nat → Option V) : Prop := (∀ k ∈ us, k < 12) ∧
  ((kd = false ∧ ∃ kvs : List (Key × V), R (.dK kvs) ∧ kvs.map (·.1) = us.map kI ∧ ∀ k, k < 12 → valV kvs (kI k) = g k) ∨
   (kd = true ∧ ∃ kvs : List (List Key × V), R (.dT kvs) ∧ kvs.map (·.1) = us.map kT ∧ ∀ k, k < 12 → valV kvs (kT k) = g k))
abbrev DM (H : Hp) (d : Addr) (kd : Bool) (us : List Nat) (g : Nat → Option V) : Prop := DMx (fun u => H d = some u) kd us g
abbrev DMr (H : Hp) (d : Addr) (kd : Bool) (us : List Nat) (g : Nat → Option V) : Prop := DMx (Rd H d) kd us g
theorem DMx.mono {R R' : HO → Prop} {kd : Bool} {us : List Nat} {g : Nat → Option V} (h : DMx R kd us g) (f : ∀ u, R u → R' u) : DMx R' kd us g := by
  obtain ⟨h0, ⟨e, kvs, h1, h2⟩ | ⟨e, kvs, h1, h2⟩⟩ := h
  · exact ⟨h0, .inl ⟨e, kvs, f _ h1, h2⟩⟩
  · exact ⟨h0, .inr ⟨e, kvs, f _ h1, h2⟩⟩
theorem dm_r {H : Hp} {d : Addr} {kd : Bool} {us : List Nat} {g : Nat → Option V} (h : DM H d kd us g) : DMr H d kd us g := h.mono fun _ e => .inl e
theorem dm_same {H H' : Hp} {d : Addr} {kd : Bool} {us : List Nat} {g : Nat → Option V} (h : DM H d kd us g) (s : ∀ o, H d = some o → H' d = some o) : DM H' d kd us g := h.mono fun _ e => s _ e
theorem dmr_same {H H' : Hp} {d : Addr} {kd : Bool} {us : List Nat} {g : Nat → Option V} (h : DMr H d kd us g) (s : ∀ o, H d = some o → H' d = some o) : DMr H' d kd us g := h.mono fun _ e => by
  rcases e with e | ⟨o, e⟩
  · exact .inl (s _ e)
  · exact .inr ⟨o, s _ e⟩
theorem DMx.dom {R : HO → Prop} {kd : Bool} {us : List Nat} {g : Nat → Option V} (h : DMx R kd us g) {k : Nat} (hk : k < 12) : (g k).isSome = decide (k ∈ us) := by
  obtain ⟨h0, ⟨_, kvs, _, h2, h3⟩ | ⟨_, kvs, _, h2, h3⟩⟩ := h
  · rw [← h3 k hk]
    cases e : valV kvs (kI k) with
    | none =>
      have := valV_not e
      rw [h2] at this
      have nm : k ∉ us := fun z => this (List.mem_map_of_mem z)
      simp [nm]
    | some v =>
      have := valV_in e
      rw [h2] at this
      obtain ⟨j, hj, ej⟩ := List.mem_map.mp this
      have : k ∈ us := by rw [← kI_inj (h0 j hj) hk ej]; exact hj
      simp [this]
  · rw [← h3 k hk]
    cases e : valV kvs (kT k) with
    | none =>
      have := valV_not e
      rw [h2] at this
      have nm : k ∉ us := fun z => this (List.mem_map_of_mem z)
      simp [nm]
    | some v =>
      have := valV_in e
      rw [h2] at this
      obtain ⟨j, hj, ej⟩ := List.mem_map.mp this
      have : k ∈ us := by rw [← kT_inj (h0 j hj) hk ej]; exact hj
      simp [this]
theorem dm_get {H : Hp} {d : Addr} {kd : Bool} {us : List Nat} {g : Nat → Option V} {m : V} {k : Nat} (h : DMr H d kd us g) (hm : Mk H kd m k) : DGet H d m (g k) := by
  obtain ⟨hk, hm⟩ := hm
  obtain ⟨h0, ⟨rfl, kvs, h1, h2, h3⟩ | ⟨rfl, kvs, h1, h2, h3⟩⟩ := h
  · rcases hm with ⟨_, i, rfl, e⟩ | ⟨z, _⟩
    · have e' : [3 + (k : Int) * k * 1000003] = [i] := e
      injection e' with e'
      rw [← e']
      exact .inl ⟨kvs, kI k, h1, rfl, (h3 k hk).symm⟩
    · cases z
  · rcases hm with ⟨z, _⟩ | ⟨_, b, i, j, rfl, hb, e⟩
    · cases z
    · have e' : [(k : Int) / 4, (k : Int) * 7 % 4] = [i, j] := e
      injection e' with e1 e2
      injection e2 with e2
      rw [← e1, ← e2] at hb
      exact .inr ⟨kvs, kT k, b, h1, rfl, hb, (h3 k hk).symm⟩
theorem keys_putK {κ : Type} [DecidableEq κ] (kvs : List (κ × V)) (k : κ) (v : V) : (putK kvs k v).map (·.1) = if (valV kvs k).isSome = true then kvs.map (·.1) else kvs.map (·.1) ++ [k] := by
  cases e : valV kvs k with
  | none => rw [putK_new _ e, List.map_append]; rfl
  | some w =>
    have : (kvs.any fun kv => decide (kv.1 = k)) = true := by rw [valV_any, e]; rfl
    unfold putK
    rw [if_pos this, List.map_map]
    show _ = kvs.map (·.1)
    refine List.map_congr_left fun p _ => ?_
    show (if p.1 = k then (p.1, v) else p).1 = p.1
    split <;> rfl
def ins (us : List Nat) (k : Nat) : List Nat := if k ∈ us then us else us ++ [k]
theorem ins_len (us : List Nat) (k : Nat) : (ins us k).length ≤ us.length + 1 := by
  unfold ins
  split
  · omega
  · rw [List.length_append]; exact Nat.le_refl _
theorem ins_nd {us : List Nat} {k : Nat} (h : us.Nodup) : (ins us k).Nodup := by
  unfold ins
  split
  · exact h
  · rename_i hn
    exact List.nodup_append.mpr ⟨h, by simp, fun a ha b hb e => hn (by rw [List.mem_singleton.mp hb] at e; rw [← e]; exact ha)⟩
theorem dm_put {H : Hp} {d : Addr} {kd : Bool} {us : List Nat} {g : Nat → Option V} {m : V} {k : Nat} (h : DM H d kd us g) (hm : Mk H kd m k) (hl : us.length ≤ 100) (v : V) :
    ∃ ob, DPut H d m v (upd H d ob) ∧ DM (upd H d ob) d kd (ins us k) (fun j => if j = k then some v else g j) ∧ Mut (some ob) ∧ Mut (H d) := by
  have hd := DMx.dom h hm.1
  obtain ⟨hk, hm⟩ := hm
  have h0' : (∀ j ∈ us, j < 12) → ∀ j ∈ ins us k, j < 12 := fun h0 j hj => by
    unfold ins at hj
    split at hj
    · exact h0 j hj
    · rcases List.mem_append.mp hj with hj | hj
      · exact h0 j hj
      · rw [List.mem_singleton.mp hj]; exact hk
  obtain ⟨h0, ⟨rfl, kvs, h1, h2, h3⟩ | ⟨rfl, kvs, h1, h2, h3⟩⟩ := h
  · rcases hm with ⟨_, i, rfl, e⟩ | ⟨z, _⟩
    · have e' : [3 + (k : Int) * k * 1000003] = [i] := e
      injection e' with e'
      rw [← e']
      have hlen : kvs.length = us.length := by have := congrArg List.length h2; simpa using this
      refine ⟨.dK (putK kvs (kI k) v), .inl ⟨kvs, kI k, h1, rfl, small1000 (by omega), rfl⟩, ⟨h0' h0, .inl ⟨rfl, _, upd_same, ?_, fun j hj => ?_⟩⟩, trivial, by rw [h1]; trivial⟩
      · rw [keys_putK, h3 k hk, hd, h2]
        unfold ins
        by_cases c : k ∈ us
        · rw [if_pos c, if_pos (by simpa using c)]
        · rw [if_neg c, if_neg (by simpa using c), List.map_append]; rfl
      · show _ = if j = k then some v else g j
        rw [valV_put]
        by_cases c : j = k
        · rw [if_pos c, if_pos (by rw [c])]
        · rw [if_neg c, if_neg (fun z => c (kI_inj hj hk z)), h3 j hj]
    · cases z
  · rcases hm with ⟨z, _⟩ | ⟨_, b, i, j, rfl, hb, e⟩
    · cases z
    · have e' : [(k : Int) / 4, (k : Int) * 7 % 4] = [i, j] := e
      injection e' with e1 e2
      injection e2 with e2
      rw [← e1, ← e2] at hb
      have hlen : kvs.length = us.length := by have := congrArg List.length h2; simpa using this
      refine ⟨.dT (putK kvs (kT k) v), .inr ⟨kvs, kT k, b, h1, rfl, hb, small1000 (by omega), rfl⟩, ⟨h0' h0, .inr ⟨rfl, _, upd_same, ?_, fun j hj => ?_⟩⟩, trivial, by rw [h1]; trivial⟩
      · rw [keys_putK, h3 k hk, hd, h2]
        unfold ins
        by_cases c : k ∈ us
        · rw [if_pos c, if_pos (by simpa using c)]
        · rw [if_neg c, if_neg (by simpa using c), List.map_append]; rfl
      · show _ = if j = k then some v else g j
        rw [valV_put]
        by_cases c : j = k
        · rw [if_pos c, if_pos (by rw [c])]
        · rw [if_neg c, if_neg (fun z => c (kT_inj hj hk z)), h3 j hj]
theorem dm_raw {H : Hp} {d : Addr} {kd : Bool} {us : List Nat} {g : Nat → Option V} (h : DM H d kd us g) : ∃ u, H d = some u ∧ Mut (some u) ∧ DictU u ∧ szU u = us.length ∧ (∀ (H' : Hp) o, H' d = some (.frz o u) → DMr H' d kd us g) ∧
    (∀ H' i x v, KeyAt H' u i x v → ∃ k, us[i]? = some k ∧ k < 12 ∧ MrkH H' kd x (mkL kd k)) := by
  obtain ⟨h0, ⟨rfl, kvs, h1, h2, h3⟩ | ⟨rfl, kvs, h1, h2, h3⟩⟩ := h
  · refine ⟨_, h1, trivial, trivial, (by have := congrArg List.length h2; rw [List.length_map, List.length_map] at this; exact this), fun H' o e => ⟨h0, .inl ⟨rfl, kvs, .inr ⟨o, e⟩, h2, h3⟩⟩, fun H' i x v hk => ?_⟩
    obtain ⟨kk, e1, rfl⟩ := hk
    have e2 : (kvs.map (·.1))[i]? = some kk := by rw [List.getElem?_map, e1]; rfl
    rw [h2, List.getElem?_map] at e2
    obtain ⟨k, e3, rfl⟩ := Option.map_eq_some_iff.mp e2
    exact ⟨k, e3, h0 k (List.mem_of_getElem? e3), .inl ⟨rfl, _, rfl, rfl⟩⟩
  · refine ⟨_, h1, trivial, trivial, (by have := congrArg List.length h2; rw [List.length_map, List.length_map] at this; exact this), fun H' o e => ⟨h0, .inr ⟨rfl, kvs, .inr ⟨o, e⟩, h2, h3⟩⟩, fun H' i x v hk => ?_⟩
    obtain ⟨kk, b, e1, rfl, hb⟩ := hk
    have e2 : (kvs.map (·.1))[i]? = some kk := by rw [List.getElem?_map, e1]; rfl
    rw [h2, List.getElem?_map] at e2
    obtain ⟨k, e3, rfl⟩ := Option.map_eq_some_iff.mp e2
    exact ⟨k, e3, h0 k (List.mem_of_getElem? e3), .inr ⟨rfl, b, _, _, rfl, hb, rfl⟩⟩
theorem dm_ty {K : PySem.W.Frag} {H : Hp} {d : Addr} {kd : Bool} {us : List Nat} {g : Nat → Option V} (h : DM H d kd us g) : tyV K "dict" (.ref d) H := by
  refine .inr (.inr (.inl ⟨rfl, ?_⟩))
  obtain ⟨_, ⟨_, kvs, e, _⟩ | ⟨_, kvs, e, _⟩⟩ := h
  · exact .inl ⟨kvs, e⟩
  · exact .inr ⟨kvs, e⟩
abbrev MPs (H : Hp) (kd : Bool) (vs : List V) (ps : List (Nat × Int)) : Prop := Paired (fun v (p : Nat × Int) => ∃ a m, v = .ref a ∧ H a = some (.tup [m, .int p.2]) ∧ Mk H kd m p.1) vs ps
theorem MPs.kept {H H' : Hp} {kd : Bool} {vs : List V} {ps : List (Nat × Int)} (h : MPs H kd vs ps) (t : TK H H') : MPs H' kd vs ps := Paired.mapP h fun _ _ ⟨a, m, e, h1, h2⟩ => ⟨a, m, e, t _ _ h1, h2.kept t⟩
theorem MPs.at {H : Hp} {kd : Bool} : ∀ {vs : List V} {ps : List (Nat × Int)} {i : Nat} {v : V}, MPs H kd vs ps → vs[i]? = some v → ∃ p a m, ps[i]? = some p ∧ v = .ref a ∧ H a = some (.tup [m, .int p.2]) ∧ Mk H kd m p.1
  | _, _, 0, _, .cons (b := p) h t, e => by cases e; obtain ⟨a, m, h1, h2, h3⟩ := h; exact ⟨p, a, m, rfl, h1, h2, h3⟩
  | _, _, i + 1, _, .cons h t, e => MPs.at (i := i) t e
  | _, _, _, _, .nil, e => by simp at e
structure RowsAt (H : Hp) (rd : Addr) (kd : Bool) (us : List Nat) (gv : Nat → Option V) (rows : Nat → List (Nat × Int)) : Prop where
  dm : DM H rd kd us gv
  no : ∀ k, k < 12 → gv k = none → rows k = []
  ye : ∀ k v, k < 12 → gv k = some v → ∃ l vs, v = .ref l ∧ H l = some (.lst vs) ∧ MPs H kd vs (rows k)
theorem RowsAt.same {H H' : Hp} {rd : Addr} {kd : Bool} {us : List Nat} {gv : Nat → Option V} {rows : Nat → List (Nat × Int)} (h : RowsAt H rd kd us gv rows) (s : Same H H') : RowsAt H' rd kd us gv rows :=
  ⟨dm_same h.dm (fun o e => s _ _ e), h.no, fun k v hk e => by obtain ⟨l, vs, e1, e2, e3⟩ := h.ye k v hk e; exact ⟨l, vs, e1, s _ _ e2, e3.kept (same_tk s)⟩⟩
theorem RowsAt.frz {H H' : Hp} {rd fa : Addr} {kd : Bool} {us : List Nat} {gv : Nat → Option V} {rows : Nat → List (Nat × Int)} {u : HO} (h : RowsAt H rd kd us gv rows) (hu : H fa = some u) (du : DictU u) (ne : fa ≠ rd) (s : ∀ b x, b ≠ fa → H b = some x → H' b = some x) : RowsAt H' rd kd us gv rows := by
  have tk : TK H H' := fun b xs e => s b _ (fun z => by rw [z, hu] at e; cases e; exact du.elim) e
  exact ⟨dm_same h.dm (fun o e => s _ _ ne.symm e), h.no, fun k v hk e => by
    obtain ⟨l, vs, e1, e2, e3⟩ := h.ye k v hk e
    exact ⟨l, vs, e1, s _ _ (fun z => by rw [z, hu] at e2; cases e2; exact du.elim) e2, e3.kept tk⟩⟩
def lamX : Expr := match (defBody slaw).getD 6 (.Pass ⟨0, 0, 0, 0⟩) with
  | .Assign _ (.Call _ (e :: _) _ _) _ => e
  | _ => .Name "x" ⟨0, 0, 0, 0⟩
def lamPar : Arguments := match lamX with
  | .Lambda p _ _ _ => p
  | _ => defArgs slaw
def lamBod : Expr := match lamX with
  | .Lambda _ b _ _ => b
  | e => e
def lamSc : Scope := match lamX with
  | .Lambda _ _ s _ => s
  | _ => defScope slaw
def lamQ : Str := (("law" : Str) ++ ".<locals>.") ++ "<lambda>"
def lamT (K : PySem.W.Frag) : TE := tCB (fun xs H Q => ∃ p ys, xs = [.ref p] ∧ (SqL K H p ys ∨ SqT K H p ys) ∧ ∀ l, H l = none → Q (.ref l) (upd H l (.lst ys))) (tCons (tBM K "dict" rGetT (tVar 1) (tCons (tVar 0) (tCons (tLst tNil) tNil))) tNil)
theorem lamS (c : Addr) : LamScope ["mark"] [("rows", c)] lamSc := by
  have fr : ∀ p ∈ lamSc.names, p.2 = .free → p.1 = "rows" := by decide +kernel
  have one : ∀ (x : Str) (d : Addr), ([("rows", c)] : List (Str × Addr)).lookup x = some d → x = "rows" := fun x d h => by
    have := PySem.mem_of_lookup h
    rw [List.mem_singleton] at this
    exact congrArg Prod.fst this
  refine ⟨rfl, rfl, rfl, by decide +kernel, by decide +kernel, fun x hx => ?_, fun x hx => ?_, ?_, fun x y d h1 h2 => by rw [one x d h1, one y d h2]⟩
  · rw [show x = "rows" from fr _ (PySem.mem_of_lookup hx) rfl]
    exact ⟨c, by simp⟩
  · rw [show x = "rows" from List.mem_singleton.mp hx]
    decide +kernel
  · show (["mark", "rows"] : List Str).Nodup
    decide +kernel
theorem lamB (s : Shared) (us : List Value) (c c' : Addr) (pm ctv : Value) (h : us.length = 1) : BindsTo s (PySem.W.kla_fn "<lambda>" lamQ lamPar lamBod lamSc [("rows", c)] pm (.ref c') ctv) ⟨us, []⟩ ((["mark"] : List Str).zip us) := by
  match us, h with
  | [u], _ => exact .of_eq rfl
def ArcFn (mg : Str → Option Value) (H : Hp) (f : Addr) (kd : Bool) (rows : Nat → List (Nat × Int)) : Prop := ∃ (c c' : Addr) (ctv : Value) (oc o : Obj) (rd : Addr) (us : List Nat) (gv : Nat → Option V),
  H f = some (exO f (PySem.W.kla_obj "<lambda>" lamQ lamPar lamBod lamSc [("rows", c)] ((mg "__name__").getD .none) c' ctv)) ∧ H c' = some (exO c' oc) ∧ CodeOf oc c' lamQ ∧ H c = some (exO c o) ∧ o.data = .cell (some (.ref rd)) ∧ RowsAt H rd kd us gv rows
theorem ArcFn.same {mg : Str → Option Value} {H H' : Hp} {f : Addr} {kd : Bool} {rows : Nat → List (Nat × Int)} (h : ArcFn mg H f kd rows) (s : Same H H') : ArcFn mg H' f kd rows := by
  obtain ⟨c, c', ctv, oc, o, rd, us, gv, h1, h2, h3, h4, h5, h6⟩ := h
  exact ⟨c, c', ctv, oc, o, rd, us, gv, s _ _ h1, s _ _ h2, h3, s _ _ h4, h5, h6.same s⟩
def rArc (mg : Str → Option Value) (K : PySem.W.Frag) (f : Addr) (vs : List V) (H : Hp) (Q : VK) : Prop := ∃ (c c' : Addr) (ctv : Value) (oc o : Obj) (u : Value) (v : V), H f = some (exO f (PySem.W.kla_obj "<lambda>" lamQ lamPar lamBod lamSc [("rows", c)] ((mg "__name__").getD .none) c' ctv)) ∧ H c' = some (exO c' oc) ∧ CodeOf oc c' lamQ ∧ H c = some (exO c o) ∧ o.data = .cell (some u) ∧ RelV v u ∧
  vs.length = (["mark"] : List Str).length ∧ lamT K (vs.map some ++ [some v]) (drp H c) fun r H' => H' c = none → Q r (upd H' c (exO c o))
theorem arc_call {K : PySem.W.Frag} {mg : Str → Option Value} {H : Hp} {f : Addr} {kd : Bool} {rows : Nat → List (Nat × Int)} {m : V} {k : Nat} {Q : VK} (h : ArcFn mg H f kd rows) (hm : Mk H kd m k)
    (q : ∀ (l : Addr) (vs : List V) (H' : Hp), Same H H' → H l = none → H' l = some (.lst vs) → MPs H' kd vs (rows k) → Q (.ref l) H') :
    rArc mg K f [m] H Q := by
  obtain ⟨c, c', ctv, oc, o, rd, us, gv, h1, h2, h3, h4, h5, h6⟩ := h
  refine ⟨c, c', ctv, oc, o, .ref rd, .ref rd, h1, h2, h3, h4, h5, rfl, rfl, ?_⟩
  have dn : ∀ {b : Addr} {x : HO}, H b = some x → (∀ φ, x ≠ .ext φ) → drp H c b = some x := fun e n => drp_some e h4 (exO_ne n)
  obtain ⟨ur, hur, mur, hdu, _⟩ := dm_raw h6.dm
  have hk := hm.1
  have tk : TK H (drp H c) := fun b xs e => dn e (fun φ z => nomatch z)
  have hdm : DM (drp H c) rd kd us gv := dm_same h6.dm fun x e => by rw [hur] at e; cases e; exact dn hur (fun φ z => by rw [z] at hdu; exact hdu.elim)
  have hm2 := hm.kept tk
  have hty : tyV K "dict" (.ref rd) (drp H c) := by
    refine .inr (.inr (.inl ⟨rfl, ?_⟩))
    obtain ⟨_, ⟨_, kvs, e, _⟩ | ⟨_, kvs, e, _⟩⟩ := hdm
    · exact .inl ⟨kvs, e⟩
    · exact .inr ⟨kvs, e⟩
  refine ⟨_, rfl, hty, _, rfl, Nat.zero_le _, fun el nel => ?_⟩
  have s1 : Same (drp H c) (upd (drp H c) el (.lst [])) := (Same.refl _).upd nel
  have e1 : upd (drp H c) el (.lst []) el = some (.lst []) := upd_same
  have hg := dm_get (dm_r (dm_same hdm fun x e => s1 _ _ e)) (hm2.kept (same_tk s1))
  refine ⟨rd, m, .ref el, gv k, rfl, rfl, hg, ?_⟩
  have fin : ∀ (p : Addr) (ys : List V), upd (drp H c) el (.lst []) p = some (.lst ys) → MPs (drp H c) kd ys (rows k) → ∀ l, upd (drp H c) el (.lst []) l = none → upd (upd (drp H c) el (.lst [])) l (.lst ys) c = none → Q (.ref l) (upd (upd (upd (drp H c) el (.lst [])) l (.lst ys)) c (exO c o)) := fun p ys hp hy l nl hcn => by
    have nlc : l ≠ c := fun z => by rw [z, upd_same] at hcn; cases hcn
    have sH : Same H (upd (upd (upd (drp H c) el (.lst [])) l (.lst ys)) c (exO c o)) := fun b x e => by
      by_cases z : b = c
      · rw [z, h4] at e; rw [z, upd_same]; exact e
      · rw [upd_ne z]
        have e2 : drp H c b = some x := by rw [drp_ne z]; exact e
        rw [upd_ne (ne_of_none (s1 _ _ e2) nl)]
        exact s1 _ _ e2
    refine q l ys _ sH ?_ (by rw [upd_ne nlc, upd_same]) (hy.kept fun b xs e => ?_)
    · cases e : H l with
      | none => rfl
      | some x =>
        have := s1 _ _ (show drp H c l = some x by rw [drp_ne nlc]; exact e)
        rw [nl] at this; cases this
    · have nb : b ≠ c := fun z => by rw [z, drp_same] at e; cases e
      rw [upd_ne nb, upd_ne (ne_of_none (s1 _ _ e) nl)]
      exact s1 _ _ e
  cases e : gv k with
  | none =>
    rw [h6.no k hk e] at fin
    exact ⟨el, [], rfl, .inl (SqL.of e1), fun l nl => fin el [] e1 .nil l nl⟩
  | some v =>
    obtain ⟨l0, vs, rfl, e2, e3⟩ := h6.ye k v hk e
    have e4 := s1 _ _ (dn e2 (fun φ z => nomatch z))
    exact ⟨l0, vs, rfl, .inl (SqL.of e4), fun l nl => fin l0 vs e4 (e3.kept tk) l nl⟩
theorem md_eqv {kd : Bool} {i j : Nat} (hi : i < 12) (hj : j < 12) : PyData.eqv (mdOf kd (mkL kd i)) (mdOf kd (mkL kd j)) = decide (i = j) := by
  have inj := mkL_inj kd i hi j hj
  cases kd with
  | false =>
    show PyData.eqv (.int (3 + (i : Int) * i * 1000003)) (.int (3 + (j : Int) * j * 1000003)) = _
    have e : PyData.eqv (.int (3 + (i : Int) * i * 1000003)) (.int (3 + (j : Int) * j * 1000003)) = decide ((3 + (i : Int) * i * 1000003) = (3 + (j : Int) * j * 1000003)) := by simp only [PyData.eqv]; exact Bool.beq_eq_decide_eq _ _
    rw [e]
    by_cases h : i = j
    · subst h; simp
    · have : ¬ (3 + (i : Int) * i * 1000003) = (3 + (j : Int) * j * 1000003) := fun z => h (inj (by unfold mkL; rw [cond_false, cond_false, z]))
      simp only [this, h, decide_false]
  | true =>
    show PyData.eqv (.tuple ((mkL true i).map PyData.int)) (.tuple ((mkL true j).map PyData.int)) = _
    rw [eqv_tints]
    by_cases h : i = j
    · subst h; simp
    · have : ¬ mkL true i = mkL true j := fun z => h (inj z)
      simp only [this, h, decide_false]
def dtM (kd : Bool) (p : Nat × Int) : PyData := .tuple [mdOf kd (mkL kd p.1), .int p.2]
theorem md_depth (kd : Bool) (k : Nat) : (mdOf kd (mkL kd k)).depth ≤ 1 := by
  cases kd with
  | false => show (PyData.int _).depth ≤ 1; simp [PyData.depth]
  | true => exact depth_tints _
theorem dtM_depth (kd : Bool) (p : Nat × Int) : (dtM kd p).depth ≤ 2 := by
  have : PyData.depthAll [mdOf kd (mkL kd p.1), .int p.2] ≤ 1 := depthAll_le fun d hd => by
    rcases List.mem_cons.mp hd with rfl | hd
    · exact md_depth kd p.1
    · rw [List.mem_singleton.mp hd]; simp [PyData.depth]
  unfold dtM
  simp only [PyData.depth]
  omega
theorem dtM_eqv {kd : Bool} {p q : Nat × Int} (hp : p.1 < 12) (hq : q.1 < 12) : PyData.eqv (dtM kd p) (dtM kd q) = decide (p = q) := by
  unfold dtM
  have h : PyData.eqv (.tuple [mdOf kd (mkL kd p.1), .int p.2]) (.tuple [mdOf kd (mkL kd q.1), .int q.2]) = (decide (p.1 = q.1) && (decide (p.2 = q.2) && true)) := by
    rw [← md_eqv (kd := kd) hp hq]
    simp [PyData.eqv, PyData.eqvAll, Bool.beq_eq_decide_eq]
  rw [h]
  obtain ⟨a, b⟩ := p
  obtain ⟨c, d⟩ := q
  by_cases h1 : a = c <;> by_cases h2 : b = d <;> simp [h1, h2]
theorem mp_dp {K : PySem.W.Frag} {H : Hp} {kd : Bool} {a : Addr} {m : V} {p : Nat × Int} (h : H a = some (.tup [m, .int p.2])) (hm : Mk H kd m p.1) : Dp K H (.ref a) (dtM kd p) := .tup (SqT.of h) (.cons hm.2.dp.1 (.cons (.int _) .nil))
theorem MPs.dps {K : PySem.W.Frag} {H : Hp} {kd : Bool} : ∀ {vs : List V} {ps : List (Nat × Int)}, MPs H kd vs ps → Dps K H vs (ps.map (dtM kd))
  | _, _, .nil => .nil
  | _, _, .cons ⟨a, m, e, h1, h2⟩ t => by subst e; exact .cons (mp_dp h1 h2) (MPs.dps t)
noncomputable def isMP (H : Hp) (kd : Bool) (p : Nat × Int) (u : Value) : Bool := @decide (∃ a m, u = .ref a ∧ H a = some (.tup [m, .int p.2]) ∧ Mk H kd m p.1) (Classical.propDecidable _)
theorem isMP_of {H : Hp} {kd : Bool} {p q : Nat × Int} {a : Addr} {m : V} (h : H a = some (.tup [m, .int q.2])) (hm : Mk H kd m q.1) : isMP H kd p (.ref a) = decide (q = p) := by
  unfold isMP
  by_cases e : q = p
  · subst e
    rw [decide_eq_true (rfl : q = q)]
    exact @decide_eq_true _ (Classical.propDecidable _) ⟨a, m, rfl, h, hm⟩
  · rw [decide_eq_false e]
    refine @decide_eq_false _ (Classical.propDecidable _) fun ⟨a', m', e1, e2, e3⟩ => e ?_
    cases e1
    rw [h] at e2
    injection e2 with e2
    injection e2 with e2
    injection e2 with e4 e5
    injection e5 with e5
    injection e5 with e5
    subst e4
    exact Prod.ext (hm.uniq e3) e5
def rSG (K : PySem.W.Frag) (xs : List V) (H : Hp) (Q : VK) : Prop := (∃ (p : Addr) (ns : List Int), xs = [.ref p] ∧ SqL K H p (ns.map V.int) ∧ ns.length < 64 ∧ ∀ (l : Addr) (ms : List Int), H l = none → ms.Perm ns → ms.Pairwise (· ≤ ·) → Q (.ref l) (upd H l (.lst (ms.map V.int)))) ∨
  ∃ (p : Addr) (as : List Addr) (cs : List (List Int)), xs = [.ref p] ∧ SqL K H p (as.map V.ref) ∧ Tups H as cs ∧ (∀ c ∈ cs, c ≠ []) ∧ as.length < 64 ∧ ∀ l bs ds, H l = none → Tups H bs ds → ds.Perm cs → ds.Pairwise (fun c d => HT.lexLt d c = false) → Q (.ref l) (upd H l (.lst (bs.map V.ref)))
section
variable {X : Cx}
def rInMP (K : PySem.W.Frag) : R2 := fun x y H Q => ∃ (b p : Addr) (kd : Bool) (vs : List V) (ps : List (Nat × Int)) (m : V) (q : Nat × Int), x = .ref b ∧ y = .ref p ∧ H b = some (.tup [m, .int q.2]) ∧ Mk H kd m q.1 ∧ SqL K H p vs ∧ MPs H kd vs ps ∧ Q (.bl (decide (q ∈ ps))) H
theorem any_isMP {H : Hp} {kd : Bool} {q : Nat × Int} : ∀ {vs : List V} {ps : List (Nat × Int)} {us : List Value}, MPs H kd vs ps → Vals vs us → us.any (isMP H kd q) = decide (q ∈ ps)
  | _, _, _, .nil, .nil => by simp
  | _, _, _, .cons (b := p) ⟨a, m, e, h1, h2⟩ t, .cons r rs => by
    subst e
    cases r
    rw [List.any_cons, isMP_of h1 h2, any_isMP t rs]
    by_cases h : p = q
    · subst h; simp
    · have : ¬ q = p := fun z => h z.symm
      simp [h, this]
theorem mem_isMP {k : Nat} (hr : Room k X.A) {pins : List (Addr × Obj)} {σ : St} {H : Hp} {s : Shared} (I : Inv X pins σ H s) {kd : Bool} {b : Addr} {m : V} {q : Nat × Int} (hb : H b = some (.tup [m, .int q.2])) (hm : Mk H kd m q.1) :
    ∀ {vs : List V} {ps : List (Nat × Int)} {us : List Value}, MPs H kd vs ps → Vals vs us → ∀ u ∈ us, SeqAt.EqAt X.A.in1 s u (.ref b) (isMP H kd q u)
  | _, _, _, .nil, .nil => fun u hu => by simp at hu
  | _, _, _, .cons (b := p) ⟨a, m', e, h1, h2⟩ t, .cons r rs => fun u hu => by
    rcases List.mem_cons.mp hu with rfl | hu
    · subst e
      cases r
      obtain ⟨x1, r1⟩ := (mp_dp (K := X.K) h1 h2).reads I (u := .ref a) rfl
      obtain ⟨x2, r2⟩ := (mp_dp (K := X.K) hb hm).reads I (u := .ref b) rfl
      have := hr.units
      have h3 := dtM_depth kd p
      rw [isMP_of h1 h2, ← dtM_eqv (kd := kd) h2.1 hm.1]
      exact SeqAt.eqAt_reads _ _ _ _ _ _ _ _ r1 r2 (mp_dp (K := X.K) h1 h2).lay (mp_dp (K := X.K) hb hm).lay (by show X.A.units + 1 + _ < _; omega)
    · exact mem_isMP hr I hb hm t rs u hu
theorem op_inMP {k : Nat} (hr : Room k X.A) : OpR X (compareOp .In) (rInMP X.K) := by
  intro pins s σ H x y v u Q I rx ry h
  obtain ⟨b, p, kd, vs, ps, m, q, rfl, rfl, hb, hm, hp, ht, z⟩ := h
  cases rx
  cases ry
  obtain ⟨its, rv, pl, hz⟩ := I.list hp
  refine SeqAt.in_listAt (isMP H kd q) pl.isList (fun w hw => mem_isMP hr I hb hm ht rv w (by simpa using hw)) ⟨.bl _, H, I, rfl, ?_⟩
  rw [show its.toArray.any (isMP H kd q) = its.any (isMP H kd q) by simp, any_isMP ht rv]
  exact z
theorem call_sortedG {k : Nat} (hr : Room k X.A) : CallR X (.builtin "sorted") (rSG X.K) := by
  intro pins s σ H xs us Q I r h
  rcases h with h | h
  · exact call_sortedN pins s σ H xs us Q I r h
  · exact call_sortedI hr pins s σ H xs us Q I r h
end
theorem sq_dnew {n : Nat} {u : TS} {D : Ends} {σ : St} {H : Hp} (kd : Bool) (q : ∀ p ob, H p = none → DM (upd H p ob) p kd [] (fun _ => none) → Mut (some ob) → u D (σ.set n (some (.ref p))) (upd H p ob)) : tSeq (tAsg tDNewE (gName n)) u D σ H := fun p hp => by
  cases kd with
  | false => exact .inl (q p (.dK []) hp ⟨(fun k hk => nomatch hk), .inl ⟨rfl, [], upd_same, rfl, fun _ _ => rfl⟩⟩ trivial)
  | true => exact .inr (q p (.dT []) hp ⟨(fun k hk => nomatch hk), .inr ⟨rfl, [], upd_same, rfl, fun _ _ => rfl⟩⟩ trivial)
theorem same_at {H0 H' : Hp} {D : Addr} {y : HO} (s : Same H0 H') (nD : H0 D = none) : Same H0 (upd H' D y) := fun b u e => by
  rw [upd_ne (ne_of_none e nD)]; exact s _ _ e
section
variable {tc : TT} {t u : TS} {te ta tb td ty : TE} {D : Ends} {σ : St} {H : Hp} {a d : Addr} {y v : V} {o : Option V} {K : PySem.W.Frag}
theorem ev_dnotin (ha : Ev ty σ H y) (hb : Ev td σ H (.ref a)) (g : DGet H a y o) : Ev (tDNotIn ty td) σ H (.bl (!o.isSome)) := fun _ q => ha _ (hb _ ⟨a, o, rfl, g, q⟩)
theorem et_of {b c : Bool} (h : EvT tc σ H b) (e : b = c) : EvT tc σ H c := e ▸ h
theorem sq_dput {tv : TE} {H4 : Hp} (hv : Ev tv σ H v) (hd : Ev td σ H (.ref a)) (hy : Ev ty σ H y) (p : DPut H a y v H4) (q : u D σ H4) : tSeq (sDPut td ty tv) u D σ H := hv _ (hd _ (hy _ ⟨a, H4, rfl, p, q⟩))
theorem te_cal {sp : Sp} {tl : TA} {vs : List V} {Q : VK} (h : EvA tl σ H vs) (q : sp vs H Q E0) : tCall sp [] E0 tl σ H Q := h _ (by rw [List.append_nil]; exact q)
theorem rd_tup {tl : TA} {vs : List V} (h : EvA tl σ H vs) (hz : vs.length ≤ sizeLine) (q : ∀ p, H p = none → D.rt (.ref p) (upd H p (.tup vs))) : tRet (tTup tl) D σ H := h _ ⟨hz, q⟩
end
def total (rows : Nat → List (Nat × Int)) (n : Nat) : Nat := Dj.sumF (fun k => (rows k).length) (List.range n)
structure RFit (rows : Nat → List (Nat × Int)) (n : Nat) : Prop where
  nn : ∀ m, ∀ a ∈ rows m, 0 ≤ a.2
  lt : ∀ m, ∀ a ∈ rows m, a.1 < n
  out : ∀ m, n ≤ m → rows m = []
def MkList (H : Hp) (kd : Bool) (ms : List V) (n : Nat) : Prop := ms.length = n ∧ 0 < n ∧ n ≤ 12 ∧ ∀ (i : Nat) m, ms[i]? = some m → Mk H kd m i
def spMark : Sp := fun vs H Q _ => ∃ (kd : Bool) (k : Nat), vs = [.int (if kd then 1 else 0), .int (k : Nat)] ∧ k < 12 ∧ ∀ m H', Same H H' → Mk H' kd m k → Q m H'
def spPrice : Sp := fun vs H Q _ => ∃ c t : Int, vs = [.int c, .int t] ∧ ∀ p : Int, 0 ≤ p → Q (.int p) H
def spNum : Sp := fun vs H Q _ => ∃ i : Int, vs = [.int i] ∧ Q (.bl true) H
def spRows (K : PySem.W.Frag) : Sp := fun vs H Q _ => ∃ (a ml : Addr) (t : Int) (ns : List Int) (kd : Bool) (ms : List V) (n : Nat), vs = [.ref a, .ref ml, .int t] ∧ SqL K H a (ns.map V.int) ∧ ns.length ≤ 63 ∧ SqL K H ml ms ∧ MkList H kd ms n ∧
  ∀ (rd : Addr) (us : List Nat) (gv : Nat → Option V) (rows : Nat → List (Nat × Int)) (H' : Hp), Same H H' → RowsAt H' rd kd us gv rows → RFit rows n → total rows n ≤ 63 → Q (.ref rd) H'
def spStarts (K : PySem.W.Frag) : Sp := fun vs H Q _ => ∃ (a ml : Addr) (t : Int) (ns : List Int) (kd : Bool) (ms : List V) (n : Nat), vs = [.ref a, .ref ml, .int t] ∧ SqL K H a (ns.map V.int) ∧ SqL K H ml ms ∧ MkList H kd ms n ∧
  ∀ (l : Addr) (ws : List V) (ps : List (Nat × Int)) (H' : Hp), Same H H' → H' l = some (.lst ws) → MPs H' kd ws ps → ps.length ≤ 5 → (∀ p ∈ ps, p.1 < n) → Q (.ref l) H'
def FarR (gF : Nat → Option V) (far : Dj.Far) : Prop := ∀ k, k < 12 → gF k = (far k).map V.int
def BackR (H : Hp) (kd : Bool) (gB : Nat → Option V) (back : Dj.Back) : Prop := ∀ k, k < 12 → (back k = none → gB k = none) ∧ (back k = some none → gB k = some .non) ∧ ∀ b, back k = some (some b) → ∃ v, gB k = some v ∧ Mk H kd v b
theorem BackR.kept {H H' : Hp} {kd : Bool} {gB : Nat → Option V} {back : Dj.Back} (h : BackR H kd gB back) (t : TK H H') : BackR H' kd gB back := fun k hk => by
  obtain ⟨h1, h2, h3⟩ := h k hk
  exact ⟨h1, h2, fun b e => by obtain ⟨v, e1, e2⟩ := h3 b e; exact ⟨v, e1, e2.kept t⟩⟩
structure SpD (H : Hp) (fa ba : Addr) (kd : Bool) (us : List Nat) (gF gB : Nat → Option V) (far : Dj.Far) (back : Dj.Back) (n : Nat) : Prop where
  fd : DMr H fa kd us gF
  bd : DMr H ba kd us gB
  fr : FarR gF far
  br : BackR H kd gB back
  nd : us.Nodup
  lt : ∀ k ∈ us, k < n
  le : n ≤ 12
  out : ∀ k, n ≤ k → far k = none ∧ back k = none
def spSpread (mg : Str → Option Value) : Sp := fun vs H Q _ => ∃ (f st : Addr) (kd : Bool) (n : Nat) (rows : Nat → List (Nat × Int)) (fit : RFit rows n) (ws : List V) (ss : List (Nat × Int)), vs = [.ref f, .ref st] ∧ ArcFn mg H f kd rows ∧ n ≤ 12 ∧ total rows n ≤ 63 ∧ H st = some (.lst ws) ∧ MPs H kd ws ss ∧ ss.length ≤ 5 ∧ (∀ p ∈ ss, p.1 < n) ∧
  ∀ (t fa ba : Addr) (us : List Nat) (gF gB : Nat → Option V) (far : Dj.Far) (back : Dj.Back) (H' : Hp), Same H H' → H' t = some (.tup [.ref fa, .ref ba]) → fa ≠ ba → H fa = none → H ba = none → DM H' fa kd us gF → DM H' ba kd us gB → SpD H' fa ba kd us gF gB far back n → Dj.Told ⟨rows, ss, fit.nn⟩ far back → Q (.ref t) H'
structure LawD (K : PySem.W.Frag) (H : Hp) (fa ba rd sl : Addr) (kd : Bool) (us : List Nat) (far : Dj.Far) (back : Dj.Back) (rows : Nat → List (Nat × Int)) (ss : List (Nat × Int)) : Prop where
  ex : ∃ (gF gB : Nat → Option V) (n : Nat) (ur : List Nat) (gv : Nat → Option V) (ws : List V), SpD H fa ba kd us gF gB far back n ∧ RowsAt H rd kd ur gv rows ∧ RFit rows n ∧ SqL K H sl ws ∧ MPs H kd ws ss ∧ ∀ p ∈ ss, p.1 < n
def spCome (K : PySem.W.Frag) : Sp := fun vs H Q _ => ∃ (fa ba rd sl : Addr) (kd : Bool) (us : List Nat) (far : Dj.Far) (back : Dj.Back) (rows : Nat → List (Nat × Int)) (ss : List (Nat × Int)), vs = [.ref fa, .ref rd, .ref sl] ∧ LawD K H fa ba rd sl kd us far back rows ss ∧ (∃ gF, DM H fa kd us gF) ∧ fa ≠ rd ∧
  (∀ m p, far m = some p → ∀ a ∈ rows m, ∃ q, far a.1 = some q ∧ q ≤ p + a.2) ∧ (∀ a ∈ ss, ∃ q, far a.1 = some q ∧ q ≤ a.2) ∧ ∀ H', Same H H' → Q (.bl true) H'
def spBacked (K : PySem.W.Frag) : Sp := fun vs H Q _ => ∃ (fa ba rd sl : Addr) (m : V) (k : Nat) (kd : Bool) (us : List Nat) (far : Dj.Far) (back : Dj.Back) (rows : Nat → List (Nat × Int)) (ss : List (Nat × Int)), vs = [.ref fa, .ref ba, .ref rd, .ref sl, m] ∧ LawD K H fa ba rd sl kd us far back rows ss ∧ Mk H kd m k ∧
  (∃ p, far k = some p) ∧ (back k).isSome = true ∧ (∀ p, far k = some p → back k = some none → (k, p) ∈ ss) ∧ (∀ p b, far k = some p → back k = some (some b) → (k, p) ∉ ss ∧ ∃ q, far b = some q ∧ (k, p - q) ∈ rows b) ∧ ∀ H', Same H H' → Q (.bl true) H'
def spEndsL : Sp := fun vs H Q _ => ∃ (ba : Addr) (m : V) (k : Nat) (kd : Bool) (us : List Nat) (gB : Nat → Option V) (back : Dj.Back), vs = [.ref ba, m] ∧ DM H ba kd us gB ∧ BackR H kd gB back ∧ Mk H kd m k ∧ (∀ i b, back i = some (some b) → (back b).isSome = true) ∧ (back k).isSome = true ∧ Dj.ends back us.length k = true ∧ us.length ≤ 12 ∧ Q (.bl true) H
def spLaw (K : PySem.W.Frag) : Sp := fun vs H Q _ => ∃ (a : Addr) (ns : List Int), vs = [.ref a] ∧ SqL K H a (ns.map V.int) ∧ ns.length ≤ 63 ∧ H (tbP K).2 = some (.tbl #[]) ∧ ∀ H', Q (.bl true) H'
structure RowsI (H : Hp) (rd : Addr) (kd : Bool) (us : List Nat) (gv : Nat → Option V) (rows : Nat → List (Nat × Int)) : Prop where
  ra : RowsAt H rd kd us gv rows
  inj : ∀ i j v, gv i = some v → gv j = some v → i = j
  out : ∀ j, 12 ≤ j → gv j = none
theorem set_rows {H : Hp} {rd el : Addr} {kd : Bool} {us : List Nat} {gv : Nat → Option V} {rows : Nat → List (Nat × Int)} {m : V} {k : Nat} {Q : VK} (R : RowsI H rd kd us gv rows) (hm : Mk H kd m k) (hl : us.length ≤ 100) (hel : H el = some (.lst [])) (hne : ∀ j, gv j ≠ some (.ref el))
    (q : ∀ (l : Addr) (vs : List V) (us2 : List Nat) (gv2 : Nat → Option V) (H2 : Hp), (∀ b o, b ≠ rd → H b = some o → H2 b = some o) → us2.length ≤ us.length + 1 → RowsI H2 rd kd us2 gv2 rows → gv2 k = some (.ref l) → H2 l = some (.lst vs) → MPs H2 kd vs (rows k) → (∀ j b, gv2 j = some (.ref b) → gv j = some (.ref b) ∨ b = el) → Q (.ref l) H2) :
    rSetG (.ref rd) [m, .ref el] H Q := by
  obtain ⟨ob, hput, hdm, hmu, hmu2⟩ := dm_put R.ra.dm hm hl (.ref el)
  refine ⟨rd, m, .ref el, gv k, upd H rd ob, rfl, rfl, dm_get (dm_r R.ra.dm) hm, hput, fun v e => ?_, fun e => ?_⟩
  · obtain ⟨l, vs, rfl, h1, h2⟩ := R.ra.ye k v hm.1 e
    exact q l vs us gv H (fun b o _ e => e) (by omega) R e h1 h2 (fun j b z => .inl z)
  · have tk : TK H (upd H rd ob) := fun b xs eb => by rw [upd_ne (fun z => by rw [z] at eb; rw [eb] at hmu2; exact hmu2.elim)]; exact eb
    have keep : ∀ b o, b ≠ rd → H b = some o → upd H rd ob b = some o := fun b o hb eb => by rw [upd_ne hb]; exact eb
    obtain ⟨ur, hur, _, hdu, _⟩ := dm_raw R.ra.dm
    have nrd : ∀ {b : Addr} {vs : List V}, H b = some (.lst vs) → b ≠ rd := fun eb z => by
      rw [z, hur] at eb; cases eb; exact hdu.elim
    have e0 := R.ra.no k hm.1 e
    refine q el [] (ins us k) (fun j => if j = k then some (.ref el) else gv j) (upd H rd ob) keep (ins_len us k) ⟨⟨hdm, fun j hj ej => ?_, fun j v hj ej => ?_⟩, fun i j v ei ej => ?_, fun j hj => ?_⟩ (if_pos rfl) (keep _ _ (nrd hel) hel) (by rw [e0]; exact .nil) (fun j b z => ?_)
    · by_cases c : j = k
      · rw [if_pos c] at ej; cases ej
      · rw [if_neg c] at ej; exact R.ra.no j hj ej
    · by_cases c : j = k
      · rw [if_pos c] at ej; cases ej
        rw [c, e0]
        exact ⟨el, [], rfl, keep _ _ (nrd hel) hel, .nil⟩
      · rw [if_neg c] at ej
        obtain ⟨l, vs, e1, e2, e3⟩ := R.ra.ye j v hj ej
        exact ⟨l, vs, e1, keep _ _ (nrd e2) e2, e3.kept tk⟩
    · by_cases c : i = k <;> by_cases d : j = k
      · rw [c, d]
      · rw [if_pos c] at ei; rw [if_neg d] at ej; cases ei; exact absurd ej (hne j)
      · rw [if_neg c] at ei; rw [if_pos d] at ej; cases ej; exact absurd ei (hne i)
      · rw [if_neg c] at ei; rw [if_neg d] at ej; exact R.inj i j v ei ej
    · show (if j = k then _ else gv j) = none
      rw [if_neg (fun z => by rw [z] at hj; exact absurd hm.1 (by omega))]; exact R.out j hj
    · by_cases c : j = k
      · have z' : (if j = k then some (V.ref el) else gv j) = some (.ref b) := z
        rw [if_pos c] at z'; cases z'; exact .inr rfl
      · have z' : (if j = k then some (V.ref el) else gv j) = some (.ref b) := z
        rw [if_neg c] at z'; exact .inl z'
theorem rows_app {H : Hp} {rd l tp : Addr} {kd : Bool} {us : List Nat} {gv : Nat → Option V} {rows : Nat → List (Nat × Int)} {m : V} {k k2 : Nat} {p : Int} {vs : List V} (R : RowsI H rd kd us gv rows) (hg : gv k = some (.ref l)) (hk : k < 12) (hl : H l = some (.lst vs)) (hv : MPs H kd vs (rows k)) (htp : H tp = none) (hm : Mk H kd m k2) :
    RowsI (upd (upd H tp (.tup [m, .int p])) l (.lst (vs ++ [.ref tp]))) rd kd us gv (fun j => if j = k then rows j ++ [(k2, p)] else rows j) := by
  have ltp : l ≠ tp := ne_of_none hl htp
  have tk : TK H (upd (upd H tp (.tup [m, .int p])) l (.lst (vs ++ [.ref tp]))) := fun b xs e => by rw [upd_ne (ne_of e hl (by intro z; cases z)), upd_ne (ne_of_none e htp)]; exact e
  obtain ⟨ur, hur, _, hdu, _⟩ := dm_raw R.ra.dm
  refine ⟨⟨dm_same R.ra.dm fun o e => ?_, fun j hj e => ?_, fun j v hj e => ?_⟩, R.inj, R.out⟩
  · rw [upd_ne (fun z => by rw [z, hl] at hur; cases hur; exact hdu.elim), upd_ne (ne_of_none e htp)]; exact e
  · have c : j ≠ k := fun z => by rw [z, hg] at e; cases e
    rw [if_neg c]; exact R.ra.no j hj e
  · by_cases c : j = k
    · rw [if_pos c]
      rw [c, hg] at e; cases e
      refine ⟨l, _, rfl, upd_same, ?_⟩
      rw [c]
      refine Paired.snoc (hv.kept tk) ⟨tp, m, rfl, ?_, hm.kept tk⟩
      rw [upd_ne ltp.symm, upd_same]
    · rw [if_neg c]
      obtain ⟨l2, vs2, e1, e2, e3⟩ := R.ra.ye j v hj e
      have nl : l2 ≠ l := fun z => c (R.inj j k (.ref l) (by rw [e, e1, z]) hg)
      exact ⟨l2, vs2, e1, by rw [upd_ne nl, upd_ne (ne_of_none e2 htp)]; exact e2, e3.kept tk⟩
theorem sum_upd (f g : Nat → Nat) (k : Nat) (h : ∀ j, g j = if j = k then f j + 1 else f j) : ∀ (l : List Nat), l.Nodup → Dj.sumF g l = Dj.sumF f l + if k ∈ l then 1 else 0
  | [], _ => rfl
  | x :: l, nd => by
    obtain ⟨h1, h2⟩ := List.nodup_cons.mp nd
    have ih := sum_upd f g k h l h2
    unfold Dj.sumF at ih ⊢
    rw [List.map_cons, List.map_cons, List.sum_cons, List.sum_cons, ih, h x]
    by_cases c : x = k
    · subst c
      have : x ∉ l := h1
      simp [this]
      omega
    · have c' : ¬ k = x := fun z => c z.symm
      simp only [if_neg c, List.mem_cons, c', false_or]
      omega
theorem total_app {rows : Nat → List (Nat × Int)} {n k : Nat} {a : Nat × Int} (hk : k < n) : total (fun j => if j = k then rows j ++ [a] else rows j) n = total rows n + 1 := by
  unfold total
  rw [sum_upd (fun j => (rows j).length) _ k (fun j => ?_) _ List.nodup_range, if_pos (List.mem_range.mpr hk)]
  show (if j = k then rows j ++ [a] else rows j).length = _
  split
  · rw [List.length_append]; rfl
  · rfl
theorem le_sumF (f : Nat → Nat) (k : Nat) : ∀ (l : List Nat), k ∈ l → f k ≤ Dj.sumF f l
  | [], h => by simp at h
  | x :: l, h => by
    unfold Dj.sumF
    rw [List.map_cons, List.sum_cons]
    rcases List.mem_cons.mp h with z | z
    · rw [z]; omega
    · have := le_sumF f k l z
      unfold Dj.sumF at this
      omega
theorem len_le {rows : Nat → List (Nat × Int)} {n k : Nat} (h : k < n) : (rows k).length ≤ total rows n := le_sumF (fun k => (rows k).length) k _ (List.mem_range.mpr h)
theorem fit_app {rows : Nat → List (Nat × Int)} {n k : Nat} {a : Nat × Int} (h : RFit rows n) (hk : k < n) (h1 : 0 ≤ a.2) (h2 : a.1 < n) : RFit (fun j => if j = k then rows j ++ [a] else rows j) n := by
  have mem : ∀ m b, b ∈ (if m = k then rows m ++ [a] else rows m) → b ∈ rows m ∨ b = a := fun m b hb => by
    split at hb
    · rcases List.mem_append.mp hb with z | z
      · exact .inl z
      · exact .inr (List.mem_singleton.mp z)
    · exact .inl hb
  refine ⟨fun m b hb => ?_, fun m b hb => ?_, fun m hm => ?_⟩
  · rcases mem m b hb with z | z
    · exact h.nn m b z
    · rw [z]; exact h1
  · rcases mem m b hb with z | z
    · exact h.lt m b z
    · rw [z]; exact h2
  · show (if m = k then _ else rows m) = []
    rw [if_neg (by omega)]; exact h.out m hm
theorem mk_at {K : PySem.W.Frag} {H : Hp} {kd : Bool} {ms : List V} {n : Nat} (h : MkList H kd ms n) (z : Int) : ∃ (j : Nat) (m : V), atI ms (z % (ms.length : Int)) = some m ∧ j < n ∧ Mk H kd m j := by
  obtain ⟨h1, h2, h3, h4⟩ := h
  have b1 := Int.emod_nonneg z (b := (ms.length : Int)) (by omega)
  have b2 := Int.emod_lt_of_pos z (b := (ms.length : Int)) (by omega)
  obtain ⟨j, hj⟩ := Int.eq_ofNat_of_zero_le b1
  have hj2 : j < ms.length := by omega
  exact ⟨j, ms[j], by rw [hj]; exact atI_nat (by simp [hj2]), by omega, h4 j _ (List.getElem?_eq_getElem hj2)⟩
theorem MkList.kept {H H' : Hp} {kd : Bool} {ms : List V} {n : Nat} (h : MkList H kd ms n) (t : TK H H') : MkList H' kd ms n := ⟨h.1, h.2.1, h.2.2.1, fun i m e => (h.2.2.2 i m e).kept t⟩
theorem cut_map {ns : List Int} {lo hi : Option Int} : ∃ ms : List Int, cutV (ns.map V.int) lo hi = ms.map V.int ∧ ms.length ≤ ns.length := by
  refine ⟨(ns.drop (HT.sIx ns.length 0 lo)).take (HT.sIx ns.length ns.length hi - HT.sIx ns.length 0 lo), ?_, ?_⟩
  · unfold cutV
    rw [List.length_map, List.map_take, List.map_drop]
  · rw [List.length_take, List.length_drop]
    omega
theorem nd_len : ∀ (n : Nat) (us : List Nat), us.Nodup → (∀ k ∈ us, k < n) → us.length ≤ n
  | 0, us, _, h => by
    cases us with
    | nil => exact Nat.le_refl _
    | cons x r => exact absurd (h x List.mem_cons_self) (Nat.not_lt_zero _)
  | n + 1, us, nd, h => by
    have h1 := nd_len n (us.erase n) (nd.erase n) fun k hk => by
      have := (List.Nodup.mem_erase_iff nd).mp hk
      have h2 := h k this.2
      have h3 := this.1
      omega
    rw [List.length_erase] at h1
    split at h1 <;> omega
def keyH (kd : Bool) (z : Int × Nat) : List Int := z.1 :: mkL kd z.2
structure SS (C : Addr) (H0 H : Hp) (fa ba p a : Addr) (kd : Bool) (n : Nat) (us : List Nat) (gF gB : Nat → Option V) (far : Dj.Far) (back : Dj.Back) (vs : List V) (ks : List (List Int)) (hq : List (Int × Nat)) : Prop where
  sm : Same H0 H
  fd : DM H fa kd us gF
  bd : DM H ba kd us gB
  fr : FarR gF far
  br : BackR H kd gB back
  nd : us.Nodup
  lt : ∀ k ∈ us, k < n
  out : ∀ k, n ≤ k → far k = none ∧ back k = none
  ha : HAt C H p a vs
  kh : KsH H kd vs ks
  ok : HpOk ks
  pm : ks.Perm (hq.map (keyH kd))
  hl : ∀ z ∈ hq, z.2 < n
  ne : fa ≠ ba
  n1 : H0 fa = none
  n2 : H0 ba = none
  n3 : H0 p = none
  n4 : H0 a = none
theorem SS.len {C : Addr} {H0 H : Hp} {fa ba p a : Addr} {kd : Bool} {n : Nat} {us : List Nat} {gF gB : Nat → Option V} {far : Dj.Far} {back : Dj.Back} {vs : List V} {ks : List (List Int)} {hq : List (Int × Nat)} (S : SS C H0 H fa ba p a kd n us gF gB far back vs ks hq) : vs.length = hq.length := by
  rw [S.kh.1, S.pm.length_eq, List.length_map]
theorem SS.grow {C : Addr} {H0 H H' : Hp} {fa ba p a : Addr} {kd : Bool} {n : Nat} {us : List Nat} {gF gB : Nat → Option V} {far : Dj.Far} {back : Dj.Back} {vs : List V} {ks : List (List Int)} {hq : List (Int × Nat)} (S : SS C H0 H fa ba p a kd n us gF gB far back vs ks hq) (s : Same H H') : SS C H0 H' fa ba p a kd n us gF gB far back vs ks hq := by
  obtain ⟨dx, e⟩ := S.ha.ob
  exact { S with sm := S.sm.trans s, fd := dm_same S.fd fun o e => s _ _ e, bd := dm_same S.bd fun o e => s _ _ e, br := S.br.kept (same_tk s), ha := ⟨⟨dx, s _ _ e⟩, s _ _ S.ha.ls⟩, kh := S.kh.kept (same_tk s) }
theorem SS.relax {C : Addr} {H0 H : Hp} {fa ba p a : Addr} {kd : Bool} {n : Nat} {us : List Nat} {gF gB : Nat → Option V} {far : Dj.Far} {back : Dj.Back} {vs : List V} {ks : List (List Int)} {hq : List (Int × Nat)} (S : SS C H0 H fa ba p a kd n us gF gB far back vs ks hq) (hn : n ≤ 12)
    {mo bv : V} {o : Nat} {bb : Option Nat} (w : Int) (hm : Mk H kd mo o) (ho : o < n) (hb : (bb = none ∧ bv = .non) ∨ ∃ m, bb = some m ∧ Mk H kd bv m) :
    ∃ H1 H2 gF' gB', DPut H fa mo (.int w) H1 ∧ DPut H1 ba mo bv H2 ∧ HAt C H2 p a vs ∧ KsH H2 kd vs ks ∧ MrkH H2 kd mo (mkL kd o) ∧ TK H H1 ∧ TK H H2 ∧ (∀ b x, b ≠ fa → b ≠ ba → H b = some x → H2 b = some x) ∧
      ∀ H' vs' ks', HAt C H' p a vs' → KsH H' kd vs' ks' → HpOk ks' → ks'.Perm (ks ++ [w :: mkL kd o]) → But H2 H' p a → SS C H0 H' fa ba p a kd n (ins us o) gF' gB' (Dj.put far o w) (Dj.put back o bb) vs' ks' ((w, o) :: hq) := by
  have hul : us.length ≤ 12 := Nat.le_trans (nd_len n us S.nd S.lt) hn
  obtain ⟨ob1, p1, d1, m1, mm1⟩ := dm_put S.fd hm (by omega) (.int w)
  obtain ⟨uf, huf, _, duf, _⟩ := dm_raw S.fd
  obtain ⟨ub, hub, _, dub, _⟩ := dm_raw S.bd
  have k1 : ∀ b x, b ≠ fa → H b = some x → upd H fa ob1 b = some x := fun b x hb e => by rw [upd_ne hb]; exact e
  have nd' : ∀ {b : Addr} {x : HO} {d : Addr} {u : HO}, H d = some u → DictU u → H b = some x → ¬ DictU x → b ≠ d := fun hu du e nx z => by rw [z, hu] at e; cases e; exact nx du
  have tk1 : TK H (upd H fa ob1) := fun b xs e => k1 b _ (nd' huf duf e (fun z => z)) e
  have bd1 : DM (upd H fa ob1) ba kd us gB := dm_same S.bd fun o e => k1 _ _ S.ne.symm e
  have hm1 := hm.kept tk1
  obtain ⟨ob2, p2, d2, m2, mm2⟩ := dm_put bd1 hm1 (by omega) bv
  have k2 : ∀ b x, b ≠ fa → b ≠ ba → H b = some x → upd (upd H fa ob1) ba ob2 b = some x := fun b x h1 h2 e => by rw [upd_ne h2]; exact k1 b x h1 e
  have tk2 : TK H (upd (upd H fa ob1) ba ob2) := fun b xs e => k2 b _ (nd' huf duf e (fun z => z)) (nd' hub dub e (fun z => z)) e
  obtain ⟨dx, hp⟩ := S.ha.ob
  have hA2 : HAt C (upd (upd H fa ob1) ba ob2) p a vs := ⟨⟨dx, k2 _ _ (nd' huf duf hp (fun z => z)) (nd' hub dub hp (fun z => z)) hp⟩, k2 _ _ (nd' huf duf S.ha.ls (fun z => z)) (nd' hub dub S.ha.ls (fun z => z)) S.ha.ls⟩
  refine ⟨_, _, (fun j => if j = o then some (V.int w) else gF j), (fun j => if j = o then some bv else gB j), p1, p2, hA2, S.kh.kept tk2, (hm.kept tk2).2, tk1, tk2, k2, fun H' vs' ks' hA' hk' hok' pm' bu => ?_⟩
  obtain ⟨dx2, hp2⟩ := hA2.ob
  have tk3 : TK (upd (upd H fa ob1) ba ob2) H' := bu.tk hp2 hA2.ls
  have e1 : ∀ {x : HO}, upd (upd H fa ob1) ba ob2 fa = some x → H' fa = some x := fun e => bu _ _ e (fun z => nd' huf duf hp (fun z => z) z.symm) (fun z => nd' huf duf S.ha.ls (fun z => z) z.symm)
  have e2 : ∀ {x : HO}, upd (upd H fa ob1) ba ob2 ba = some x → H' ba = some x := fun e => bu _ _ e (fun z => nd' hub dub hp (fun z => z) z.symm) (fun z => nd' hub dub S.ha.ls (fun z => z) z.symm)
  refine ⟨fun b x e => ?_, dm_same d1 fun x e => ?_, dm_same d2 fun x e => e2 e, fun k hk => ?_, fun k hk => ?_, ins_nd S.nd, fun k hk => ?_, fun k hk => ?_, hA', hk', hok', ?_, fun z hz => ?_, S.ne, S.n1, S.n2, S.n3, S.n4⟩
  · exact bu b x (k2 b x (ne_of_none e S.n1) (ne_of_none e S.n2) (S.sm _ _ e)) (ne_of_none e S.n3) (ne_of_none e S.n4)
  · exact e1 (by rw [upd_ne S.ne]; exact e)
  · show (if k = o then some (V.int w) else gF k) = (Dj.put far o w k).map V.int
    unfold Dj.put
    by_cases c : k = o
    · rw [if_pos c, if_pos c]; rfl
    · rw [if_neg c, if_neg c]; exact S.fr k hk
  · obtain ⟨h1, h2, h3⟩ := (S.br.kept tk2).kept tk3 k hk
    unfold Dj.put
    by_cases c : k = o
    · simp only [if_pos c]
      refine ⟨(fun z => nomatch z), fun z => ?_, fun m z => ?_⟩
      · rcases hb with ⟨rfl, rfl⟩ | ⟨m, rfl, _⟩
        · rfl
        · injection z with z; cases z
      · rcases hb with ⟨rfl, rfl⟩ | ⟨m', rfl, hv⟩
        · injection z with z; cases z
        · injection z with z; injection z with z; subst z
          exact ⟨bv, rfl, (hv.kept tk2).kept tk3⟩
    · simp only [if_neg c]; exact ⟨h1, h2, h3⟩
  · unfold ins at hk
    split at hk
    · exact S.lt k hk
    · rcases List.mem_append.mp hk with z | z
      · exact S.lt k z
      · rw [List.mem_singleton.mp z]; exact ho
  · have c : k ≠ o := by omega
    unfold Dj.put
    rw [if_neg c, if_neg c]; exact S.out k hk
  · rw [List.map_cons]
    refine pm'.trans ?_
    refine (List.perm_append_comm).trans ?_
    exact List.Perm.cons _ S.pm
  · rcases List.mem_cons.mp hz with z' | z'
    · rw [z']; exact ho
    · exact S.hl z z'
theorem take_min {kd : Bool} {ks ks' : List (List Int)} {hq : List (Int × Nat)} {k : List Int} (pm : ks.Perm (hq.map (keyH kd))) (pk : (k :: ks').Perm ks) (hm : ∀ z ∈ ks, HT.lexLt z k = false) :
    ∃ pr m, k = keyH kd (pr, m) ∧ (pr, m) ∈ hq ∧ ks'.Perm ((hq.erase (pr, m)).map (keyH kd)) ∧ (∀ z, z ∈ hq ↔ z = (pr, m) ∨ z ∈ hq.erase (pr, m)) ∧ (∀ z ∈ hq.erase (pr, m), pr ≤ z.1) ∧ (hq.erase (pr, m)).length + 1 = hq.length := by
  have hk : k ∈ hq.map (keyH kd) := (pk.trans pm).mem_iff.mp List.mem_cons_self
  obtain ⟨⟨pr, m⟩, hin, rfl⟩ := List.mem_map.mp hk
  have pe := List.perm_cons_erase hin
  refine ⟨pr, m, rfl, hin, ?_, fun z => ?_, fun z hz => ?_, ?_⟩
  · have h1 := (pk.trans pm).trans (pe.map (keyH kd))
    rw [List.map_cons] at h1
    exact h1.cons_inv
  · rw [pe.mem_iff, List.mem_cons]
  · have hz' : keyH kd z ∈ ks := pm.mem_iff.mpr (List.mem_map_of_mem (List.mem_of_mem_erase hz))
    have := hm _ hz'
    unfold keyH at this
    rw [HT.lexLt_cons] at this
    by_cases c : z.1 = pr
    · omega
    · rw [if_neg c] at this
      have := of_decide_eq_false this
      omega
  · have := pe.length_eq
    rw [List.length_cons] at this
    omega
theorem dm_tyOf {K : PySem.W.Frag} {H : Hp} {d : Addr} {kd : Bool} {us : List Nat} {g : Nat → Option V} (h : DM H d kd us g) : TyOf K H (.ref d) (.type "dict") := by
  obtain ⟨_, ⟨_, kvs, e, _⟩ | ⟨_, kvs, e, _⟩⟩ := h
  · exact .dK e
  · exact .dT e
def SrtD (kd : Bool) (us : List Nat) (ds : List PyData) : Prop := (kd = false ∧ ∃ ms : List Int, ds = ms.map PyData.int ∧ ms.Perm (us.map fun (k : Nat) => 3 + (k : Int) * k * 1000003) ∧ ms.Pairwise (· ≤ ·)) ∨
  (kd = true ∧ ∃ cs : List (List Int), ds = cs.map (fun c => PyData.tuple (c.map PyData.int)) ∧ cs.Perm (us.map (mkL true)) ∧ cs.Pairwise fun c d => HT.lexLt d c = false)
theorem sd_unique : ∀ {a b : List (List Int)}, a.Perm b → (a.Pairwise fun c d => HT.lexLt d c = false) → (b.Pairwise fun c d => HT.lexLt d c = false) → a = b
  | [], b, p, _, _ => (List.perm_nil.mp p.symm).symm
  | x :: r, b, p, h1, h2 => by
    cases b with
    | nil => exact absurd (List.perm_nil.mp p) (by simp)
    | cons y t =>
      obtain ⟨x1, x2⟩ := List.pairwise_cons.mp h1
      obtain ⟨y1, y2⟩ := List.pairwise_cons.mp h2
      have hx : x ∈ y :: t := p.mem_iff.mp List.mem_cons_self
      have hy : y ∈ x :: r := p.mem_iff.mpr List.mem_cons_self
      have e : x = y := by
        rcases List.mem_cons.mp hx with e | hx
        · exact e
        · rcases List.mem_cons.mp hy with e | hy
          · exact e.symm
          · exact lex_total x y (y1 x hx) (x1 y hy)
      subst e
      rw [sd_unique (List.Perm.cons_inv p) x2 y2]
theorem si_unique : ∀ {a b : List Int}, a.Perm b → a.Pairwise (· ≤ ·) → b.Pairwise (· ≤ ·) → a = b
  | [], b, p, _, _ => (List.perm_nil.mp p.symm).symm
  | x :: r, b, p, h1, h2 => by
    cases b with
    | nil => exact absurd (List.perm_nil.mp p) (by simp)
    | cons y t =>
      obtain ⟨x1, x2⟩ := List.pairwise_cons.mp h1
      obtain ⟨y1, y2⟩ := List.pairwise_cons.mp h2
      have hx : x ∈ y :: t := p.mem_iff.mp List.mem_cons_self
      have hy : y ∈ x :: r := p.mem_iff.mpr List.mem_cons_self
      have e : x = y := by
        rcases List.mem_cons.mp hx with e | hx
        · exact e
        · rcases List.mem_cons.mp hy with e | hy
          · exact e.symm
          · have := y1 x hx; have := x1 y hy; omega
      subst e
      rw [si_unique (List.Perm.cons_inv p) x2 y2]
theorem SrtD.uniq {kd : Bool} {us : List Nat} {ds es : List PyData} (h1 : SrtD kd us ds) (h2 : SrtD kd us es) : ds = es := by
  rcases h1 with ⟨rfl, ms, rfl, p1, o1⟩ | ⟨rfl, cs, rfl, p1, o1⟩
  · rcases h2 with ⟨_, ms2, rfl, p2, o2⟩ | ⟨z, _⟩
    · rw [si_unique (p1.trans p2.symm) o1 o2]
    · cases z
  · rcases h2 with ⟨z, _⟩ | ⟨_, cs2, rfl, p2, o2⟩
    · cases z
    · rw [sd_unique (p1.trans p2.symm) o1 o2]
theorem keys_false {H : Hp} : ∀ {ys : List V} {us : List Nat}, ys.length = us.length → (∀ (i : Nat) y, ys[i]? = some y → ∃ k, us[i]? = some k ∧ k < 12 ∧ MrkH H false y (mkL false k)) → ys = (us.map fun (k : Nat) => 3 + (k : Int) * k * 1000003).map V.int
  | [], [], _, _ => rfl
  | [], _ :: _, h, _ => by simp at h
  | _ :: _, [], h, _ => by simp at h
  | y :: ys, u :: us, h, f => by
    obtain ⟨k, e1, _, e2⟩ := f 0 y rfl
    cases e1
    rcases e2 with ⟨_, i, rfl, e3⟩ | ⟨z, _⟩
    · have e3 : [3 + (u : Int) * u * 1000003] = [i] := e3
      injection e3 with e3
      rw [List.map_cons, List.map_cons, ← e3, ← keys_false (ys := ys) (us := us) (by simpa using h) fun i y hy => f (i + 1) y (by simpa using hy)]
    · cases z
theorem keys_true {H : Hp} : ∀ {ys : List V} {us : List Nat}, ys.length = us.length → (∀ (i : Nat) y, ys[i]? = some y → ∃ k, us[i]? = some k ∧ k < 12 ∧ MrkH H true y (mkL true k)) → ∃ as : List Addr, ys = as.map V.ref ∧ Tups H as (us.map (mkL true))
  | [], [], _, _ => ⟨[], rfl, .nil⟩
  | [], _ :: _, h, _ => by simp at h
  | _ :: _, [], h, _ => by simp at h
  | y :: ys, u :: us, h, f => by
    obtain ⟨k, e1, _, e2⟩ := f 0 y rfl
    cases e1
    obtain ⟨as, rfl, ht⟩ := keys_true (ys := ys) (us := us) (by simpa using h) fun i y hy => f (i + 1) y (by simpa using hy)
    rcases e2 with ⟨z, _⟩ | ⟨_, b, i, j, rfl, hb, e3⟩
    · cases z
    · exact ⟨b :: as, rfl, .cons (by rw [e3]; exact hb) ht⟩
theorem sorted_marks {K : PySem.W.Frag} {H : Hp} {l : Addr} {ys : List V} {kd : Bool} {us : List Nat} {Q : VK} (hl : H l = some (.lst ys)) (hy : ys.length = us.length) (hk : ∀ (i : Nat) y, ys[i]? = some y → ∃ k, us[i]? = some k ∧ k < 12 ∧ MrkH H kd y (mkL kd k)) (h12 : us.length ≤ 12)
    (q : ∀ (l' : Addr) (zs : List V) (ds : List PyData) (H' : Hp), Same H H' → H' l' = some (.lst zs) → Dps K H' zs ds → SrtD kd us ds → Q (.ref l') H') :
    rSG K [.ref l] H Q := by
  cases kd with
  | false =>
    have e := keys_false hy hk
    subst e
    refine .inl ⟨l, _, rfl, SqL.of hl, by rw [List.length_map]; omega, fun l2 ms nl p1 p2 => ?_⟩
    exact q l2 _ _ _ ((Same.refl H).upd nl) upd_same (dps_ints ms) (.inl ⟨rfl, ms, rfl, p1, p2⟩)
  | true =>
    obtain ⟨as, rfl, ht⟩ := keys_true hy hk
    have hal := ht.length
    rw [List.length_map] at hal
    refine .inr ⟨l, as, _, rfl, SqL.of hl, ht, fun c hc => ?_, by omega, fun l2 bs ds nl t2 p1 p2 => ?_⟩
    · obtain ⟨k, _, rfl⟩ := List.mem_map.mp hc
      intro z; cases z
    · have s : Same H (upd H l2 (.lst (bs.map V.ref))) := (Same.refl H).upd nl
      exact q l2 _ _ _ s upd_same (t2.same s).dps (.inr ⟨rfl, ds, rfl, p1, p2⟩)
def KpT (H H' : Hp) : Prop := ∀ b x, H b = some x → (∀ ps, x ≠ .tbl ps) → H' b = some x
theorem RowsAt.kp {H H' : Hp} {rd : Addr} {kd : Bool} {us : List Nat} {gv : Nat → Option V} {rows : Nat → List (Nat × Int)} (h : RowsAt H rd kd us gv rows) (s : KpT H H') : RowsAt H' rd kd us gv rows := by
  have tk : TK H H' := fun b xs e => s _ _ e (fun _ z => nomatch z)
  obtain ⟨u, hu, _, du, _⟩ := dm_raw h.dm
  exact ⟨dm_same h.dm (fun o e => s _ _ e (fun ps z => by rw [hu] at e; cases e; rw [z] at du; exact du.elim)), h.no, fun k v hk e => by
    obtain ⟨l, vs, e1, e2, e3⟩ := h.ye k v hk e
    exact ⟨l, vs, e1, s _ _ e2 (fun _ z => nomatch z), e3.kept tk⟩⟩
def spCell (K : PySem.W.Frag) : Sp := fun vs H Q _ => ∃ (a : Addr) (ns : List Int) (i : Int), vs = [.ref a, .int i] ∧ SqL K H a (ns.map V.int) ∧ 0 ≤ i ∧ ∀ v : Int, Q (.int v) H
section
variable {P : Program} {w : World} {K : PySem.W.Frag} {mg : Str → Option Value} {base : Heap}
set_option maxHeartbeats 1000000
theorem lamP {cHeap cWireError cNothingLeft : Addr} (T : Txt K mg cHeap cWireError cNothingLeft) (f c c' : Addr) (A : Around) (outer : List Env) (s : Shared) (H : Hp) (hr : Room 0 (A.deeper (lamEnv lamQ lamSc [("rows", c)] s.heap.objs.size f (.ref c')))) :
    PE (cxLam P w K mg base ["mark"] [("rows", c)] lamQ lamSc f (.ref c') A outer s H) lamBod (lamT K) :=
  pe_callTy call_list_of (by rfl) T.list_ bt_list (pa_cons (pe_bm PySem.F.plainAttrs_dict PySem.F.slot_dict_get PySem.F.type_dict_get (mt_getT hr) (pv 1) (pa_cons (pv 0) (pa_cons (pe_lst pa_nil) pa_nil))) pa_nil)
theorem lamCall {X : Cx} {cHeap cWireError cNothingLeft : Addr} (T : Txt X.K X.mg cHeap cWireError cNothingLeft) (hr : Room 1 X.A) (f : Addr) : CallR X (.ref f) (rArc X.mg X.K f) :=
  call_lam1 (k := 0) (name := "<lambda>") (qual := lamQ) (params := lamPar) (body := lamBod) (scope := lamSc) (pm := (X.mg "__name__").getD .none) (te := lamT X.K) (y := "rows") (ps := ["mark"]) hr lamS (fun s us c c' ctv h => lamB s us c c' _ ctv h) (fun f c c' A outer s H hr => lamP T f c c' A outer s H hr) f
theorem ok_Init {cHeap cWireError cNothingLeft : Addr} {f : Addr} {fd : FuncData} (F : Fun K "__init__" "Heap.__init__" sInit f fd) (T : Txt K mg cHeap cWireError cNothingLeft) : FnOk P w K mg base CX0 1 f fd ["self"] (spInit cHeap) := by
  have sc : FnScope ["self"] ["self"] (defScope sInit) := ⟨rfl, rfl, rfl, by decide +kernel, rfl, by decide +kernel, by decide +kernel⟩
  refine F.ok sc (fun vs H Q E h => by repeat (first | (obtain ⟨rfl, _⟩ := h; rfl) | (obtain ⟨_, h⟩ := h))) (fun cdv A outer s H vs Q E hr h => ?_)
  obtain ⟨p, dx, rfl, hp, q⟩ := h
  refine ⟨_, (pss_one (ps_fld (pv 0) (pe_lst pa_nil) rfl)), ?_⟩
  refine ⟨Nat.zero_le _, fun a na => ?_⟩
  have hpa : p ≠ a := ne_of_none hp na
  refine ⟨_, rfl, p, cHeap, dx, [], rfl, (by rw [upd_ne hpa]; exact hp), T.cl_Heap, T.na_Heap_pairs, (by show 0 < 1000; decide), ?_⟩
  exact q a _ na ⟨⟨dx, upd_same⟩, by rw [upd_ne (Ne.symm hpa), upd_same]⟩ fun b o e n1 n2 => by rw [upd_ne n1, upd_ne n2]; exact e
theorem ok_Many {cHeap cWireError cNothingLeft : Addr} {f : Addr} {fd : FuncData} (F : Fun K "many" "Heap.many" sMany f fd) (T : Txt K mg cHeap cWireError cNothingLeft) : FnOk P w K mg base CX0 1 f fd ["self"] (spMany cHeap) := by
  have sc : FnScope ["self"] ["self"] (defScope sMany) := ⟨rfl, rfl, rfl, by decide +kernel, rfl, by decide +kernel, by decide +kernel⟩
  refine F.ok sc (fun vs H Q E h => by repeat (first | (obtain ⟨rfl, _⟩ := h; rfl) | (obtain ⟨_, h⟩ := h))) (fun cdv A outer s H vs Q E hr h => ?_)
  obtain ⟨p, a, us, rfl, ha, q⟩ := h
  refine ⟨_, (pss_one (ps_ret (pe_callB call_len (by rfl) T.len_ bt_len (pa_cons (pe_fld (pv 0) rfl) pa_nil)))), ?_⟩
  obtain ⟨dx, hp⟩ := ha.ob
  exact ⟨_, rfl, p, cHeap, dx, _, _, rfl, hp, T.cl_Heap, T.na_Heap_pairs, rfl, _, _, rfl, .inl ⟨_, SqL.of ha.ls, rfl⟩, q⟩
theorem ok_Add {cHeap cWireError cNothingLeft : Addr} {f : Addr} {fd : FuncData} (F : Fun K "add" "Heap.add" sAdd f fd) (T : Txt K mg cHeap cWireError cNothingLeft) : FnOk P w K mg base CX0 1 f fd ["self", "price", "mark"] (spAdd cHeap) := by
  have sc : FnScope ["self", "price", "mark", "pair", "place"] ["self", "price", "mark"] (defScope sAdd) := ⟨rfl, rfl, rfl, by decide +kernel, rfl, by decide +kernel, by decide +kernel⟩
  refine F.ok sc (fun vs H Q E h => by repeat (first | (obtain ⟨rfl, _⟩ := h; rfl) | (obtain ⟨_, h⟩ := h))) (fun cdv A outer s H vs Q E hr h => ?_)
  obtain ⟨p, a, kd, vs, ks, pr, m, l, rfl, ha, hks, hok, hm, hl, q⟩ := h
  refine ⟨_, (pss_cons (ps_set (i := 3) sc.nd rfl (Or.inl rfl) (pe_tup (pa_cons (pv 1) (pa_cons (pv 2) pa_nil))))
  (pss_cons (ps_set (i := 4) sc.nd rfl (Or.inl rfl) (pe_callB call_len (by rfl) T.len_ bt_len (pa_cons (pe_fld (pv 0) rfl) pa_nil)))
  (pss_cons (ps_expr (pe_bm PySem.F.plainAttrs_list PySem.F.slot_list_append PySem.F.type_list_append mt_append (pe_fld (pv 0) rfl) (pa_cons (pv 3) pa_nil)))
  (pss_cons (ps_while PassesOwn.never (pw_and (pt_cmpR op_gt (pv 4) pe_int (nomark _)) (pw_and1 (pt_cmpR (op_ltP hr) (pv 3) (pe_ix ix_list (pe_fld (pv 0) rfl) (pe_op op_fdivB (pe_op op_sub (pv 4) pe_int) pe_int) (fun _ _ => rfl)) (nomark _)))).pt
  (pss_cons (ps_asg (pe_ix ix_list (pe_fld (pv 0) rfl) (pe_op op_fdivB (pe_op op_sub (pv 4) pe_int) pe_int) (fun _ _ => rfl)) (pg_sub (pe_fld (pv 0) rfl) (pv 4) set_list))
  (pss_one (ps_set (i := 4) sc.nd rfl (Or.inl rfl) (pe_op op_fdivB (pe_op op_sub (pv 4) pe_int) pe_int)))))
  (pss_one (ps_asg (pv 3) (pg_sub (pe_fld (pv 0) rfl) (pv 4) set_list))))))), ?_⟩
  obtain ⟨dx, hp⟩ := ha.ob
  have eA := ha.ls
  have pa : p ≠ a := fun z => by rw [z, eA] at hp; cases hp
  refine sq_asg ⟨_, rfl, _, rfl, (by show 2 ≤ sizeLine; decide), fun t nt => ?_⟩
  have hp1 : upd H t (.tup [.int pr, m]) p = some (.ins cHeap dx [("pairs", .ref a)]) := by rw [upd_ne (ne_of_none hp nt)]; exact hp
  have eA1 : upd H t (.tup [.int pr, m]) a = some (.lst vs) := by rw [upd_ne (ne_of_none eA nt)]; exact eA
  have tk1 : TK H (upd H t (.tup [.int pr, m])) := TK.new nt
  have hx1 : PrH (upd H t (.tup [.int pr, m])) kd (.ref t) (pr :: l) := ⟨t, pr, m, l, rfl, upd_same, hm.kept tk1, rfl⟩
  have b1 : But H (upd H t (.tup [.int pr, m])) p a := fun b o e _ _ => by rw [upd_ne (ne_of_none e nt)]; exact e
  revert hp1 eA1 tk1 hx1 b1
  generalize upd H t (.tup [.int pr, m]) = H1
  intro hp1 eA1 tk1 hx1 b1
  refine sq_asg ⟨_, rfl, p, cHeap, dx, _, _, rfl, hp1, T.cl_Heap, T.na_Heap_pairs, rfl, _, _, rfl, .inl ⟨_, SqL.of eA1, rfl⟩, ?_⟩
  refine ⟨_, rfl, p, cHeap, dx, _, _, rfl, hp1, T.cl_Heap, T.na_Heap_pairs, rfl, .inl ⟨rfl, _, SqL.of eA1⟩, _, rfl, a, _, _, rfl, rfl, eA1, small1000 (by omega), ?_⟩
  have hp2 : upd H1 a (.lst (vs ++ [.ref t])) p = some (.ins cHeap dx [("pairs", .ref a)]) := by rw [upd_ne pa]; exact hp1
  have eA2 : upd H1 a (.lst (vs ++ [.ref t])) a = some (.lst (vs ++ [.ref t])) := upd_same
  have tk2 : TK H1 (upd H1 a (.lst (vs ++ [.ref t]))) := TK.lst eA1
  have b2 : But H (upd H1 a (.lst (vs ++ [.ref t]))) p a := fun b o e n1 n2 => by rw [upd_ne n2]; exact b1 b o e n1 n2
  revert hp2 eA2 tk2 b2
  generalize upd H1 a (.lst (vs ++ [.ref t])) = H2
  intro hp2 eA2 tk2 b2
  dsimp only
  have hx2 := hx1.kept tk2
  refine sq_while (fun n σ H' => ∃ (pl : Nat) (vs' : List V) (ks' : List (List Int)), σ = [some (.ref p), some (.int pr), some m, some (.ref t), some (.int (pl : Nat))] ∧ pl = n ∧ H' p = some (.ins cHeap dx [("pairs", .ref a)]) ∧ H' a = some (.lst vs') ∧ KsH H' kd vs' ks' ∧
      Hp.Up HT.lexLt [] ks' pl (pr :: l) ∧ (ks'.set pl (pr :: l)).Perm (ks ++ [pr :: l]) ∧ PrH H' kd (.ref t) (pr :: l) ∧ But H H' p a)
    ⟨_, vs.length, vs ++ [.ref t], ks ++ [pr :: l], rfl, rfl, hp2, eA2, ((hks.kept tk1).kept tk2).snoc hx2, by rw [hks.1]; exact Hp.Up.start hok _, by rw [hks.1]; simp, hx2, b2⟩ ?_
  rintro n σ H3 ⟨pl, vs3, ks3, rfl, rfl, hp3, eA3, hk3, up, perm, hx3, b3⟩
  have hpl : pl < vs3.length := by rw [hk3.1]; exact up.at'
  have fld : ∀ {σ : St}, σ[0]? = some (some (.ref p)) → Ev (tFld K (tVar 0) "pairs") σ H3 (.ref a) := fun e Q q => ⟨_, e, p, cHeap, dx, _, _, rfl, hp3, T.cl_Heap, T.na_Heap_pairs, rfl, q⟩
  have epar : 0 < pl → (((pl : Nat) : Int) - 1) / 2 = ((Hp.par pl : Nat) : Int) := fun h => by simp only [Hp.par]; omega
  have hpar : Hp.par pl < vs3.length := by simp only [Hp.par]; omega
  have ixp : 0 < pl → Ev (tOp (rIxL K) (tFld K (tVar 0) "pairs") (tOp (rI CDivB fun i j => V.int (i / j)) (tOp (rI0 fun i j => V.int (i - j)) (tVar 4) (tC (V.int 1))) (tC (V.int 2)))) [some (.ref p), some (.int pr), some m, some (.ref t), some (.int (pl : Nat))] H3 (vs3.getD (Hp.par pl) .non) := fun h =>
    ev_ixL (fld rfl) (ev_I (ev_I0 (ev_var rfl) ev_c) ev_c ⟨by decide, by decide⟩) (SqL.of eA3) (by rw [epar h]; exact atI_nat (getD_at hpar))
  refine ⟨decide ((0 : Int) < ((pl : Nat) : Int)) && HT.lexLt (pr :: l) (ks3.getD (Hp.par pl) []), et_and (et_test (ev_I0 (ev_var rfl) ev_c)) (fun e => ?_), fun e N hN => ?_, fun e => ?_⟩
  · have h0 : (0 : Int) < ((pl : Nat) : Int) := of_decide_eq_true e
    exact et_test fun Q' q' => ⟨_, rfl, ixp (by omega) _ ⟨kd, _, _, hx3.of, (hk3.get hpar).of, q'⟩⟩
  · rw [Bool.and_eq_true] at e
    have h0 : 0 < pl := by have := of_decide_eq_true e.1; omega
    refine sq_asgT (ixp h0 _ ?_)
    refine fld rfl _ ⟨_, rfl, a, _, _, pl, rfl, rfl, eA3, ixN_nat hpl, ?_⟩
    refine rd_set (ev_I (ev_I0 (ev_var rfl) ev_c) ev_c ⟨by decide, by decide⟩) (hN (Hp.par pl) _ _ (by simp only [Hp.par]; omega) ⟨Hp.par pl, _, _, by rw [← epar h0]; rfl, rfl, by rw [upd_ne pa]; exact hp3, upd_same, (hk3.kept (TK.lst eA3)).set hpl ((hk3.get hpar).kept (TK.lst eA3)), up.step lexO' h0 e.2, ?_, hx3.kept (TK.lst eA3), fun b o e n1 n2 => by rw [upd_ne n2]; exact b3 b o e n1 n2⟩)
    exact (Hp.up_perm up.at' (by rw [← hk3.1]; exact hpar) (by simp only [Hp.par]; omega)).trans perm
  · refine ⟨_, rfl, _, rfl, p, cHeap, dx, _, _, rfl, hp3, T.cl_Heap, T.na_Heap_pairs, rfl, _, rfl, a, _, _, pl, rfl, rfl, eA3, ixN_nat hpl, ?_⟩
    refine q _ _ _ ⟨⟨dx, by rw [upd_ne pa]; exact hp3⟩, upd_same⟩ ((hk3.kept (TK.lst eA3)).set hpl (hx3.kept (TK.lst eA3))) (up.done ?_) perm fun b o e n1 n2 => by rw [upd_ne n2]; exact b3 b o e n1 n2
    rcases Bool.and_eq_false_iff.mp e with z | z
    · exact .inl (by have := of_decide_eq_false z; omega)
    · exact .inr z
theorem ok_Sink {cHeap cWireError cNothingLeft : Addr} {f : Addr} {fd : FuncData} (F : Fun K "sink" "Heap.sink" sSink f fd) (T : Txt K mg cHeap cWireError cNothingLeft) : FnOk P w K mg base CX0 1 f fd ["self", "pair"] (spSink cHeap) := by
  have sc : FnScope ["self", "pair", "pairs", "place", "child"] ["self", "pair"] (defScope sSink) := ⟨rfl, rfl, rfl, by decide +kernel, rfl, by decide +kernel, by decide +kernel⟩
  refine F.ok sc (fun vs H Q E h => by repeat (first | (obtain ⟨rfl, _⟩ := h; rfl) | (obtain ⟨_, h⟩ := h))) (fun cdv A outer s H vs Q E hr h => ?_)
  obtain ⟨p, a, kd, vs, ks, x, kx, rfl, ha, hks, hok, h0, hx, hl, q⟩ := h
  refine ⟨_, (pss_cons (ps_set (i := 2) sc.nd rfl (Or.inl rfl) (pe_fld (pv 0) rfl))
  (pss_cons (ps_set (i := 3) sc.nd rfl (Or.inl rfl) pe_int)
  (pss_cons (ps_set (i := 4) sc.nd rfl (Or.inl rfl) pe_int)
  (pss_cons (ps_while PassesOwn.never (pt_cmpR op_lt (pv 4) (pe_callB call_len (by rfl) T.len_ bt_len (pa_cons (pv 2) pa_nil)) (nomark _))
  (pss_cons (ps_if (pw_and (pt_cmpR op_lt (pe_op op_add (pv 4) pe_int) (pe_callB call_len (by rfl) T.len_ bt_len (pa_cons (pv 2) pa_nil)) (nomark _)) (pw_and1 (pt_cmpR (op_ltP hr) (pe_ix ix_list (pv 2) (pe_op op_add (pv 4) pe_int) (fun _ _ => rfl)) (pe_ix ix_list (pv 2) (pv 4) (fun _ _ => rfl)) (nomark _)))).pt
  (pss_one (ps_set (i := 4) sc.nd rfl (Or.inl rfl) (pe_op op_add (pv 4) pe_int)))
  pss_nil)
  (pss_cons (ps_if (pt_cmpR (op_leP hr) (pv 1) (pe_ix ix_list (pv 2) (pv 4) (fun _ _ => rfl)) (nomark _))
  (pss_one ps_break)
  pss_nil)
  (pss_cons (ps_asg (pe_ix ix_list (pv 2) (pv 4) (fun _ _ => rfl)) (pg_sub (pv 2) (pv 3) set_list))
  (pss_cons (ps_set (i := 3) sc.nd rfl (Or.inl rfl) (pv 4))
  (pss_one (ps_set (i := 4) sc.nd rfl (Or.inl rfl) (pe_op op_add (pe_op op_mul pe_int (pv 3)) pe_int))))))))
  (pss_one (ps_asg (pv 1) (pg_sub (pv 2) (pv 3) set_list))))))), ?_⟩
  obtain ⟨dx, hp⟩ := ha.ob
  have eA := ha.ls
  have pa : p ≠ a := fun z => by rw [z, eA] at hp; cases hp
  refine sq_asg ⟨_, rfl, p, cHeap, dx, _, _, rfl, hp, T.cl_Heap, T.na_Heap_pairs, rfl, ?_⟩
  refine sq_set ev_c ?_
  refine sq_set ev_c ?_
  refine sq_while (fun n σ H' => ∃ (pl : Nat) (vs' : List V) (ks' : List (List Int)), σ = [some (.ref p), some x, some (.ref a), some (.int (pl : Nat)), some (.int ((2 * pl + 1 : Nat) : Int))] ∧ vs'.length - pl = n ∧ H' p = some (.ins cHeap dx [("pairs", .ref a)]) ∧ H' a = some (.lst vs') ∧ KsH H' kd vs' ks' ∧
      Hp.Dn HT.lexLt [] ks' pl kx ∧ (ks'.set pl kx).Perm (ks.set 0 kx) ∧ PrH H' kd x kx ∧ But H H' p a)
    ⟨_, 0, vs, ks, rfl, rfl, hp, eA, hks, Hp.Dn.start hok (by rw [← hks.1]; exact h0) kx, List.Perm.refl _, hx, But.refl _ _ _⟩ ?_
  rintro n σ H3 ⟨pl, vs3, ks3, rfl, rfl, hp3, eA3, hk3, dn, perm, hx3, b3⟩
  have hpl : pl < vs3.length := by rw [hk3.1]; exact dn.at'
  have fin : ∀ (c : Option V), Hp.Hpy HT.lexLt [] (ks3.set pl kx) → Q .non (upd H3 a (.lst (vs3.set pl x))) := fun c h =>
    q _ _ _ ⟨⟨dx, by rw [upd_ne pa]; exact hp3⟩, upd_same⟩ ((hk3.kept (TK.lst eA3)).set hpl (hx3.kept (TK.lst eA3))) h perm fun b o e n1 n2 => by rw [upd_ne n2]; exact b3 b o e n1 n2
  have len3 : ∀ {σ : St}, σ[2]? = some (some (.ref a)) → Ev (tCB (fun xs H Q => ∃ x n, xs = [x] ∧ LenV K x H n ∧ Q (V.int ↑n) H) (tCons (tVar 2) tNil)) σ H3 (.int (vs3.length : Nat)) := fun e => ev_cb (ea_cons (ev_var e) ea_nil) fun Q' q' => ⟨_, _, rfl, .inl ⟨_, SqL.of eA3, rfl⟩, q'⟩
  refine ⟨_, et_test (ev_I0 (ev_var rfl) (len3 rfl)), fun e N hN => ?_, fun e => ?_⟩
  · have hc : 2 * pl + 1 < vs3.length := by have := of_decide_eq_true e; omega
    refine sq_ifR (fun σ H' => ∃ c : Nat, σ = [some (.ref p), some x, some (.ref a), some (.int (pl : Nat)), some (.int (c : Nat))] ∧ H' = H3 ∧ Hp.Least HT.lexLt [] ks3 pl c)
      (b := decide (((2 * pl + 1 : Nat) : Int) + 1 < ((vs3.length : Nat) : Int)) && HT.lexLt (ks3.getD (2 * pl + 2) []) (ks3.getD (2 * pl + 1) []))
      (et_and (et_test (ev_I0 (ev_I0 (ev_var rfl) ev_c) (len3 rfl))) (fun e2 => ?_)) (fun e2 R hR => ?_) (fun e2 R hR => ?_) ?_
    · have h2 : 2 * pl + 2 < vs3.length := by have := of_decide_eq_true e2; omega
      refine et_test fun Q' q' => ev_ixL (v := vs3.getD (2 * pl + 2) .non) (ev_var rfl) (ev_I0 (ev_var rfl) ev_c) (SqL.of eA3) (by rw [show ((2 * pl + 1 : Nat) : Int) + 1 = ((2 * pl + 2 : Nat) : Int) by omega]; exact atI_nat (getD_at h2)) _
        (ev_ixL (v := vs3.getD (2 * pl + 1) .non) (ev_var rfl) (ev_var rfl) (SqL.of eA3) (atI_nat (getD_at hc)) _ ⟨kd, _, _, (hk3.get h2).of, (hk3.get hc).of, q'⟩)
    · rw [Bool.and_eq_true] at e2
      have h2 : 2 * pl + 2 < vs3.length := by have := of_decide_eq_true e2.1; omega
      refine rd_set (ev_I0 (ev_var rfl) ev_c) (hR _ _ ⟨2 * pl + 2, by rw [show ((2 * pl + 2 : Nat) : Int) = ((2 * pl + 1 : Nat) : Int) + 1 by omega]; rfl, rfl, by simp only [Hp.par]; omega, by omega, by rw [← hk3.1]; exact h2, fun e e0 he ep => ?_⟩)
      have : e = 2 * pl + 1 ∨ e = 2 * pl + 2 := by simp only [Hp.par] at ep; omega
      rcases this with rfl | rfl
      · exact lexO'.asym e2.2
      · exact lex_irrefl _
    · refine hR _ _ ⟨2 * pl + 1, rfl, rfl, by simp only [Hp.par]; omega, by omega, by rw [← hk3.1]; exact hc, fun e e0 he ep => ?_⟩
      have : e = 2 * pl + 1 ∨ e = 2 * pl + 2 := by simp only [Hp.par] at ep; omega
      rcases this with rfl | rfl
      · exact lex_irrefl _
      · rcases Bool.and_eq_false_iff.mp e2 with z | z
        · have := of_decide_eq_false z; rw [← hk3.1] at he; omega
        · exact z
    rintro σ H4 ⟨c, rfl, rfl, least⟩
    have hcl : c < vs3.length := by rw [hk3.1]; exact least.2.2.1
    have ixc : ∀ {σ : St}, σ[2]? = some (some (.ref a)) → σ[4]? = some (some (.int (c : Nat))) → Ev (tOp (rIxL K) (tVar 2) (tVar 4)) σ H4 (vs3.getD c .non) := fun e1 e2 => ev_ixL (ev_var e1) (ev_var e2) (SqL.of eA3) (atI_nat (getD_at hcl))
    refine sq_if (b := !HT.lexLt (ks3.getD c []) kx) (et_test fun Q' q' => ⟨_, rfl, ixc rfl rfl _ ⟨kd, _, _, hx3.of, (hk3.get hcl).of, q'⟩⟩) (fun e2 => ?_) (fun e2 => ?_)
    · refine ⟨_, rfl, _, rfl, _, rfl, a, _, _, pl, rfl, rfl, eA3, ixN_nat hpl, fin none (dn.done fun e e0 he ep => ?_)⟩
      exact lexO'.le_trans (by simpa using e2) (least.2.2.2 e e0 he ep)
    · refine sq_asgT (ixc rfl rfl _ ?_)
      refine ⟨_, rfl, _, rfl, a, _, _, pl, rfl, rfl, eA3, ixN_nat hpl, ?_⟩
      refine sq_set (ev_var rfl) ?_
      have hpc : pl < c := by have := least.1; have := least.2.1; simp only [Hp.par] at *; omega
      refine rd_set (ev_I0 (ev_I ev_c (ev_var rfl) (.inl ⟨by decide, by decide⟩)) ev_c) (hN (vs3.length - c) _ _ (by omega) ⟨c, _, _, rfl, by rw [List.length_set], by rw [upd_ne pa]; exact hp3, upd_same, (hk3.kept (TK.lst eA3)).set hpl ((hk3.get hcl).kept (TK.lst eA3)), dn.step lexO' least (by simpa using e2), ?_, hx3.kept (TK.lst eA3), fun b o e n1 n2 => by rw [upd_ne n2]; exact b3 b o e n1 n2⟩)
      exact (Hp.up_perm dn.at' least.2.2.1 (by omega)).trans perm
  · refine ⟨_, rfl, _, rfl, _, rfl, a, _, _, pl, rfl, rfl, eA3, ixN_nat hpl, fin none (dn.done fun c c0 hc cp => ?_)⟩
    have := of_decide_eq_false e
    rw [← hk3.1] at hc
    simp only [Hp.par] at cp
    omega
theorem ok_Take {cHeap cWireError cNothingLeft : Addr} {f : Addr} {fd : FuncData} (F : Fun K "take" "Heap.take" sTake f fd) (hB : K.In base) (T : Txt K mg cHeap cWireError cNothingLeft) (gSink : MCallee P w K mg base cHeap "sink" 1 ["self", "pair"] (spSink cHeap)) : FnOk P w K mg base (CX1 P w) 2 f fd ["self"] (spTake cHeap cNothingLeft) := by
  have sc : FnScope ["self", "least", "last"] ["self"] (defScope sTake) := ⟨rfl, rfl, rfl, by decide +kernel, rfl, by decide +kernel, by decide +kernel⟩
  refine F.okX sc (fun vs H Q E h => by repeat (first | (obtain ⟨rfl, _⟩ := h; rfl) | (obtain ⟨_, h⟩ := h))) (fun cdv A outer s H vs Q E hr h => ?_)
  obtain ⟨p, a, kd, vs, ks, rfl, ha, hks, hok, hl, q1, q2⟩ := h
  refine ⟨_, (pss_cons (ps_if (pt_cmpR op_eq (pe_callB call_len (by rfl) T.len_ bt_len (pa_cons (pe_fld (pv 0) rfl) pa_nil)) pe_int (nomark _))
  (pss_one (ps_raise (own_of hB T.eNothingLeft.bd T.eNothingLeft.ex) PySem.F.excBase_ValueError rfl (by rfl) raises1 (pa_cons pe_str pa_nil)))
  pss_nil)
  (pss_cons (ps_set (i := 1) sc.nd rfl (Or.inl rfl) (pe_ix ix_list (pe_fld (pv 0) rfl) pe_int (fun _ _ => rfl)))
  (pss_cons (ps_set (i := 2) sc.nd rfl (Or.inl rfl) (pe_bm0 PySem.F.plainAttrs_list PySem.F.slot_list_pop PySem.F.type_list_pop mt_pop (pe_fld (pv 0) rfl)))
  (pss_cons (ps_if (pt_cmpR op_gt (pe_callB call_len (by rfl) T.len_ bt_len (pa_cons (pe_fld (pv 0) rfl) pa_nil)) pe_int (nomark _))
  (pss_one (ps_expr (pe_met (pv 0) T.cl_Heap gSink (hr.mono (by decide)) (pa_cons (pv 2) pa_nil))))
  pss_nil)
  (pss_one (ps_ret (pv 1))))))), ?_⟩
  obtain ⟨dx, hp⟩ := ha.ob
  have eA := ha.ls
  have pa : p ≠ a := fun z => by rw [z, eA] at hp; cases hp
  have fld : Ev (tFld K (tVar 0) "pairs") [some (.ref p), none, none] H (.ref a) := fun Q q => ⟨_, rfl, p, cHeap, dx, _, _, rfl, hp, T.cl_Heap, T.na_Heap_pairs, rfl, q⟩
  refine sq_if (et_test (ev_eqI (ev_cb (ea_cons fld ea_nil) fun Q' q' => ⟨_, _, rfl, .inl ⟨_, SqL.of eA, rfl⟩, q'⟩) ev_c)) (fun e => ?_) (fun e => ?_)
  · have := of_decide_eq_true e
    exact rd_raiseS (q1 (List.eq_nil_of_length_eq_zero (by omega)))
  have hne : vs ≠ [] := fun z => by
    have := of_decide_eq_false e
    rw [z] at this; exact this rfl
  have h0 : 0 < vs.length := List.length_pos_iff.mpr hne
  have q2 := q2 hne
  refine sq_set (ev_ixL (v := vs.getD 0 .non) fld ev_c (SqL.of eA) (atI_nat (j := 0) (getD_at h0))) ?_
  refine sq_asg ⟨_, rfl, p, cHeap, dx, _, _, rfl, hp, T.cl_Heap, T.na_Heap_pairs, rfl, .inl ⟨rfl, _, SqL.of eA⟩, a, _, vs.getD (vs.length - 1) .non, rfl, rfl, eA, getD_at (by omega), ?_⟩
  have hp1 : upd H a (.lst vs.dropLast) p = some (.ins cHeap dx [("pairs", .ref a)]) := by rw [upd_ne pa]; exact hp
  have eA1 : upd H a (.lst vs.dropLast) a = some (.lst vs.dropLast) := upd_same
  have tk1 : TK H (upd H a (.lst vs.dropLast)) := TK.lst eA
  have b1 : But H (upd H a (.lst vs.dropLast)) p a := fun b o e n1 n2 => by rw [upd_ne n2]; exact e
  revert hp1 eA1 tk1 b1
  generalize upd H a (.lst vs.dropLast) = H1
  intro hp1 eA1 tk1 b1
  have hmin : ∀ z ∈ ks, HT.lexLt z (ks.getD 0 []) = false := fun z hz => by
    obtain ⟨n, hn, rfl⟩ := List.getElem_of_mem hz
    have := Hp.Hpy.least lexO' hok n hn
    rwa [show ks.getD n [] = ks[n] by rw [List.getD_eq_getElem?_getD, List.getElem?_eq_getElem hn]; rfl] at this
  have hpl := (hks.get h0).kept tk1
  dsimp only
  refine sq_if (et_test (ev_I0 (ev_cb (ea_cons (fun Q q => ⟨_, rfl, p, cHeap, dx, _, _, rfl, hp1, T.cl_Heap, T.na_Heap_pairs, rfl, q⟩) ea_nil) fun Q' q' => ⟨_, _, rfl, .inl ⟨_, SqL.of eA1, rfl⟩, q'⟩) ev_c)) (fun e => ?_) (fun e => ?_)
  · have hd : 0 < vs.dropLast.length := by have := of_decide_eq_true e; omega
    have hd2 := hd
    rw [List.length_dropLast] at hd2
    refine ⟨_, rfl, p, dx, _, rfl, hp1, rfl, _, rfl, p, a, kd, vs.dropLast, ks.dropLast, _, ks.getD (ks.length - 1) [], rfl, ⟨⟨dx, hp1⟩, eA1⟩, (hks.kept tk1).drop, hok.drop, hd, ?_, by rw [List.length_dropLast]; omega, fun H2 vs2 ks2 hA2 hk2 hok2 perm2 b2 => ?_⟩
    · rw [← hks.1]
      exact (hks.get (by omega)).kept tk1
    · have tk2 := b2.tk hp1 eA1
      exact rd_ret (ev_var rfl) (q2 _ _ _ _ _ (hpl.kept tk2) hA2 hk2 hok2 ((List.Perm.cons _ perm2).trans (perm_take (by rw [← hks.1]; omega))) hmin fun b o e n1 n2 => b2 b o (b1 b o e n1 n2) n1 n2)
  · have hd : vs.dropLast = [] := List.eq_nil_of_length_eq_zero (by have := of_decide_eq_false e; omega)
    have hd2 : vs.length - 1 = 0 := by rw [← List.length_dropLast, hd]; rfl
    rw [hd] at eA1
    have hk1 : ks = [ks.getD 0 []] := by
      have hkl : ks.length = 1 := by rw [← hks.1]; omega
      match ks, hkl with
      | [k], _ => rfl
    exact rd_ret (ev_var rfl) (q2 _ _ _ _ _ hpl ⟨⟨dx, hp1⟩, eA1⟩ (KsH.nil _ _) (fun i _ hi => absurd hi (Nat.not_lt_zero _)) (by rw [← hk1]) hmin b1)
theorem ok_Cell {cHeap cWireError cNothingLeft : Addr} {f : Addr} {fd : FuncData} (F : Fun K "_law_cell_at" "_law_cell_at" sCell f fd) (T : Txt K mg cHeap cWireError cNothingLeft) : FnOk P w K mg base CX0 1 f fd ["script", "k"] (spCell K) := by
  have sc : FnScope ["script", "k"] ["script", "k"] (defScope sCell) := ⟨rfl, rfl, rfl, by decide +kernel, rfl, by decide +kernel, by decide +kernel⟩
  refine F.ok sc (fun vs H Q E h => by repeat (first | (obtain ⟨rfl, _⟩ := h; rfl) | (obtain ⟨_, h⟩ := h))) (fun cdv A outer s H vs Q E hr h => ?_)
  obtain ⟨a, ns, i, rfl, ha, h0, q⟩ := h
  refine ⟨_, (pss_cons (ps_if (pt_cmpR op_lt (pv 1) (pe_callB call_len (by rfl) T.len_ bt_len (pa_cons (pv 0) pa_nil)) (nomark _))
  (pss_one (ps_ret (pe_ix ix_list (pv 0) (pv 1) (fun _ _ => rfl))))
  pss_nil)
  (pss_one (ps_ret pe_int))), ?_⟩
  refine rd_if (et_test (ev_I0 (ev_var rfl) (ev_cb (ea_cons (ev_var rfl) ea_nil) fun Q' q' => ⟨_, _, rfl, by first | exact .inl ⟨_, by assumption, rfl⟩ | exact .inl ⟨_, SqL.of (by assumption), rfl⟩ | exact .inr ⟨_, by assumption, rfl⟩ | exact .inr ⟨_, SqT.of (by assumption), rfl⟩, q'⟩))) (fun e => ?_) (fun _ => ?_)
  · have hlt : i < ((ns.map V.int).length : Int) := of_decide_eq_true e
    rw [List.length_map] at hlt
    obtain ⟨j, rfl⟩ := Int.eq_ofNat_of_zero_le h0
    have hj : j < ns.length := by omega
    exact rd_ret (ev_ixL (v := .int ns[j]) (ev_var rfl) (ev_var rfl) ha (atI_nat (by simp [hj]))) (q _)
  · exact q 0
theorem ok_Mark {cHeap cWireError cNothingLeft : Addr} {f : Addr} {fd : FuncData} (F : Fun K "_law_mark" "_law_mark" sMark f fd) (T : Txt K mg cHeap cWireError cNothingLeft) : FnOk P w K mg base CX0 1 f fd ["kind", "k"] spMark := by
  have sc : FnScope ["kind", "k"] ["kind", "k"] (defScope sMark) := ⟨rfl, rfl, rfl, by decide +kernel, rfl, by decide +kernel, by decide +kernel⟩
  refine F.ok sc (fun vs H Q E h => by repeat (first | (obtain ⟨rfl, _⟩ := h; rfl) | (obtain ⟨_, h⟩ := h))) (fun cdv A outer s H vs Q E hr h => ?_)
  obtain ⟨kd, k, rfl, hk, q⟩ := h
  refine ⟨_, (pss_cons (ps_if (pt_cmpR op_eq (pv 0) pe_int (nomark _))
  (pss_one (ps_ret (pe_op op_add pe_int (pe_op op_mul (pe_op op_mul (pv 1) (pv 1)) pe_int))))
  pss_nil)
  (pss_one (ps_ret (pe_tup (pa_cons (pe_op op_fdivB (pv 1) pe_int) (pa_cons (pe_op op_mod (pe_op op_mul (pv 1) pe_int) pe_int) pa_nil)))))), ?_⟩
  cases kd with
  | false =>
    refine sq_if (et_test (ev_eqI (ev_var rfl) ev_c)) (fun _ => ?_) (fun e => absurd (of_decide_eq_false e) (fun z => z rfl))
    exact rd_ret (ev_I0 ev_c (ev_I (ev_I (ev_var rfl) (ev_var rfl) (by first | exact cmR (by omega) (by omega) | exact cmL (by omega) (by omega))) ev_c (by first | exact cmR (by omega) (by omega) | exact cmL (by omega) (by omega)))) (q _ H (Same.refl H) ⟨hk, .inl ⟨rfl, _, rfl, rfl⟩⟩)
  | true =>
    refine sq_if (et_test (ev_eqI (ev_var rfl) ev_c)) (fun e => absurd (of_decide_eq_true e) (by decide)) (fun _ => ?_)
    refine rd_tup (ea_cons (ev_I (ev_var rfl) ev_c (cdB (by omega) (by omega))) (ea_cons (ev_I (ev_I (ev_var rfl) ev_c (by first | exact cmR (by omega) (by omega) | exact cmL (by omega) (by omega))) ev_c (by first | (show (0 : Int) < _; omega) | (show (0 : Int) < _; decide))) ea_nil)) (by show 2 ≤ sizeLine; decide) fun p np => ?_
    exact q _ _ ((Same.refl H).upd np) ⟨hk, .inr ⟨rfl, p, _, _, rfl, upd_same, rfl⟩⟩
theorem ok_Price {cHeap cWireError cNothingLeft : Addr} {f : Addr} {fd : FuncData} (F : Fun K "_law_price" "_law_price" sPrice f fd) (T : Txt K mg cHeap cWireError cNothingLeft) : FnOk P w K mg base CX0 1 f fd ["cell", "tight"] spPrice := by
  have sc : FnScope ["cell", "tight"] ["cell", "tight"] (defScope sPrice) := ⟨rfl, rfl, rfl, by decide +kernel, rfl, by decide +kernel, by decide +kernel⟩
  refine F.ok sc (fun vs H Q E h => by repeat (first | (obtain ⟨rfl, _⟩ := h; rfl) | (obtain ⟨_, h⟩ := h))) (fun cdv A outer s H vs Q E hr h => ?_)
  obtain ⟨c, t, rfl, q⟩ := h
  refine ⟨_, (pss_cons (ps_if (pt_cmpR op_eq (pv 1) pe_int (nomark _))
  (pss_one (ps_ret (pe_op op_mod (pv 0) pe_int)))
  pss_nil)
  (pss_one (ps_ret (pe_op op_mod (pv 0) (pe_op op_add (pe_op op_pow pe_int pe_int) pe_int))))), ?_⟩
  refine sq_if (et_test (ev_eqI (ev_var rfl) ev_c)) (fun _ => ?_) (fun _ => ?_)
  · exact rd_ret (ev_I (ev_var rfl) ev_c (by first | (show (0 : Int) < _; omega) | (show (0 : Int) < _; decide))) (q _ (Int.emod_nonneg _ (by decide)))
  · exact rd_ret (ev_I (ev_var rfl) (ev_I0 (ev_I ev_c ev_c (cpw (by decide) (by decide) (by decide))) ev_c) (by show (0 : Int) < 10 ^ (15 : Int).toNat + 1; decide)) (q _ (Int.emod_nonneg _ (by decide)))
theorem ok_Num {cHeap cWireError cNothingLeft : Addr} {f : Addr} {fd : FuncData} (F : Fun K "_law_number" "_law_number" sNum f fd) (T : Txt K mg cHeap cWireError cNothingLeft) : FnOk P w K mg base CX0 1 f fd ["found"] spNum := by
  have sc : FnScope ["found"] ["found"] (defScope sNum) := ⟨rfl, rfl, rfl, by decide +kernel, rfl, by decide +kernel, by decide +kernel⟩
  refine F.ok sc (fun vs H Q E h => by repeat (first | (obtain ⟨rfl, _⟩ := h; rfl) | (obtain ⟨_, h⟩ := h))) (fun cdv A outer s H vs Q E hr h => ?_)
  obtain ⟨i, rfl, q⟩ := h
  refine ⟨_, (pss_one (ps_ret (pe_and (pe_callB call_isinst (by rfl) T.isinstance_ bt_isinstance (pa_cons (pv 0) (pa_cons (pe_bltn (v := .ty "int") (by rfl) T.int_ bt_int (by rfl)) pa_nil))) (pe_one (pe_not (pe_callB call_isinst (by rfl) T.isinstance_ bt_isinstance (pa_cons (pv 0) (pa_cons (pe_bltn (v := .ty "bool") (by rfl) T.bool_ bt_bool (by rfl)) pa_nil)))))))), ?_⟩
  exact rd_ret (ev_and (ev_cb (ea_cons (ev_var rfl) (ea_cons ev_c ea_nil)) fun Q' q' => ⟨_, _, _, _, _, rfl, .ty "int", .int i, T.ii, q'⟩)
    fun _ => ev_not (ev_cb (ea_cons (ev_var rfl) (ea_cons ev_c ea_nil)) fun Q' q' => ⟨_, _, _, _, _, rfl, .ty "bool", .int i, T.ib, q'⟩)) q
theorem ok_Rows {cHeap cWireError cNothingLeft : Addr} {f : Addr} {fd : FuncData} (F : Fun K "_law_rows" "_law_rows" sRows f fd) (T : Txt K mg cHeap cWireError cNothingLeft) (gPrice : Callee P w K mg base "_law_price" 1 ["cell", "tight"] spPrice) : FnOk P w K mg base CX0 2 f fd ["script", "marks", "tight"] (spRows K) := by
  have sc : FnScope ["script", "marks", "tight", "rows", "cell", "one", "two"] ["script", "marks", "tight"] (defScope sRows) := ⟨rfl, rfl, rfl, by decide +kernel, rfl, by decide +kernel, by decide +kernel⟩
  refine F.ok sc (fun vs H Q E h => by repeat (first | (obtain ⟨rfl, _⟩ := h; rfl) | (obtain ⟨_, h⟩ := h))) (fun cdv A outer s H vs Q E hr h => ?_)
  obtain ⟨a, ml, t, ns, kd, ms, n, rfl, hS, hlen, hml, hmk, q⟩ := h
  refine ⟨_, (pss_cons (ps_set (i := 3) sc.nd rfl (Or.inl rfl) pe_dnewE)
  (pss_cons (ps_for PassesOwn.never rfl (pi_list (pe_slice sl_list (pv 0) (po_some pe_int) po_none)) (pg_name (i := 4) sc.nd rfl (Or.inl rfl))
  (pss_cons (ps_set (i := 5) sc.nd rfl (Or.inl rfl) (pe_ix ix_list (pv 1) (pe_op op_mod (pv 4) (pe_callB call_len (by rfl) T.len_ bt_len (pa_cons (pv 1) pa_nil))) (fun _ _ => rfl)))
  (pss_cons (ps_set (i := 6) sc.nd rfl (Or.inl rfl) (pe_ix ix_list (pv 1) (pe_op op_mod (pe_op op_fdivB (pv 4) pe_int) (pe_callB call_len (by rfl) T.len_ bt_len (pa_cons (pv 1) pa_nil))) (fun _ _ => rfl)))
  (pss_one (ps_expr (pe_bm PySem.F.plainAttrs_list PySem.F.slot_list_append PySem.F.type_list_append mt_append (pe_bm PySem.F.plainAttrs_dict PySem.F.slot_dict_setdefault PySem.F.type_dict_setdefault (mt_setG hr) (pv 3) (pa_cons (pv 5) (pa_cons (pe_lst pa_nil) pa_nil))) (pa_cons (pe_tup (pa_cons (pv 6) (pa_cons (pe_cal gPrice (hr.mono (by decide)) (by rfl) (pa_cons (pe_op op_fdivB (pv 4) pe_int) (pa_cons (pv 2) pa_nil))) pa_nil))) pa_nil)))))))
  (pss_one (ps_ret (pv 3))))), ?_⟩
  refine sq_dnew kd fun rd ob nrd hdm hmu => ?_
  have s1 : Same H (upd H rd ob) := (Same.refl H).upd nrd
  revert s1 hdm
  generalize upd H rd ob = H1
  intro hdm s1
  refine ⟨_, rfl, _, rfl, a, _, rfl, s1.seq hS, fun sl nsl => ?_⟩
  obtain ⟨cs, ecs, hcs⟩ := cut_map (ns := ns) (lo := some 6) (hi := none)
  rw [ecs]
  have s2 : Same H (upd H1 sl (.lst (cs.map V.int))) := s1.upd nsl
  have e2 : upd H1 sl (.lst (cs.map V.int)) sl = some (.lst (cs.map V.int)) := upd_same
  have nHsl : H sl = none := s1.free nsl
  have hdm2 : DM (upd H1 sl (.lst (cs.map V.int))) rd kd [] (fun _ => none) := dm_same hdm fun o e => by rw [upd_ne (ne_of_none e nsl)]; exact e
  have rdsl : rd ≠ sl := by
    obtain ⟨u, hu, _⟩ := dm_raw hdm
    exact ne_of_none hu nsl
  revert s2 e2 hdm2
  generalize upd H1 sl (.lst (cs.map V.int)) = H2
  intro s2 e2 hdm2
  refine ⟨sl, rfl, ⟨_, SqL.of e2⟩, for_list (K := K) (a := sl) (xs := cs.map V.int) (fun i σ H' => ∃ (us : List Nat) (gv : Nat → Option V) (rows : Nat → List (Nat × Int)) (x4 x5 x6 : Option V),
      σ = [some (.ref a), some (.ref ml), some (.int t), some (.ref rd), x4, x5, x6] ∧ Same H H' ∧ H' sl = some (.lst (cs.map V.int)) ∧ RowsI H' rd kd us gv rows ∧ (∀ j, gv j ≠ some (.ref sl)) ∧ (∀ j b, gv j = some (.ref b) → H b = none) ∧ RFit rows n ∧ total rows n = i ∧ us.length ≤ i)
    ⟨[], fun _ => none, fun _ => [], none, none, none, rfl, s2, e2, ⟨⟨hdm2, fun _ _ _ => rfl, (fun _ _ _ h => nomatch h)⟩, (fun _ _ _ h => nomatch h), fun _ _ => rfl⟩, (fun _ h => nomatch h), (fun _ _ h => nomatch h), ⟨(fun _ _ h => nomatch h), (fun _ _ h => nomatch h), fun _ _ => rfl⟩, ?_, Nat.le_refl _⟩
    (fun i σ H' _ ⟨_, _, _, _, _, _, _, _, e, _⟩ => SqL.of e) ?_ ?_⟩
  · unfold total Dj.sumF
    induction List.range n with
    | nil => rfl
    | cons x l ih => rw [List.map_cons, List.sum_cons, ih]; rfl
  · rintro i y σ H' hi ⟨us, gv, rows, x4, x5, x6, rfl, sm, esl, R, nsl', nH, fit, htot, hul⟩
    have him : i < cs.length := by have := (List.getElem?_eq_some_iff.mp hi).1; rwa [List.length_map] at this
    obtain ⟨c, -, rfl⟩ := int_at hi
    refine gn ?_
    have hml' := sm.seq hml
    have hmk' := hmk.kept (same_tk sm)
    obtain ⟨k1, m1, a1, l1, M1⟩ := mk_at (K := K) hmk' c
    obtain ⟨k2, m2, a2, l2, M2⟩ := mk_at (K := K) hmk' (c / 13)
    have hn0 : (0 : Int) < (ms.length : Int) := by have := hmk.1; have := hmk.2.1; omega
    have lenE : ∀ {σ : St} {te : TE}, Ev te σ H' (.ref ml) → Ev (tCB (fun xs H Q => ∃ x n, xs = [x] ∧ LenV K x H n ∧ Q (.int n) H) (tCons te tNil)) σ H' (.int (ms.length : Int)) := fun h => ev_cb (ea_cons h ea_nil) fun Q' q' => ⟨_, _, rfl, .inl ⟨_, hml', rfl⟩, q'⟩
    refine sq_set (v := m1) (ev_ixL (ev_var rfl) (ev_I (ev_var rfl) (lenE (ev_var rfl)) hn0) hml' a1) ?_
    refine sq_set (v := m2) (ev_ixL (ev_var rfl) (ev_I (ev_I (ev_var rfl) ev_c ⟨by decide, by decide⟩) (lenE (ev_var rfl)) hn0) hml' a2) ?_
    have hty : tyV K "dict" (.ref rd) H' := by
      refine .inr (.inr (.inl ⟨rfl, ?_⟩))
      obtain ⟨_, ⟨_, kvs, e, _⟩ | ⟨_, kvs, e, _⟩⟩ := R.ra.dm
      · exact .inl ⟨kvs, e⟩
      · exact .inr ⟨kvs, e⟩
    refine ⟨_, rfl, hty, _, rfl, Nat.zero_le _, fun el nel => ?_⟩
    have sE : Same H' (upd H' el (.lst [])) := (Same.refl H').upd nel
    have eE : upd H' el (.lst []) el = some (.lst []) := upd_same
    have nHel : H el = none := sm.free nel
    have nelg : ∀ j, gv j ≠ some (.ref el) := fun j e => by
      by_cases hj : j < 12
      · obtain ⟨l, vs, e1, e2, _⟩ := R.ra.ye j _ hj e
        cases e1; rw [nel] at e2; cases e2
      · rw [R.out j (by omega)] at e; cases e
    revert sE eE
    generalize upd H' el (.lst []) = H3
    intro sE eE
    have R3 : RowsI H3 rd kd us gv rows := ⟨R.ra.same sE, R.inj, R.out⟩
    dsimp only [tNil]
    refine set_rows R3 (M1.kept (same_tk sE)) (by omega) eE nelg fun l vs us2 gv2 H4 keep hu2 R4 hg4 hl4 hv4 hgg => ?_
    have nrd' : ∀ b o, H b = some o → b ≠ rd := fun b o e z => by rw [z, nrd] at e; cases e
    have sm4 : Same H H4 := fun b o e => keep b o (nrd' b o e) (sE _ _ (sm _ _ e))
    have esl4 : H4 sl = some (.lst (cs.map V.int)) := keep _ _ rdsl.symm (sE _ _ esl)
    have M2' : Mk H4 kd m2 k2 := M2.kept fun b xs e => keep b _ (fun z => by
      obtain ⟨u, hu, _, hdu, _⟩ := dm_raw R3.ra.dm
      rw [z] at e
      rw [sE _ _ e] at hu; cases hu; exact hdu.elim) (sE _ _ e)
    have nl : H l = none ∧ l ≠ sl := by
      rcases hgg k1 l hg4 with z | z
      · exact ⟨nH _ _ z, fun z2 => nsl' k1 (by rw [← z2]; exact z)⟩
      · rw [z]; exact ⟨nHel, fun z2 => by rw [z2, esl] at nel; cases nel⟩
    have hvl := hv4.length
    have hrl := len_le (rows := rows) l1
    refine ⟨.inl ⟨rfl, _, SqL.of hl4⟩, _, rfl, _, rfl, _, 169, rfl, rfl, ⟨by decide, by decide⟩, _, rfl, _, t, rfl, fun p hp0 => ⟨(by show 2 ≤ sizeLine; decide), fun tp ntp => ?_⟩⟩
    have ltp : l ≠ tp := ne_of_none hl4 ntp
    refine ⟨l, _, _, rfl, rfl, (by rw [upd_ne ltp]; exact hl4), small1000 (by omega), ?_⟩
    refine ⟨us2, gv2, _, _, _, _, rfl, same_at (sm4.upd ntp) nl.1, ?_, rows_app (k2 := k2) (p := p) R4 hg4 M1.1 hl4 hv4 ntp M2', fun j z => ?_, fun j b z => ?_, fit_app fit l1 hp0 l2, ?_, by omega⟩
    · rw [upd_ne nl.2.symm, upd_ne (ne_of_none esl4 ntp)]; exact esl4
    · rcases hgg j sl z with z | z
      · exact nsl' j z
      · rw [← z, esl] at nel; cases nel
    · rcases hgg j b z with z | z
      · exact nH j b z
      · rw [z]; exact nHel
    · rw [total_app l1, htot]
  · rintro σ H' ⟨us, gv, rows, x4, x5, x6, rfl, sm, esl, R, nsl', nH, fit, htot, hul⟩
    rw [List.length_map] at htot
    exact rd_ret (ev_var rfl) (q rd us gv rows H' sm R.ra fit (by omega))
theorem ok_Starts {cHeap cWireError cNothingLeft : Addr} {f : Addr} {fd : FuncData} (F : Fun K "_law_starts" "_law_starts" sStarts f fd) (T : Txt K mg cHeap cWireError cNothingLeft) (gCell : Callee P w K mg base "_law_cell_at" 1 ["script", "k"] (spCell K)) (gPrice : Callee P w K mg base "_law_price" 1 ["cell", "tight"] spPrice) : FnOk P w K mg base CX0 2 f fd ["script", "marks", "tight"] (spStarts K) := by
  have sc : FnScope ["script", "marks", "tight", "starts", "k", "cell"] ["script", "marks", "tight"] (defScope sStarts) := ⟨rfl, rfl, rfl, by decide +kernel, rfl, by decide +kernel, by decide +kernel⟩
  refine F.ok sc (fun vs H Q E h => by repeat (first | (obtain ⟨rfl, _⟩ := h; rfl) | (obtain ⟨_, h⟩ := h))) (fun cdv A outer s H vs Q E hr h => ?_)
  obtain ⟨a, ml, t, ns, kd, ms, n, rfl, hS, hml, hmk, q⟩ := h
  refine ⟨_, (pss_cons (ps_set (i := 3) sc.nd rfl (Or.inl rfl) (pe_lst pa_nil))
  (pss_cons (ps_for PassesOwn.never rfl (pi_range1 (by rfl) T.range_ (pa_cons (pe_op op_mod (pe_cal gCell (hr.mono (by decide)) (by rfl) (pa_cons (pv 0) (pa_cons pe_int pa_nil))) pe_int) pa_nil)) (pg_name (i := 4) sc.nd rfl (Or.inl rfl))
  (pss_cons (ps_set (i := 5) sc.nd rfl (Or.inl rfl) (pe_op op_add (pe_op op_fdivB (pe_cal gCell (hr.mono (by decide)) (by rfl) (pa_cons (pv 0) (pa_cons pe_int pa_nil))) (pe_op op_add (pv 4) pe_int)) (pe_op op_mul (pv 4) (pe_cal gCell (hr.mono (by decide)) (by rfl) (pa_cons (pv 0) (pa_cons pe_int pa_nil))))))
  (pss_one (ps_expr (pe_bm PySem.F.plainAttrs_list PySem.F.slot_list_append PySem.F.type_list_append mt_append (pv 3) (pa_cons (pe_tup (pa_cons (pe_ix ix_list (pv 1) (pe_op op_mod (pv 5) (pe_callB call_len (by rfl) T.len_ bt_len (pa_cons (pv 1) pa_nil))) (fun _ _ => rfl)) (pa_cons (pe_cal gPrice (hr.mono (by decide)) (by rfl) (pa_cons (pe_op op_fdivB (pv 5) pe_int) (pa_cons (pv 2) pa_nil))) pa_nil))) pa_nil))))))
  (pss_one (ps_ret (pv 3))))), ?_⟩
  refine sq_lst ea_nil (by decide) fun st nst => ?_
  have s1 : Same H (upd H st (.lst [])) := (Same.refl H).upd nst
  have e1 : upd H st (.lst []) st = some (.lst []) := upd_same
  revert s1 e1
  generalize upd H st (.lst []) = H1
  intro s1 e1
  refine ⟨_, rfl, a, ns, 3, rfl, s1.seq hS, by decide, fun c3 => ?_⟩
  refine ⟨_, 6, rfl, rfl, (by show (0 : Int) < 6; decide), ?_⟩
  have h6 : 0 ≤ c3 % 6 ∧ c3 % 6 < 6 := ⟨by omega, by omega⟩
  refine ⟨c3 % 6, rfl, by omega, by omega, for_range (fun i σ H' => ∃ (ws : List V) (ps : List (Nat × Int)) (x4 x5 : Option V), σ = [some (.ref a), some (.ref ml), some (.int t), some (.ref st), x4, x5] ∧ Same H H' ∧ H' st = some (.lst ws) ∧ MPs H' kd ws ps ∧ ps.length = i ∧ ∀ p ∈ ps, p.1 < n)
    ⟨[], [], none, none, rfl, s1, e1, .nil, rfl, (fun p hp => nomatch hp)⟩ ?_ ?_⟩
  · rintro i σ H' hi ⟨ws, ps, x4, x5, rfl, sm, hst, hws, hpl, hlt⟩
    rw [Int.zero_add]
    refine gn ?_
    have hi6 : i < 6 := by omega
    have hwl := hws.length
    refine sq_asg ⟨_, rfl, a, ns, 4, rfl, sm.seq hS, by decide, fun c4 => ?_⟩
    refine ⟨_, rfl, _, 1, rfl, rfl, _, _, rfl, rfl, ⟨by omega, by omega⟩, _, rfl, _, rfl, a, ns, 5, rfl, sm.seq hS, by decide, fun c5 => ?_⟩
    refine ⟨_, _, rfl, rfl, cmL (by omega) (by omega), _, _, rfl, rfl, ?_⟩
    show tDrop _ _ (_ :: _ :: _ :: _ :: _ :: some (.int (c4 / ((i : Int) + 1) + (i : Int) * c5)) :: _) _
    generalize c4 / ((i : Int) + 1) + (i : Int) * c5 = c
    have hml' := sm.seq hml
    have hmk' := hmk.kept (same_tk sm)
    obtain ⟨k1, m1, a1, l1, M1⟩ := mk_at (K := K) hmk' c
    have hn0 : (0 : Int) < (ms.length : Int) := by have := hmk.1; have := hmk.2.1; omega
    refine ⟨_, rfl, .inl ⟨rfl, _, SqL.of hst⟩, ?_⟩
    have lenE : ∀ {σ : St} {te : TE}, Ev te σ H' (.ref ml) → Ev (tCB (fun xs H Q => ∃ x n, xs = [x] ∧ LenV K x H n ∧ Q (.int n) H) (tCons te tNil)) σ H' (.int (ms.length : Int)) := fun h => ev_cb (ea_cons h ea_nil) fun Q' q' => ⟨_, _, rfl, .inl ⟨_, hml', rfl⟩, q'⟩
    have ix : Ev (tOp (rIxL K) (tVar 1) (tOp (rI (fun _ j => 0 < j) fun i j => V.int (i % j)) (tVar 5) (tCB (fun xs H Q => ∃ x n, xs = [x] ∧ LenV K x H n ∧ Q (.int n) H) (tCons (tVar 1) tNil)))) [some (.ref a), some (.ref ml), some (.int t), some (.ref st), some (.int (i : Nat)), some (.int c)] H' m1 :=
      ev_ixL (ev_var rfl) (ev_I (ev_var rfl) (lenE (ev_var rfl)) hn0) hml' a1
    refine ix _ ?_
    refine ⟨_, rfl, _, 13, rfl, rfl, ⟨by decide, by decide⟩, _, rfl, _, t, rfl, fun p hp0 => ⟨(by show 2 ≤ sizeLine; decide), fun tp ntp => ?_⟩⟩
    have ltp : st ≠ tp := ne_of_none hst ntp
    refine ⟨st, _, _, rfl, rfl, (by rw [upd_ne ltp]; exact hst), small1000 (by omega), ?_⟩
    have tk : TK H' (upd (upd H' tp (.tup [m1, .int p])) st (.lst (ws ++ [.ref tp]))) := fun b xs e => by rw [upd_ne (ne_of e hst (by intro z; cases z)), upd_ne (ne_of_none e ntp)]; exact e
    refine ⟨_, ps ++ [(k1, p)], _, _, rfl, same_at (sm.upd ntp) nst, upd_same, Paired.snoc (hws.kept tk) ⟨tp, m1, rfl, ?_, M1.kept tk⟩, by simp [hpl], fun r hr' => ?_⟩
    · rw [upd_ne ltp.symm, upd_same]
    · rcases List.mem_append.mp hr' with z | z
      · exact hlt r z
      · rw [List.mem_singleton.mp z]; exact l1
  · rintro σ H' ⟨ws, ps, x4, x5, rfl, sm, hst, hws, hpl, hlt⟩
    exact rd_ret (ev_var rfl) (q st ws ps H' sm hst hws (by omega) hlt)
theorem ok_EndsL {cHeap cWireError cNothingLeft : Addr} {f : Addr} {fd : FuncData} (F : Fun K "_law_ends" "_law_ends" sEndsL f fd) (T : Txt K mg cHeap cWireError cNothingLeft) : FnOk P w K mg base CX0 1 f fd ["back", "mark"] spEndsL := by
  have sc : FnScope ["back", "mark", "k"] ["back", "mark"] (defScope sEndsL) := ⟨rfl, rfl, rfl, by decide +kernel, rfl, by decide +kernel, by decide +kernel⟩
  refine F.ok sc (fun vs H Q E h => by repeat (first | (obtain ⟨rfl, _⟩ := h; rfl) | (obtain ⟨_, h⟩ := h))) (fun cdv A outer s H vs Q E hr h => ?_)
  obtain ⟨ba, m, k, kd, us, gB, back, rfl, hdm, hbr, hm, hcl, hk0, hend, hl12, q⟩ := h
  refine ⟨_, (pss_cons (ps_for PassesOwn.never rfl (pi_range1 (by rfl) T.range_ (pa_cons (pe_callB call_lenU (by rfl) T.len_ bt_len (pa_cons (pv 0) pa_nil)) pa_nil)) (pg_name (i := 2) sc.nd rfl (Or.inl rfl))
  (pss_cons (ps_set (i := 1) sc.nd rfl (Or.inl rfl) (pe_dget (Room.one hr) (pv 0) (pv 1) (fun _ _ => rfl)))
  (pss_one (ps_if (pt_cmpR op_isN (pv 1) pe_non (nomark _))
  (pss_one (ps_ret pe_bl))
  pss_nil))))
  (pss_one (ps_ret pe_bl))), ?_⟩
  obtain ⟨u, hu, mu, du, hsz, _, _⟩ := dm_raw hdm
  have hln : (((szU u : Nat) : Int)).toNat = us.length := by rw [hsz]; simp
  refine ⟨_, rfl, ba, u, rfl, .inl hu, du, _, rfl, ?_, ?_, for_range (fun i σ H' => ∃ (m : V) (k : Nat) (x2 : Option V), σ = [some (.ref ba), some m, x2] ∧ H' = H ∧ Mk H kd m k ∧ (back k).isSome = true ∧ Dj.ends back (us.length - i) k = true) ⟨m, k, none, rfl, rfl, hm, hk0, hend⟩ ?_ ?_⟩
  · show -(2 ^ 62) ≤ ((szU u : Nat) : Int)
    omega
  · show ((szU u : Nat) : Int) < 2 ^ 62
    rw [hsz]; omega
  · rintro i σ H' hi ⟨m, k, x2, rfl, rfl, hm, hk0, hend⟩
    rw [hln] at hi
    rw [Int.zero_add]
    refine gn ?_
    obtain ⟨h1, h2, h3⟩ := hbr k hm.1
    have e1 : us.length - i = (us.length - (i + 1)) + 1 := by omega
    rw [e1] at hend
    have g := dm_get (dm_r hdm) hm
    cases hb : back k with
    | none => rw [hb] at hk0; cases hk0
    | some ob =>
      have hend' : (match back k with | some (some b) => Dj.ends back (us.length - (i + 1)) b | some none => true | none => false) = true := hend
      rw [hb] at hend'
      cases ob with
      | none =>
        rw [h2 hb] at g
        refine sq_set (ev_dget (ev_var rfl) (ev_var rfl) g) ?_
        exact rd_ifT (et_test (ev_isN (ev_var rfl) ev_c)) (by rfl) (rd_ret (σ := []) ev_c q)
      | some b =>
        obtain ⟨v, e2, e3⟩ := h3 b hb
        rw [e2] at g
        refine sq_set (ev_dget (ev_var rfl) (ev_var rfl) g) ?_
        refine rd_ifF (et_test (ev_isN (ev_var rfl) ev_c)) ?_ ⟨v, b, _, rfl, rfl, e3, hcl k b hb, hend'⟩
        rcases e3.2 with ⟨_, z, rfl, _⟩ | ⟨_, z, _, _, rfl, _⟩ <;> rfl
  · rintro σ H' ⟨m, k, x2, rfl, rfl, hm, hk0, hend⟩
    rw [hln, Nat.sub_self] at hend
    cases hend
theorem ok_Backed {cHeap cWireError cNothingLeft : Addr} {f : Addr} {fd : FuncData} (F : Fun K "_law_backed" "_law_backed" sBacked f fd) (T : Txt K mg cHeap cWireError cNothingLeft) : FnOk P w K mg base CX0 1 f fd ["far", "back", "rows", "starts", "mark"] (spBacked K) := by
  have sc : FnScope ["far", "back", "rows", "starts", "mark", "price"] ["far", "back", "rows", "starts", "mark"] (defScope sBacked) := ⟨rfl, rfl, rfl, by decide +kernel, rfl, by decide +kernel, by decide +kernel⟩
  refine F.ok sc (fun vs H Q E h => by repeat (first | (obtain ⟨rfl, _⟩ := h; rfl) | (obtain ⟨_, h⟩ := h))) (fun cdv A outer s H vs Q E hr h => ?_)
  obtain ⟨fa, ba, rd, sl, m, k, kd, us, far, back, rows, ss, rfl, ⟨gF, gB, n, ur, gv, ws, D, R, fit, hsl, hws, hlt⟩, hm, ⟨p, hp⟩, hb0, hbn, hbs, q⟩ := h
  refine ⟨_, (pss_cons (ps_if (pt_cmpR op_isN (pe_dget (Room.one hr) (pv 1) (pv 4) (fun _ _ => rfl)) pe_non (nomark _))
  (pss_one (ps_ret (pe_cmpR (op_inMP hr) (pe_tup (pa_cons (pv 4) (pa_cons (pe_dget (Room.one hr) (pv 0) (pv 4) (fun _ _ => rfl)) pa_nil))) (pv 3) (by with_unfolding_all rfl))))
  pss_nil)
  (pss_cons (ps_if (pw_or (pt_cmpR (op_inMP hr) (pe_tup (pa_cons (pv 4) (pa_cons (pe_dget (Room.one hr) (pv 0) (pv 4) (fun _ _ => rfl)) pa_nil))) (pv 3) (by with_unfolding_all rfl)) (pw_or1 (pt_cmp (pc_dnotin (Room.one hr) (pe_dget (Room.one hr) (pv 1) (pv 4) (fun _ _ => rfl)) (pv 0))))).pt
  (pss_one (ps_ret pe_bl))
  pss_nil)
  (pss_cons (ps_set (i := 5) sc.nd rfl (Or.inl rfl) (pe_op op_sub (pe_dget (Room.one hr) (pv 0) (pv 4) (fun _ _ => rfl)) (pe_dget (Room.one hr) (pv 0) (pe_dget (Room.one hr) (pv 1) (pv 4) (fun _ _ => rfl)) (fun _ _ => rfl))))
  (pss_one (ps_ret (pe_cmpR (op_inMP hr) (pe_tup (pa_cons (pv 4) (pa_cons (pv 5) pa_nil))) (pe_bm PySem.F.plainAttrs_dict PySem.F.slot_dict_get PySem.F.type_dict_get (mt_getT hr) (pv 2) (pa_cons (pe_dget (Room.one hr) (pv 1) (pv 4) (fun _ _ => rfl)) (pa_cons (pe_lst pa_nil) pa_nil))) (by with_unfolding_all rfl))))))), ?_⟩
  have gf : ∀ {H' : Hp} {m : V} {j : Nat} {p : Int}, Same H H' → Mk H' kd m j → far j = some p → DGet H' fa m (some (.int p)) := fun {H' m j p} s hm hp => by
    have := dm_get (dmr_same D.fd fun o e => s _ _ e) hm
    rw [D.fr j hm.1, hp] at this
    exact this
  have g1 := dm_get D.bd hm
  obtain ⟨h1, h2, h3⟩ := D.br k hm.1
  cases hb : back k with
  | none => rw [hb] at hb0; cases hb0
  | some ob =>
    cases ob with
    | none =>
      rw [h2 hb] at g1
      refine sq_if (et_test (ev_isN (ev_dget (ev_var rfl) (ev_var rfl) g1) ev_c)) (fun _ => ?_) (fun e => by cases e)
      refine ⟨_, rfl, _, rfl, _, rfl, fa, _, rfl, gf (Same.refl H) hm hp, (by show 2 ≤ sizeLine; decide), fun tp ntp => ?_⟩
      have s1 : Same H (upd H tp (.tup [m, .int p])) := (Same.refl H).upd ntp
      refine ⟨_, rfl, tp, sl, kd, ws, ss, m, (k, p), rfl, rfl, upd_same, hm.kept (same_tk s1), s1.seq hsl, hws.kept (same_tk s1), ?_⟩
      rw [decide_eq_true (hbn p hp hb)]
      exact q _ s1
    | some b =>
      obtain ⟨v, e2, hv⟩ := h3 b hb
      rw [e2] at g1
      obtain ⟨hns, pb, hpb, hrow⟩ := hbs p b hp hb
      have nn : ∀ {σ : St} {te : TE}, Ev te σ H v → EvT (tTest (tOp (fun x y H Q => y = .non ∧ Q (.bl (decide (x = .non))) H) te (tC .non))) σ H false := fun h => et_of (et_test (ev_isN h ev_c)) (by rcases hv.2 with ⟨_, z, rfl, _⟩ | ⟨_, z, _, _, rfl, _⟩ <;> rfl)
      refine sq_ifF (nn (ev_dget (ev_var rfl) (ev_var rfl) g1)) rfl ?_
      refine ⟨_, rfl, _, rfl, _, rfl, fa, _, rfl, gf (Same.refl H) hm hp, (by show 2 ≤ sizeLine; decide), fun tp ntp => ?_⟩
      have s1 : Same H (upd H tp (.tup [m, .int p])) := (Same.refl H).upd ntp
      refine ⟨_, rfl, tp, sl, kd, ws, ss, m, (k, p), rfl, rfl, upd_same, hm.kept (same_tk s1), s1.seq hsl, hws.kept (same_tk s1), ?_⟩
      refine ⟨_, rfl, ?_⟩
      rw [decide_eq_false hns]
      refine iteF ?_
      revert s1
      generalize upd H tp (.tup [m, .int p]) = H1
      intro s1
      have hm1 := hm.kept (same_tk s1)
      have hv1 := hv.kept (same_tk s1)
      have g1' : DGet H1 ba m (some v) := by
        have := dm_get (dmr_same D.bd fun o e => s1 _ _ e) hm1
        rw [e2] at this; exact this
      have t2 : EvT (tTest (tDNotIn (tDGet (tVar 1) (tVar 4)) (tVar 0))) [some (.ref fa), some (.ref ba), some (.ref rd), some (.ref sl), some m, none] H1 false := et_of (et_test (ev_dnotin (ev_dget (ev_var rfl) (ev_var rfl) g1') (ev_var rfl) (gf s1 hv1 hpb))) rfl
      refine t2 _ ?_
      refine iteF ?_
      refine st ?_
      refine sq_set (ev_I0 (ev_dget (ev_var rfl) (ev_var rfl) (gf s1 hm1 hp)) (ev_dget (ev_var rfl) (ev_dget (ev_var rfl) (ev_var rfl) g1') (gf s1 hv1 hpb))) ?_
      refine ⟨_, rfl, _, rfl, (by show 2 ≤ sizeLine; decide), fun tq ntq => ?_⟩
      have s2 : Same H1 (upd H1 tq (.tup [m, .int (p - pb)])) := (Same.refl H1).upd ntq
      have etq : upd H1 tq (.tup [m, .int (p - pb)]) tq = some (.tup [m, .int (p - pb)]) := upd_same
      revert s2 etq
      generalize upd H1 tq (.tup [m, .int (p - pb)]) = H2
      intro s2 etq
      have g2 : DGet H2 ba m (some v) := by
        have := dm_get (dmr_same D.bd fun o e => (s1.trans s2) _ _ e) (hm1.kept (same_tk s2))
        rw [e2] at this; exact this
      have R2 := R.same (s1.trans s2)
      refine ⟨_, rfl, dm_ty R2.dm, _, rfl, _, rfl, ba, _, rfl, g2, Nat.zero_le _, fun el nel => ?_⟩
      have s3 : Same H2 (upd H2 el (.lst [])) := (Same.refl H2).upd nel
      revert s3
      generalize upd H2 el (.lst []) = H3
      intro s3
      have R3 := R2.same s3
      have s13 := (s1.trans s2).trans s3
      refine ⟨rd, v, .ref el, gv b, rfl, rfl, dm_get (dm_r R3.dm) ((hv1.kept (same_tk s2)).kept (same_tk s3)), ?_⟩
      cases eg : gv b with
      | none =>
        rw [R.no b hv.1 eg] at hrow
        exact nomatch hrow
      | some x =>
        obtain ⟨l, vs, rfl, e5, e6⟩ := R3.ye b x hv.1 eg
        refine ⟨tq, l, kd, vs, rows b, m, (k, p - pb), rfl, rfl, s3 _ _ etq, (hm1.kept (same_tk s2)).kept (same_tk s3), SqL.of e5, e6, ?_⟩
        rw [decide_eq_true hrow]
        exact q _ s13
theorem ok_Come {cHeap cWireError cNothingLeft : Addr} {f : Addr} {fd : FuncData} (F : Fun K "_law_come_to" "_law_come_to" sCome f fd) (T : Txt K mg cHeap cWireError cNothingLeft) (gNum : Callee P w K mg base "_law_number" 1 ["found"] spNum) : FnOk P w K mg base CX0 2 f fd ["far", "rows", "starts"] (spCome K) := by
  have sc : FnScope ["far", "rows", "starts", "pair", "one", "arc"] ["far", "rows", "starts"] (defScope sCome) := ⟨rfl, rfl, rfl, by decide +kernel, rfl, by decide +kernel, by decide +kernel⟩
  refine F.ok sc (fun vs H Q E h => by repeat (first | (obtain ⟨rfl, _⟩ := h; rfl) | (obtain ⟨_, h⟩ := h))) (fun cdv A outer s H vs Q E hr h => ?_)
  obtain ⟨fa, ba, rd, sl, kd, us, far, back, rows, ss, rfl, ⟨gF, gB, n, ur, gv, ws, D, R, fit, hsl, hws, hlt⟩, ⟨gF', hdm⟩, nfr, harc, hsta, q⟩ := h
  refine ⟨_, (pss_cons (ps_for PassesOwn.never rfl (pi_list (pv 2)) (pg_name (i := 3) sc.nd rfl (Or.inl rfl))
  (pss_one (ps_if (pw_or (pt_cmp (pc_dnotin (Room.one hr) (pe_ix ix_tup (pv 3) pe_int (fun _ _ => rfl)) (pv 0))) (pw_or1 (pt_cmpR op_gt (pe_dget (Room.one hr) (pv 0) (pe_ix ix_tup (pv 3) pe_int (fun _ _ => rfl)) (fun _ _ => rfl)) (pe_ix ix_tup (pv 3) pe_int (fun _ _ => rfl)) (nomark _)))).pt
  (pss_one (ps_ret pe_bl))
  pss_nil)))
  (pss_cons (ps_frz (ps_for PassesOwn.never rfl (pi_keys (pv 0)) (pg_name (i := 4) sc.nd rfl (Or.inl rfl))
  (pss_cons (ps_if (pt_not (pt_val (pe_cal gNum (hr.mono (by decide)) (by rfl) (pa_cons (pe_dget (Room.one hr) (pv 0) (pv 4) (fun _ _ => rfl)) pa_nil))))
  (pss_one (ps_ret pe_bl))
  pss_nil)
  (pss_one (ps_for PassesOwn.never rfl (pi_list (pe_bm PySem.F.plainAttrs_dict PySem.F.slot_dict_get PySem.F.type_dict_get (mt_getT hr) (pv 1) (pa_cons (pv 4) (pa_cons (pe_lst pa_nil) pa_nil)))) (pg_name (i := 5) sc.nd rfl (Or.inl rfl))
  (pss_one (ps_if (pw_or (pt_cmp (pc_dnotin (Room.one hr) (pe_ix ix_tup (pv 5) pe_int (fun _ _ => rfl)) (pv 0))) (pw_or1 (pt_cmpR op_gt (pe_dget (Room.one hr) (pv 0) (pe_ix ix_tup (pv 5) pe_int (fun _ _ => rfl)) (fun _ _ => rfl)) (pe_op op_add (pe_dget (Room.one hr) (pv 0) (pv 4) (fun _ _ => rfl)) (pe_ix ix_tup (pv 5) pe_int (fun _ _ => rfl))) (nomark _)))).pt
  (pss_one (ps_ret pe_bl))
  pss_nil)))))))
  (pss_one (ps_ret pe_bl)))), ?_⟩
  have gf : ∀ {H' : Hp} {m : V} {j : Nat} {p : Int}, DMr H' fa kd us gF → Mk H' kd m j → far j = some p → DGet H' fa m (some (.int p)) := fun {H' m j p} h hm hp => by
    have := dm_get h hm
    rw [D.fr j hm.1, hp] at this
    exact this
  have hwl := hws.length
  refine ⟨_, rfl, sl, rfl, ⟨_, hsl⟩, for_list (K := K) (a := sl) (xs := ws) (fun i σ H' => ∃ x3 : Option V, σ = [some (.ref fa), some (.ref rd), some (.ref sl), x3, none, none] ∧ H' = H) ⟨none, rfl, rfl⟩ (fun i σ H' _ ⟨_, _, e⟩ => e ▸ hsl) ?_ ?_⟩
  · rintro i y σ H' hi ⟨x3, rfl, rfl⟩
    obtain ⟨pr, a, m, ep, rfl, h1, h2⟩ := hws.at hi
    obtain ⟨qq, hq1, hq2⟩ := hsta pr (List.mem_of_getElem? ep)
    have g := gf D.fd h2 hq1
    refine gn ?_
    have k0 : atI [m, V.int pr.2] 0 = some m := rfl
    have k1 : atI [m, V.int pr.2] 1 = some (.int pr.2) := rfl
    refine rd_ifF (et_of (et_or (et_test (ev_dnotin (ev_ixT (ev_var rfl) ev_c (SqT.of h1) k0) (ev_var rfl) g)) fun _ => et_test (ev_I0 (ev_dget (ev_var rfl) (ev_ixT (ev_var rfl) ev_c (SqT.of h1) k0) g) (ev_ixT (ev_var rfl) ev_c (SqT.of h1) k1))) (c := false) ?_) rfl ⟨_, rfl, rfl⟩
    have : ¬ pr.2 < qq := by omega
    simp [this]
  rintro σ H' ⟨x3, rfl, rfl⟩
  refine st ?_
  obtain ⟨u, hu, mu, du, hsz, hfr, hkey⟩ := dm_raw hdm
  refine ⟨fa, u, hu, mu, fun o => ?_⟩
  have sf : ∀ b x, b ≠ fa → H' b = some x → upd H' fa (.frz o u) b = some x := fun b x hb e => by rw [upd_ne hb]; exact e
  have ef : upd H' fa (.frz o u) fa = some (.frz o u) := upd_same
  have back' : ∀ {H2 : Hp}, Same (upd H' fa (.frz o u)) H2 → Same H' (upd H2 fa u) := fun s b x e => by
    by_cases hb : b = fa
    · subst hb; rw [hu] at e; cases e; exact upd_same
    · rw [upd_ne hb]; exact s _ _ (sf b x hb e)
  have RF : RowsAt (upd H' fa (.frz o u)) rd kd ur gv rows := R.frz hu du nfr sf
  have DF : DMr (upd H' fa (.frz o u)) fa kd us gF := by
    obtain ⟨u2, hu2, _, _, _, hfr2, _⟩ := dm_raw (show DM H' fa kd us gF from by
      refine D.fd.mono fun x e => ?_
      rcases e with e | ⟨o2, e⟩
      · exact e
      · rw [hu] at e; cases e; exact du.elim)
    rw [hu] at hu2; cases hu2
    exact hfr2 _ o ef
  revert sf ef back' RF DF
  generalize upd H' fa (.frz o u) = HF
  intro sf ef back' RF DF
  refine ⟨_, rfl, fa, o, u, rfl, ef, du, for_keys (u := u) (fun i σ H2 => ∃ x4 x5 : Option V, σ = [some (.ref fa), some (.ref rd), some (.ref sl), x3, x4, x5] ∧ Same HF H2) ⟨none, none, rfl, Same.refl _⟩ (fun i σ H2 _ ⟨_, _, _, s⟩ => s _ _ ef) ?_ ?_⟩
  · rintro i x v σ H2 hka hi ⟨x4, x5, rfl, s2⟩
    obtain ⟨k, hk1, hk2, hk3⟩ := hkey H2 i x v hka
    have M : Mk H2 kd x k := ⟨hk2, hk3⟩
    refine gn ?_
    have D2 : DMr H2 fa kd us gF := dmr_same DF fun o e => s2 _ _ e
    have R2 := RF.same s2
    obtain ⟨p, hp⟩ : ∃ p, far k = some p := by
      have := DMx.dom D.fd hk2
      rw [decide_eq_true (List.mem_of_getElem? hk1), D.fr k hk2, Option.isSome_map] at this
      exact Option.isSome_iff_exists.mp this
    refine sq_ifF (et_not (et_B (ev_call (ea_cons (ev_dget (ev_var rfl) (ev_var rfl) (gf D2 M hp)) ea_nil) fun Q' q' => ⟨p, rfl, q'⟩))) rfl ?_
    refine ⟨_, rfl, dm_ty R2.dm, _, rfl, Nat.zero_le _, fun el nel => ?_⟩
    have s3 : Same H2 (upd H2 el (.lst [])) := (Same.refl H2).upd nel
    have eel : upd H2 el (.lst []) el = some (.lst []) := upd_same
    revert s3 eel
    generalize upd H2 el (.lst []) = H3
    intro s3 eel
    have R3 := R2.same s3
    have M3 := M.kept (same_tk s3)
    have D3 : DMr H3 fa kd us gF := dmr_same D2 fun o e => s3 _ _ e
    refine ⟨rd, x, .ref el, gv k, rfl, rfl, dm_get (dm_r R3.dm) M3, ?_⟩
    obtain ⟨l, vs, hgl, hl, hvs⟩ : ∃ (l : Addr) (vs : List V), (gv k).getD (.ref el) = .ref l ∧ H3 l = some (.lst vs) ∧ MPs H3 kd vs (rows k) := by
      cases eg : gv k with
      | none => exact ⟨el, [], rfl, eel, by rw [R.no k hk2 eg]; exact .nil⟩
      | some y =>
        obtain ⟨l, vs, rfl, e5, e6⟩ := R3.ye k y hk2 eg
        exact ⟨l, vs, rfl, e5, e6⟩
    rw [hgl]
    refine ⟨l, rfl, ⟨_, SqL.of hl⟩, for_list (K := K) (a := l) (xs := vs) (fun j σ H' => ∃ x5 : Option V, σ = [some (.ref fa), some (.ref rd), some (.ref sl), x3, some x, x5] ∧ H' = H3) ⟨_, rfl, rfl⟩ (fun j σ H' _ ⟨_, _, e⟩ => e ▸ SqL.of hl) ?_ ?_⟩
    · rintro j y σ H4 hj ⟨x5, rfl, rfl⟩
      obtain ⟨ar, a, m, ep, rfl, h1, h2⟩ := hvs.at hj
      obtain ⟨qq, hq1, hq2⟩ := harc k p hp ar (List.mem_of_getElem? ep)
      have g := gf D3 h2 hq1
      refine gn ?_
      have k0 : atI [m, V.int ar.2] 0 = some m := rfl
      have k1 : atI [m, V.int ar.2] 1 = some (.int ar.2) := rfl
      refine rd_ifF (et_of (et_or (et_test (ev_dnotin (ev_ixT (ev_var rfl) ev_c (SqT.of h1) k0) (ev_var rfl) g)) fun _ => et_test (ev_I0 (ev_dget (ev_var rfl) (ev_ixT (ev_var rfl) ev_c (SqT.of h1) k0) g) (ev_I0 (ev_dget (ev_var rfl) (ev_var rfl) (gf D3 M3 hp)) (ev_ixT (ev_var rfl) ev_c (SqT.of h1) k1)))) (c := false) ?_) rfl ⟨_, rfl, rfl⟩
      have : ¬ p + ar.2 < qq := by omega
      simp [this]
    · rintro σ H4 ⟨x5, rfl, rfl⟩
      exact ⟨_, _, rfl, s2.trans s3⟩
  · rintro σ H2 ⟨x4, x5, rfl, s2⟩
    exact ⟨s2 _ _ ef, q _ (back' s2)⟩
theorem ok_Spread {cHeap cWireError cNothingLeft : Addr} {f : Addr} {fd : FuncData} (F : Fun K "spread" "spread" sSpread f fd) (T : Txt K mg cHeap cWireError cNothingLeft) (gInit : KCallee P w K mg base cHeap "Heap" 1 ["self"] (spInit cHeap)) (gMany : MCallee P w K mg base cHeap "many" 1 ["self"] (spMany cHeap)) (gAdd : MCallee P w K mg base cHeap "add" 1 ["self", "price", "mark"] (spAdd cHeap)) (gTake : MCalleeX P w K mg base cHeap "take" 2 ["self"] (spTake cHeap cNothingLeft)) : FnOk P w K mg base CX0 3 f fd ["arcs", "starts"] (spSpread mg) := by
  have sc : FnScope ["arcs", "starts", "far", "back", "heap", "mark", "price", "other", "more"] ["arcs", "starts"] (defScope sSpread) := ⟨rfl, rfl, rfl, by decide +kernel, rfl, by decide +kernel, by decide +kernel⟩
  refine F.ok sc (fun vs H Q E h => by repeat (first | (obtain ⟨rfl, _⟩ := h; rfl) | (obtain ⟨_, h⟩ := h))) (fun cdv A outer s H vs Q E hr h => ?_)
  obtain ⟨f0, st0, kd, n, rows, fit, ws, ss, rfl, af, hn12, htot, hst, hws, hsl, hslt, q⟩ := h
  refine ⟨_, (pss_cons (ps_set (i := 2) sc.nd rfl (Or.inl rfl) pe_dnewE)
  (pss_cons (ps_set (i := 3) sc.nd rfl (Or.inl rfl) pe_dnewE)
  (pss_cons (ps_set (i := 4) sc.nd rfl (Or.inl rfl) (pe_mk0 gInit (hr.mono (by decide)) (by rfl)))
  (pss_cons (ps_for PassesOwn.never rfl (pi_list (pv 1)) (pg_tup rfl (pgs_cons (pg_name (i := 5) sc.nd rfl (Or.inl rfl)) (pgs_cons (pg_name (i := 6) sc.nd rfl (Or.inl rfl)) pgs_nil)))
  (pss_one (ps_if (pw_or (pt_cmp (pc_dnotin (Room.one hr) (pv 5) (pv 2))) (pw_or1 (pt_cmpR op_lt (pv 6) (pe_dget (Room.one hr) (pv 2) (pv 5) (fun _ _ => rfl)) (nomark _)))).pt
  (pss_cons (ps_dput (Room.one hr) (pv 2) (pv 5) (pv 6) (by rfl))
  (pss_cons (ps_dput (Room.one hr) (pv 3) (pv 5) pe_non (by rfl))
  (pss_one (ps_expr (pe_met (pv 4) T.cl_Heap gAdd (hr.mono (by decide)) (pa_cons (pv 6) (pa_cons (pv 5) pa_nil)))))))
  pss_nil)))
  (pss_cons (ps_while PassesOwn.never (pt_cmpR op_gt (pe_met0 (pv 4) T.cl_Heap gMany (hr.mono (by decide))) pe_int (nomark _))
  (pss_cons (ps_asg (pe_metX0 (pv 4) T.cl_Heap gTake (hr.mono (by decide)) comesF) (pg_tup rfl (pgs_cons (pg_name (i := 6) sc.nd rfl (Or.inl rfl)) (pgs_cons (pg_name (i := 5) sc.nd rfl (Or.inl rfl)) pgs_nil))))
  (pss_one (ps_if (pt_cmpR op_eq (pv 6) (pe_dget (Room.one hr) (pv 2) (pv 5) (fun _ _ => rfl)) (nomark _))
  (pss_one (ps_for PassesOwn.never rfl (pi_list (pe_callV (r := rArc mg K) (pv 0) (lamCall T (hr.mono (by decide))) (pa_cons (pv 5) pa_nil))) (pg_tup rfl (pgs_cons (pg_name (i := 7) sc.nd rfl (Or.inl rfl)) (pgs_cons (pg_name (i := 8) sc.nd rfl (Or.inl rfl)) pgs_nil)))
  (pss_one (ps_if (pw_or (pt_cmp (pc_dnotin (Room.one hr) (pv 7) (pv 2))) (pw_or1 (pt_cmpR op_lt (pe_op op_add (pv 6) (pv 8)) (pe_dget (Room.one hr) (pv 2) (pv 7) (fun _ _ => rfl)) (nomark _)))).pt
  (pss_cons (ps_dput (Room.one hr) (pv 2) (pv 7) (pe_op op_add (pv 6) (pv 8)) (by rfl))
  (pss_cons (ps_dput (Room.one hr) (pv 3) (pv 7) (pv 5) (by rfl))
  (pss_one (ps_expr (pe_met (pv 4) T.cl_Heap gAdd (hr.mono (by decide)) (pa_cons (pe_op op_add (pv 6) (pv 8)) (pa_cons (pv 7) pa_nil)))))))
  pss_nil))))
  pss_nil))))
  (pss_one (ps_ret (pe_tup (pa_cons (pv 2) (pa_cons (pv 3) pa_nil)))))))))), ?_⟩
  have hwl := hws.length
  refine sq_dnew kd fun fa ob1 nfa hd1 mu1 => ?_
  have s1 : Same H (upd H fa ob1) := (Same.refl H).upd nfa
  revert s1 hd1
  generalize upd H fa ob1 = H1
  intro hd1 s1
  refine sq_dnew kd fun ba ob2 nba hd2 mu2 => ?_
  obtain ⟨uf, huf, _, duf, _⟩ := dm_raw hd1
  have nfb : fa ≠ ba := ne_of_none huf nba
  have s2 : Same H1 (upd H1 ba ob2) := (Same.refl H1).upd nba
  revert s2 hd2
  generalize upd H1 ba ob2 = H2
  intro hd2 s2
  refine sq_asg fun p dx np ndx hdx => ⟨p, dx, rfl, upd_same, fun a H3 na hA bu => ⟨rfl, ?_⟩⟩
  have sb : Same H2 (upd (upd H2 dx (.own p)) p (.ins cHeap dx [])) := ((Same.refl H2).upd ndx).upd (by rw [upd_ne (Ne.symm hdx)]; exact np)
  have s3 : Same H2 H3 := fun b o e => bu b o (sb _ _ e) (ne_of_none e np) (ne_of_none (sb _ _ e) na)
  have na' : H2 a = none := by
    cases e : H2 a with
    | none => rfl
    | some o => rw [sb _ _ e] at na; cases na
  have s13 := (s1.trans s2).trans s3
  have nH : ∀ {b : Addr}, H2 b = none → H b = none := fun e => (s1.trans s2).free e
  have S0 : SS cHeap H H3 fa ba p a kd n [] (fun _ => none) (fun _ => none) (fun _ => none) (fun _ => none) [] [] [] :=
    ⟨s13, dm_same hd1 fun o e => (s2.trans s3) _ _ e, dm_same hd2 fun o e => s3 _ _ e, fun _ _ => rfl, fun _ _ => ⟨fun _ => rfl, (fun z => nomatch z), (fun _ z => nomatch z)⟩, List.nodup_nil, (fun _ h => nomatch h), fun _ _ => ⟨rfl, rfl⟩, hA, KsH.nil _ _, (fun i _ hi => absurd hi (Nat.not_lt_zero _)), List.Perm.refl _, (fun _ h => nomatch h), nfb, nfa, s1.free nba, nH np, nH na'⟩
  show tSeq _ _ _ _ _
  refine ⟨_, rfl, st0, rfl, ⟨_, SqL.of (s13 _ _ hst)⟩, for_list (K := K) (a := st0) (xs := ws) (fun i σ H' => ∃ (us : List Nat) (gF gB : Nat → Option V) (far : Dj.Far) (back : Dj.Back) (vs : List V) (ks : List (List Int)) (hq : List (Int × Nat)) (x5 x6 : Option V),
      σ = [some (.ref f0), some (.ref st0), some (.ref fa), some (.ref ba), some (.ref p), x5, x6, none, none] ∧ SS cHeap H H' fa ba p a kd n us gF gB far back vs ks hq ∧ Dj.St (ss.take i) far back hq ∧ hq.length ≤ i)
    ⟨[], _, _, _, _, [], [], [], none, none, rfl, S0, ⟨(fun _ _ z => nomatch z), (fun _ _ z => nomatch z), fun _ => rfl, (fun _ _ z => nomatch z), (fun _ z => nomatch z)⟩, Nat.le_refl _⟩ (fun i σ H' _ ⟨_, _, _, _, _, _, _, _, _, _, _, S, _⟩ => SqL.of (S.sm _ _ hst)) ?_ ?_⟩
  · rintro i y σ H' hi ⟨us, gF, gB, far, back, vs, ks, hq, x5, x6, rfl, S, D, hql⟩
    obtain ⟨⟨o, w1⟩, ad, m, ep, rfl, h1, h2⟩ := (hws.kept (same_tk S.sm)).at hi
    have htk : ss.take (i + 1) = ss.take i ++ [(o, w1)] := by rw [List.take_succ, ep]; rfl
    have hi5 : i < 5 := by have := (List.getElem?_eq_some_iff.mp ep).1; omega
    have hon := hslt _ (List.mem_of_getElem? ep)
    have hvl := S.len
    have h1 : H' ad = some (.tup [m, .int w1]) := h1
    have h2 : Mk H' kd m o := h2
    refine ⟨ad, _, rfl, SqT.of h1, rfl, _, _, rfl, _, _, rfl, rfl, ?_⟩
    have g := dm_get (dm_r S.fd) h2
    rw [S.fr o h2.1] at g
    have go : (∀ qv, far o = some qv → w1 < qv) → ∀ {D0 : Ends}, (∀ σ H', (∃ (us : List Nat) (gF gB : Nat → Option V) (far : Dj.Far) (back : Dj.Back) (vs : List V) (ks : List (List Int)) (hq : List (Int × Nat)) (x5 x6 : Option V),
      σ = [some (.ref f0), some (.ref st0), some (.ref fa), some (.ref ba), some (.ref p), x5, x6, none, none] ∧ SS cHeap H H' fa ba p a kd n us gF gB far back vs ks hq ∧ Dj.St (ss.take (i + 1)) far back hq ∧ hq.length ≤ i + 1) → D0.nx σ H') →
      tSeq (sDPut (tVar 2) (tVar 5) (tVar 6)) (tSeq (sDPut (tVar 3) (tVar 5) (tC .non)) (tDrop (tMeth cHeap "add" (spAdd cHeap) [] E0 (tVar 4) (tCons (tVar 6) (tCons (tVar 5) tNil))))) D0 [some (.ref f0), some (.ref st0), some (.ref fa), some (.ref ba), some (.ref p), some m, some (.int w1), none, none] H' := fun hlt D0 hD0 => by
      obtain ⟨H4, H5, gF', gB', p1, p2, hA5, hk5, hm5, tk4, tk5, k5, nx⟩ := S.relax hn12 (bb := none) (bv := .non) w1 h2 hon (.inl ⟨rfl, rfl⟩)
      refine sq_dput (ev_var rfl) (ev_var rfl) (ev_var rfl) p1 ?_
      refine sq_dput ev_c (ev_var rfl) (ev_var rfl) p2 ?_
      obtain ⟨dx5, hp5⟩ := hA5.ob
      refine ⟨_, rfl, p, dx5, _, rfl, hp5, rfl, _, rfl, _, rfl, p, a, kd, vs, ks, w1, m, mkL kd o, rfl, hA5, hk5, S.ok, hm5, by omega, fun H' vs' ks' q1 q2 q3 q4 q5 => ?_⟩
      refine hD0 _ _ ⟨_, _, _, _, _, _, _, _, _, _, rfl, nx H' vs' ks' q1 q2 q3 q4 q5, ?_, by rw [List.length_cons]; omega⟩
      rw [htk]
      exact D.more hlt fun z => by rw [List.mem_cons]
    cases hfo : far o with
    | none =>
      rw [hfo] at g
      refine rd_ifT (et_or (b := true) (et_test (ev_dnotin (ev_var rfl) (ev_var rfl) g)) fun e => nomatch e) rfl ?_
      exact go (fun qv z => by rw [hfo] at z; cases z) fun _ _ z => z
    | some qv =>
      rw [hfo] at g
      refine rd_if (et_or (et_test (ev_dnotin (ev_var rfl) (ev_var rfl) g)) fun _ => et_test (ev_I0 (ev_var rfl) (ev_dget (ev_var rfl) (ev_var rfl) g))) (fun e => ?_) (fun e => ?_)
      · have hlt : w1 < qv := by simpa using e
        exact go (fun qv' z => by rw [hfo] at z; cases z; exact hlt) fun _ _ z => z
      · have hlt : ¬ w1 < qv := by simpa using e
        refine ⟨us, gF, gB, far, back, vs, ks, hq, _, _, rfl, S, ?_, by omega⟩
        rw [htk]
        exact D.skip hfo hlt
  rintro σ H' ⟨us, gF, gB, far, back, vs, ks, hq, x5, x6, rfl, S, D, hql⟩
  rw [hwl, List.take_length] at D
  have hss : hq.length ≤ 5 := by omega
  obtain ⟨c0, M0⟩ := Dj.St.mid (g := ⟨rows, ss, fit.nn⟩) D
  refine st ?_
  have hbud0 : Dj.bud ⟨rows, ss, fit.nn⟩ n [] = total rows n := by
    unfold Dj.bud total
    congr 1
    exact List.filter_eq_self.mpr fun k _ => by simp
  refine sq_while (fun b σ H' => ∃ (us : List Nat) (gF gB : Nat → Option V) (far : Dj.Far) (back : Dj.Back) (vs : List V) (ks : List (List Int)) (hq : List (Int × Nat)) (dn : List Nat) (cur : Int) (x5 x6 x7 x8 : Option V),
      σ = [some (.ref f0), some (.ref st0), some (.ref fa), some (.ref ba), some (.ref p), x5, x6, x7, x8] ∧ SS cHeap H H' fa ba p a kd n us gF gB far back vs ks hq ∧ Dj.Mid ⟨rows, ss, fit.nn⟩ far back hq dn cur none ∧ b = hq.length + Dj.bud ⟨rows, ss, fit.nn⟩ n dn ∧ b ≤ 68)
    ⟨_, us, gF, gB, far, back, vs, ks, hq, [], c0, x5, x6, none, none, rfl, S, M0, rfl, by rw [hbud0]; omega⟩ ?_
  rintro b σ H' ⟨us, gF, gB, far, back, vs, ks, hq, dn, cur, x5, x6, x7, x8, rfl, S, M, rfl, hb68⟩
  have hvl := S.len
  obtain ⟨dxp, hpo⟩ := S.ha.ob
  have many : ∀ {σ : St} {te : TE}, Ev te σ H' (.ref p) → Ev (tMeth cHeap "many" (spMany cHeap) [] E0 te tNil) σ H' (.int (vs.length : Nat)) := fun h Q' q' => h _ ⟨p, dxp, _, rfl, hpo, rfl, p, a, vs, rfl, S.ha, q'⟩
  refine ⟨_, et_test (ev_I0 (many (ev_var rfl)) ev_c), fun hb N hN => ?_, fun hb => ?_⟩
  · have hb' : (0 : Int) < ((vs.length : Nat) : Int) := of_decide_eq_true hb
    have hne : vs ≠ [] := fun z => by rw [z] at hb'; exact absurd hb' (by decide)
    refine ⟨_, rfl, p, dxp, _, rfl, hpo, rfl, p, a, kd, vs, ks, rfl, S.ha, S.kh, S.ok, by omega, (fun z => absurd z hne), fun _ v k H2 vs2 ks2 hpr hA2 hk2 hok2 pk hmin bu2 => ?_⟩
    obtain ⟨pr, m, rfl, hin, pm2, hh, hle, hlen⟩ := take_min S.pm pk hmin
    have hmn := S.hl _ hin
    have tk2 : TK H' H2 := bu2.tk hpo S.ha.ls
    obtain ⟨uf, huf, _, duf, _⟩ := dm_raw S.fd
    obtain ⟨ub, hub, _, dub, _⟩ := dm_raw S.bd
    have nd' : ∀ {b : Addr} {x : HO} {d : Addr} {u : HO}, H' d = some u → DictU u → H' b = some x → ¬ DictU x → d ≠ b := fun hu du e nx z => by rw [← z, hu] at e; cases e; exact nx du
    have S2 : SS cHeap H H2 fa ba p a kd n us gF gB far back vs2 ks2 (hq.erase (pr, m)) :=
      ⟨fun b x e => bu2 b x (S.sm _ _ e) (ne_of_none e S.n3) (ne_of_none e S.n4), dm_same S.fd fun x e => bu2 _ _ e (nd' huf duf hpo (fun z => z)) (nd' huf duf S.ha.ls (fun z => z)), dm_same S.bd fun x e => bu2 _ _ e (nd' hub dub hpo (fun z => z)) (nd' hub dub S.ha.ls (fun z => z)),
        S.fr, S.br.kept tk2, S.nd, S.lt, S.out, hA2, hk2, hok2, pm2, fun z hz => S.hl z (List.mem_of_mem_erase hz), S.ne, S.n1, S.n2, S.n3, S.n4⟩
    obtain ⟨av, pr', mv, l, rfl, hav, hml, hkey⟩ := hpr
    have hkey : pr :: mkL kd m = pr' :: l := hkey
    injection hkey with hk1 hk2'
    subst hk1
    have Mv : Mk H2 kd mv m := ⟨by omega, by rw [hk2']; exact hml⟩
    refine ⟨av, _, rfl, SqT.of hav, rfl, _, _, rfl, _, _, rfl, rfl, ?_⟩
    obtain ⟨fq, hfq, _⟩ := M.low pr m hin
    have g := dm_get (dm_r S2.fd) Mv
    rw [S2.fr m Mv.1, hfq] at g
    refine rd_if (et_test (ev_eqI (ev_var rfl) (ev_dget (ev_var rfl) (ev_var rfl) g))) (fun e => ?_) (fun e => ?_)
    · have hfp : far m = some pr := by
        have : pr = fq := by simpa using e
        rw [this]; exact hfq
      have af2 := af.same S2.sm
      obtain ⟨c, c', ctv, oc, oo, rd, ur, gv, hf0, _⟩ := id af2
      refine ⟨_, rfl, f0, _, _, rfl, rfl, _, rfl, hf0, ?_⟩
      refine arc_call (K := K) af2 Mv fun l vs3 H3 s3 nl hl3 hv3 => ?_
      have S3 := S2.grow s3
      have hla : l ≠ a := fun z => by rw [z, S2.ha.ls] at nl; cases nl
      have hv3l := hv3.length
      by_cases hdn : m ∈ dn
      · -- come to already: nothing is made cheaper
        have M3 := M.drop hh hle (.inr hdn)
        refine ⟨l, rfl, ⟨_, SqL.of hl3⟩, for_list (K := K) (a := l) (xs := vs3) (fun j σ H' => ∃ x7 x8 : Option V, σ = [some (.ref f0), some (.ref st0), some (.ref fa), some (.ref ba), some (.ref p), some mv, some (.int pr), x7, x8] ∧ H' = H3) ⟨_, _, rfl, rfl⟩ (fun j σ H' _ ⟨_, _, _, e⟩ => e ▸ SqL.of hl3) ?_ ?_⟩
        · rintro j y σ H4 hj ⟨x7, x8, rfl, rfl⟩
          obtain ⟨⟨o, w1⟩, ad, mo, ep, rfl, h1, h2⟩ := hv3.at hj
          obtain ⟨qq, hq1, hq2⟩ := M.arcs m hdn pr hfp (fun _ z => nomatch z) (o, w1) (List.mem_of_getElem? ep)
          have h1 : H4 ad = some (.tup [mo, .int w1]) := h1
          have h2 : Mk H4 kd mo o := h2
          have hq2 : qq ≤ pr + w1 := hq2
          refine ⟨ad, _, rfl, SqT.of h1, rfl, _, _, rfl, _, _, rfl, rfl, ?_⟩
          have g := dm_get (dm_r S3.fd) h2
          rw [S3.fr o h2.1, show far o = some qq from hq1] at g
          refine rd_ifF (et_of (et_or (et_test (ev_dnotin (ev_var rfl) (ev_var rfl) g)) fun _ => et_test (ev_I0 (ev_I0 (ev_var rfl) (ev_var rfl)) (ev_dget (ev_var rfl) (ev_var rfl) g))) (c := false) ?_) rfl ⟨_, _, rfl, rfl⟩
          have : ¬ pr + w1 < qq := by omega
          simp [this]
        · rintro σ H4 ⟨x7, x8, rfl, rfl⟩
          exact hN _ _ _ (by omega) ⟨us, gF, gB, far, back, vs2, ks2, _, dn, pr, _, _, _, _, rfl, S3, M3, rfl, by omega⟩
      · have M3 := M.take hh hle hfp hdn
        have hbud := Dj.bud_cons (g := ⟨rows, ss, fit.nn⟩) (dn := dn) hmn hdn
        have hbud : Dj.bud ⟨rows, ss, fit.nn⟩ n (m :: dn) + (rows m).length = Dj.bud ⟨rows, ss, fit.nn⟩ n dn := hbud
        refine ⟨l, rfl, ⟨_, SqL.of hl3⟩, for_list (K := K) (a := l) (xs := vs3) (fun j σ H' => ∃ (us : List Nat) (gF gB : Nat → Option V) (far : Dj.Far) (back : Dj.Back) (vs : List V) (ks : List (List Int)) (hq' : List (Int × Nat)) (x7 x8 : Option V),
            σ = [some (.ref f0), some (.ref st0), some (.ref fa), some (.ref ba), some (.ref p), some mv, some (.int pr), x7, x8] ∧ SS cHeap H H' fa ba p a kd n us gF gB far back vs ks hq' ∧ Dj.Mid ⟨rows, ss, fit.nn⟩ far back hq' (m :: dn) pr (some (m, (rows m).take j)) ∧ hq'.length ≤ (hq.erase (pr, m)).length + j ∧ H' l = some (.lst vs3) ∧ MPs H' kd vs3 (rows m) ∧ Mk H' kd mv m)
          ⟨us, gF, gB, far, back, vs2, ks2, _, _, _, rfl, S3, by rw [List.take_zero]; exact M3, Nat.le_refl _, hl3, hv3, Mv.kept (same_tk s3)⟩ (fun j σ H' _ ⟨_, _, _, _, _, _, _, _, _, _, _, _, _, _, e, _⟩ => SqL.of e) ?_ ?_⟩
        · rintro j y σ H4 hj ⟨us, gF, gB, far, back, vs, ks, hq', x7, x8, rfl, S4, M4, hql4, hl4, hv4, Mv4⟩
          obtain ⟨⟨o, w1⟩, ad, mo, ep, rfl, h1, h2⟩ := hv4.at hj
          have h1 : H4 ad = some (.tup [mo, .int w1]) := h1
          have h2 : Mk H4 kd mo o := h2
          have har := List.mem_of_getElem? ep
          have hon : o < n := fit.lt m _ har
          have htk : (rows m).take (j + 1) = (rows m).take j ++ [(o, w1)] := by rw [List.take_succ, ep]; rfl
          have hjl : j < (rows m).length := (List.getElem?_eq_some_iff.mp ep).1
          have hvl4 := S4.len
          refine ⟨ad, _, rfl, SqT.of h1, rfl, _, _, rfl, _, _, rfl, rfl, ?_⟩
          have g := dm_get (dm_r S4.fd) h2
          rw [S4.fr o h2.1] at g
          have go : (∀ qv, far o = some qv → pr + w1 < qv) → ∀ {D0 : Ends}, (∀ σ H', (∃ (us : List Nat) (gF gB : Nat → Option V) (far : Dj.Far) (back : Dj.Back) (vs : List V) (ks : List (List Int)) (hq' : List (Int × Nat)) (x7 x8 : Option V),
            σ = [some (.ref f0), some (.ref st0), some (.ref fa), some (.ref ba), some (.ref p), some mv, some (.int pr), x7, x8] ∧ SS cHeap H H' fa ba p a kd n us gF gB far back vs ks hq' ∧ Dj.Mid ⟨rows, ss, fit.nn⟩ far back hq' (m :: dn) pr (some (m, (rows m).take (j + 1))) ∧ hq'.length ≤ (hq.erase (pr, m)).length + (j + 1) ∧ H' l = some (.lst vs3) ∧ MPs H' kd vs3 (rows m) ∧ Mk H' kd mv m) → D0.nx σ H') →
            tSeq (sDPut (tVar 2) (tVar 7) (tOp (rI0 fun i j => V.int (i + j)) (tVar 6) (tVar 8))) (tSeq (sDPut (tVar 3) (tVar 7) (tVar 5)) (tDrop (tMeth cHeap "add" (spAdd cHeap) [] E0 (tVar 4) (tCons (tOp (rI0 fun i j => V.int (i + j)) (tVar 6) (tVar 8)) (tCons (tVar 7) tNil))))) D0
              [some (.ref f0), some (.ref st0), some (.ref fa), some (.ref ba), some (.ref p), some mv, some (.int pr), some mo, some (.int w1)] H4 := fun hlt D0 hD0 => by
            obtain ⟨H5, H6, gF', gB', p1, p2, hA6, hk6, hm6, tk5, tk6, k6, nx⟩ := S4.relax hn12 (bb := some m) (bv := mv) (pr + w1) h2 hon (.inr ⟨m, rfl, Mv4⟩)
            refine sq_dput (ev_I0 (ev_var rfl) (ev_var rfl)) (ev_var rfl) (ev_var rfl) p1 ?_
            refine sq_dput (ev_var rfl) (ev_var rfl) (ev_var rfl) p2 ?_
            obtain ⟨dx6, hp6⟩ := hA6.ob
            refine ⟨_, rfl, p, dx6, _, rfl, hp6, rfl, _, rfl, _, rfl, _, _, rfl, rfl, _, rfl, p, a, kd, vs, ks, pr + w1, mo, mkL kd o, rfl, hA6, hk6, S4.ok, hm6, by omega, fun H' vs' ks' q1 q2 q3 q4 q5 => ?_⟩
            have tk7 : TK H6 H' := q5.tk hp6 hA6.ls
            have nl3 : ∀ {b : Addr}, H b ≠ none → True := fun _ => trivial
            obtain ⟨uf, huf, _, duf, _⟩ := dm_raw S4.fd
            obtain ⟨ub, hub, _, dub, _⟩ := dm_raw S4.bd
            obtain ⟨dx4, hp4⟩ := S4.ha.ob
            have hl' : H' l = some (.lst vs3) := q5 _ _ (k6 _ _ (fun z => by rw [z, huf] at hl4; cases hl4; exact duf.elim) (fun z => by rw [z, hub] at hl4; cases hl4; exact dub.elim) hl4) (fun z => by rw [z, hp4] at hl4; cases hl4) hla
            refine hD0 _ _ ⟨_, _, _, _, _, _, _, _, _, _, rfl, nx H' vs' ks' q1 q2 q3 q4 q5, ?_, by rw [List.length_cons]; omega, hl', (hv4.kept tk6).kept tk7, (Mv4.kept tk6).kept tk7⟩
            rw [htk]
            exact M4.more har hlt fun z => by rw [List.mem_cons]
          cases hfo : far o with
          | none =>
            rw [hfo] at g
            refine rd_ifT (et_or (b := true) (et_test (ev_dnotin (ev_var rfl) (ev_var rfl) g)) fun e => nomatch e) rfl ?_
            exact go (fun qv z => by rw [hfo] at z; cases z) fun _ _ z => z
          | some qv =>
            rw [hfo] at g
            refine rd_if (et_or (et_test (ev_dnotin (ev_var rfl) (ev_var rfl) g)) fun _ => et_test (ev_I0 (ev_I0 (ev_var rfl) (ev_var rfl)) (ev_dget (ev_var rfl) (ev_var rfl) g))) (fun e => ?_) (fun e => ?_)
            · have hlt : pr + w1 < qv := by simpa using e
              exact go (fun qv' z => by rw [hfo] at z; cases z; exact hlt) fun _ _ z => z
            · have hlt : ¬ pr + w1 < qv := by simpa using e
              refine ⟨us, gF, gB, far, back, vs, ks, hq', _, _, rfl, S4, ?_, by omega, hl4, hv4, Mv4⟩
              rw [htk]
              exact M4.skip har hfo hlt
        · rintro σ H4 ⟨us, gF, gB, far, back, vs, ks, hq', x7, x8, rfl, S4, M4, hql4, hl4, hv4, Mv4⟩
          rw [hv3l, List.take_length] at M4
          rw [hv3l] at hql4
          exact hN _ _ _ (by omega) ⟨us, gF, gB, far, back, vs, ks, hq', m :: dn, pr, _, _, _, _, rfl, S4, M4.end, rfl, by omega⟩
    · have hfp : far m ≠ some pr := fun z => by
        rw [hfq] at z; cases z
        simp at e
      have M3 := M.drop hh hle (.inl hfp)
      exact hN _ _ _ (by omega) ⟨us, gF, gB, far, back, vs2, ks2, _, dn, pr, _, _, _, _, rfl, S2, M3, rfl, by omega⟩
  · have hb' : ¬ (0 : Int) < ((vs.length : Nat) : Int) := of_decide_eq_false hb
    have hq0 : hq = [] := List.eq_nil_of_length_eq_zero (by omega)
    subst hq0
    refine rd_tup (ea_cons (ev_var rfl) (ea_cons (ev_var rfl) ea_nil)) (by show 2 ≤ sizeLine; decide) fun t nt => ?_
    have S5 := S.grow ((Same.refl H').upd nt (o := .tup [.ref fa, .ref ba]))
    exact q t fa ba us gF gB far back _ S5.sm upd_same S5.ne S5.n1 S5.n2 S5.fd S5.bd ⟨dm_r S5.fd, dm_r S5.bd, S5.fr, S5.br, S5.nd, S5.lt, hn12, S5.out⟩ M.told
theorem ok_law {cHeap cWireError cNothingLeft : Addr} {f : Addr} {fd : FuncData} (F : Fun K "law" "law" slaw f fd) (T : Txt K mg cHeap cWireError cNothingLeft) (hcv : fd.code = .ref (tbP K).1) (hCH : PySem.W.codeHdIn K (tbP K).1 (tbP K).2 = true) (hBA : base.BuiltinsAt mg (tbP K).2) (hgP : mainGlobals ≠ (tbP K).2) (gCell : Callee P w K mg base "_law_cell_at" 1 ["script", "k"] (spCell K)) (gMark : Callee P w K mg base "_law_mark" 1 ["kind", "k"] spMark) (gRows : Callee P w K mg base "_law_rows" 2 ["script", "marks", "tight"] (spRows K)) (gStarts : Callee P w K mg base "_law_starts" 2 ["script", "marks", "tight"] (spStarts K)) (gCome : Callee P w K mg base "_law_come_to" 2 ["far", "rows", "starts"] (spCome K)) (gBacked : Callee P w K mg base "_law_backed" 1 ["far", "back", "rows", "starts", "mark"] (spBacked K)) (gEndsL : Callee P w K mg base "_law_ends" 1 ["back", "mark"] spEndsL) (gSpread : Callee P w K mg base "spread" 3 ["arcs", "starts"] (spSpread mg)) : FnOk P w K mg base CX0 4 f fd ["script"] (spLaw K) := by
  have sc : FnScope ["script", "kind", "marks", "tight", "rows", "starts", "handed", "found", "far", "back", "mark"] ["script"] (defScope slaw) := ⟨rfl, rfl, rfl, by decide +kernel, rfl, by decide +kernel, by decide +kernel⟩
  refine F.okC hcv sc (fun vs H Q E h => by repeat (first | (obtain ⟨rfl, _⟩ := h; rfl) | (obtain ⟨_, h⟩ := h))) (fun A outer s H vs Q E hr h => ?_)
  obtain ⟨a, ns, rfl, hS, hlen, htb, kq⟩ := h
  refine ⟨_, (pss_cons (ps_set (i := 1) sc.nd rfl (Or.inr rfl) (pe_op op_mod (pe_cal gCell (hr.mono (by decide)) (by rfl) (pa_cons (pv 0) (pa_cons pe_int pa_nil))) pe_int))
  (pss_cons (ps_lcset (i := 2) (ls := ["k"]) (ys := ["kind"]) (ix := [1]) rfl sc.nd rfl (Or.inl rfl) ⟨rfl, by rfl, by rfl, by rfl, by rfl, rfl⟩ (pi_range1 (by rfl) T.range_ (pa_cons (pe_op op_add pe_int (pe_op op_mod (pe_cal gCell (hr.mono (by decide)) (by rfl) (pa_cons (pv 0) (pa_cons pe_int pa_nil))) pe_int)) pa_nil)) (fun _ _ _ _ _ => (pg_name (i := 0) (show (["k", "kind"] : List Str).Nodup by decide +kernel) rfl (Or.inl rfl))) (fun _ _ _ _ _ => pf_nil) (fun _ _ _ _ _ => (pe_cal (by exact gMark) (by exact (hr.mono (by decide))) (by rfl) (pa_cons (pv 1) (pa_cons (pv 0) pa_nil)))))
  (pss_cons (ps_set (i := 3) sc.nd rfl (Or.inl rfl) (pe_op op_mod (pe_cal gCell (hr.mono (by decide)) (by rfl) (pa_cons (pv 0) (pa_cons pe_int pa_nil))) pe_int))
  (pss_cons (ps_set (i := 4) sc.nd rfl (Or.inr rfl) (pe_cal gRows (hr.mono (by decide)) (by rfl) (pa_cons (pv 0) (pa_cons (pv 2) (pa_cons (pv 3) pa_nil)))))
  (pss_cons (ps_set (i := 5) sc.nd rfl (Or.inl rfl) (pe_cal gStarts (hr.mono (by decide)) (by rfl) (pa_cons (pv 0) (pa_cons (pv 2) (pa_cons (pv 3) pa_nil)))))
  (pss_cons (ps_set (i := 6) sc.nd rfl (Or.inl rfl) (pe_callTy call_list_of (by rfl) T.list_ bt_list (pa_cons (pv 5) pa_nil)))
  (pss_cons (ps_set (i := 7) sc.nd rfl (Or.inl rfl) (pe_calC (i := 4) (y := "rows") (c := s.heap.objs.size + 2) gSpread (hr.mono (by decide)) (by rfl) (pa_cons (pe_lamG rfl (by rfl) rfl hCH hBA hgP) (pa_cons (pv 6) pa_nil)) rfl (by rfl) (by rfl) (by show s.heap.objs.size < s.heap.objs.size + 2; omega)))
  (pss_cons (ps_if (pw_or (pt_cmpR (op_neD hr) (pv 6) (pv 5) (nomark _)) (pw_or (pt_not (pt_val (pe_callB call_isinst (by rfl) T.isinstance_ bt_isinstance (pa_cons (pv 7) (pa_cons (pe_bltn (v := .ty "tuple") (by rfl) T.tuple_ bt_tuple (by rfl)) pa_nil))))) (pw_or1 (pt_cmpR op_ne (pe_callB call_len (by rfl) T.len_ bt_len (pa_cons (pv 7) pa_nil)) pe_int (nomark _))))).pt
  (pss_one (ps_ret pe_bl))
  pss_nil)
  (pss_cons (ps_set (i := 8) sc.nd rfl (Or.inl rfl) (pe_ix ix_tup (pv 7) pe_int (fun _ _ => rfl)))
  (pss_cons (ps_set (i := 9) sc.nd rfl (Or.inl rfl) (pe_ix ix_tup (pv 7) pe_int (fun _ _ => rfl)))
  (pss_cons (ps_if (pw_or (pt_not (pt_val (pe_callB call_isinst (by rfl) T.isinstance_ bt_isinstance (pa_cons (pv 8) (pa_cons (pe_bltn (v := .ty "dict") (by rfl) T.dict_ bt_dict (by rfl)) pa_nil))))) (pw_or1 (pt_not (pt_val (pe_callB call_isinst (by rfl) T.isinstance_ bt_isinstance (pa_cons (pv 9) (pa_cons (pe_bltn (v := .ty "dict") (by rfl) T.dict_ bt_dict (by rfl)) pa_nil))))))).pt
  (pss_one (ps_ret pe_bl))
  pss_nil)
  (pss_cons (ps_if (pt_cmpR (op_neD hr) (pe_callB (call_sortedG hr) (by rfl) T.sorted_ bt_sorted (pa_cons (pe_callTy (call_listD rfl) (by rfl) T.list_ bt_list (pa_cons (pv 8) pa_nil)) pa_nil)) (pe_callB (call_sortedG hr) (by rfl) T.sorted_ bt_sorted (pa_cons (pe_callTy (call_listD rfl) (by rfl) T.list_ bt_list (pa_cons (pv 9) pa_nil)) pa_nil)) (nomark _))
  (pss_one (ps_ret pe_bl))
  pss_nil)
  (pss_cons (ps_if (pt_not (pt_val (pe_cal gCome (hr.mono (by decide)) (by rfl) (pa_cons (pv 8) (pa_cons (pv 4) (pa_cons (pv 5) pa_nil))))))
  (pss_one (ps_ret pe_bl))
  pss_nil)
  (pss_cons (ps_frz (ps_for PassesOwn.never rfl (pi_keys (pv 8)) (pg_name (i := 10) sc.nd rfl (Or.inl rfl))
  (pss_one (ps_if (pw_or (pt_not (pt_val (pe_cal gBacked (hr.mono (by decide)) (by rfl) (pa_cons (pv 8) (pa_cons (pv 9) (pa_cons (pv 4) (pa_cons (pv 5) (pa_cons (pv 10) pa_nil)))))))) (pw_or1 (pt_not (pt_val (pe_cal gEndsL (hr.mono (by decide)) (by rfl) (pa_cons (pv 9) (pa_cons (pv 10) pa_nil))))))).pt
  (pss_one (ps_ret pe_bl))
  pss_nil))))
  (pss_one (ps_ret pe_bl)))))))))))))))), ?_⟩
  refine sq_asg ⟨_, rfl, a, ns, 0, rfl, hS, by decide, fun c0 => ⟨c0, 2, rfl, rfl, (by show (0 : Int) < 2; decide), ?_⟩⟩
  obtain ⟨kd, hkd⟩ : ∃ kd : Bool, c0 % 2 = (if kd then 1 else 0 : Int) := by
    rcases (show c0 % 2 = 0 ∨ c0 % 2 = 1 by omega) with z | z
    · exact ⟨false, z⟩
    · exact ⟨true, z⟩
  show tLcSet _ _ _ _ _ _ _ _ (_ :: some (.int (c0 % 2)) :: _) _
  rw [hkd]
  refine ⟨_, rfl, a, ns, 1, rfl, hS, by decide, fun c1 => ⟨_, 12, rfl, rfl, (by show (0 : Int) < 12; decide), 1, _, rfl, rfl, 1 + c1 % 12, rfl, by omega, by omega, fun D nD => ?_⟩⟩
  obtain ⟨n, hn, hn1, hn2⟩ : ∃ n : Nat, (1 + c1 % 12).toNat = n ∧ 0 < n ∧ n ≤ 12 := ⟨_, rfl, by omega, by omega⟩
  refine lc_range (fun i τ H' => ∃ (x0 : Option V) (ms : List V), τ = [x0, some (.int (if kd then 1 else 0))] ∧ Same H H' ∧ H' D = some (.lst ms) ∧ ms.length = i ∧ ∀ (j : Nat) m, ms[j]? = some m → Mk H' kd m j)
    ⟨none, [], rfl, (Same.refl H).upd nD, upd_same, rfl, (fun _ _ z => nomatch z)⟩ ?_ ?_
  · rintro i τ H' hi ⟨x0, ms, rfl, sm, hD, hml, hmk⟩
    rw [hn] at hi
    rw [Int.zero_add]
    refine gn (lc_el ?_)
    refine te_cal (ea_cons (ev_var rfl) (ea_cons (ev_var rfl) ea_nil)) ⟨kd, i, rfl, by omega, fun m H2 s2 hm => ?_⟩
    have hD2 := s2 _ _ hD
    have tk : TK H2 (upd H2 D (.lst (ms ++ [m]))) := fun b xs e => by rw [upd_ne (ne_of e hD2 (by intro z; cases z))]; exact e
    refine ⟨ms, hD2, small1000 (by omega), _, ms ++ [m], rfl, same_at (sm.trans s2) nD, upd_same, by simp [hml], fun j m' hj => ?_⟩
    by_cases c : j < ms.length
    · rw [List.getElem?_append_left c] at hj
      exact (hmk j m' hj).kept ((same_tk s2).trans tk)
    · rw [List.getElem?_append_right (by omega)] at hj
      have : j = i := by
        have := (List.getElem?_eq_some_iff.mp hj).1
        simp at this; omega
      subst this
      rw [hml, Nat.sub_self] at hj
      cases hj
      exact hm.kept tk
  rintro τ H1 ⟨x0, ms, rfl, s1, eD, hml, hmk⟩
  rw [hn] at hml
  have mkl : MkList H1 kd ms n := ⟨hml, hn1, hn2, hmk⟩
  refine L2.st ?_
  refine sq_asg ⟨_, rfl, a, ns, 2, rfl, s1.seq hS, by decide, fun c2 => ⟨c2, 2, rfl, rfl, (by show (0 : Int) < 2; decide), ?_⟩⟩
  show tSeq _ _ _ (_ :: _ :: _ :: some (.int (c2 % 2)) :: _) _
  generalize c2 % 2 = t
  refine sq_cal (ea_cons (ev_var rfl) (ea_cons (ev_var rfl) (ea_cons (ev_var rfl) ea_nil))) ⟨a, D, t, ns, kd, ms, n, rfl, s1.seq hS, hlen, SqL.of eD, mkl, fun rd ur gv rows H2 s2 R fit tot => ?_⟩
  have s12 := s1.trans s2
  refine sq_cal (ea_cons (ev_var rfl) (ea_cons (ev_var rfl) (ea_cons (ev_var rfl) ea_nil))) ⟨a, D, t, ns, kd, ms, n, rfl, s12.seq hS, SqL.of (s2 _ _ eD), mkl.kept (same_tk s2), fun st ws ss H3 s3 hst hws hsl hslt => ?_⟩
  have R3 := R.same s3
  have hwl := hws.length
  refine sq_asg ⟨_, rfl, st, _, rfl, .inl (SqL.of hst), fun hd nhd => ?_⟩
  have s4 : Same H3 (upd H3 hd (.lst ws)) := (Same.refl H3).upd nhd
  have ehd : upd H3 hd (.lst ws) hd = some (.lst ws) := upd_same
  revert s4 ehd
  generalize upd H3 hd (.lst ws) = H4
  intro s4 ehd
  have htb4 : H4 (tbP K).2 = some (.tbl #[]) := ((s12.trans s3).trans s4) _ _ htb
  have R4 := R3.same s4
  have hws4 := hws.kept (same_tk s4)
  have hst4 := s4 _ _ hst
  refine sq_asg ⟨#[], htb4, trivial, rfl, fun f c' oc ctv HH nf nc' nfc code kpP ⟨_, etP⟩ ec' ef => ?_⟩
  refine ⟨_, rfl, .ref rd, rfl, fun o u ncc ru hd' => ?_⟩
  cases ru
  have kp1 : KpT H4 HH := fun b x e nx => kpP b x e (fun z => by rw [z, htb4] at e; cases e; exact nx _ rfl)
  have sC : ∀ b x, HH b = some x → upd HH (s.heap.objs.size + 2) (exO (s.heap.objs.size + 2) o) b = some x := fun b x e => by rw [upd_ne (ne_of_none e ncc)]; exact e
  have eC : upd HH (s.heap.objs.size + 2) (exO (s.heap.objs.size + 2) o) (s.heap.objs.size + 2) = some (exO (s.heap.objs.size + 2) o) := upd_same
  revert sC eC
  generalize upd HH (s.heap.objs.size + 2) (exO (s.heap.objs.size + 2) o) = H5
  intro sC eC
  have kp5 : KpT H4 H5 := fun b x e nx => sC _ _ (kp1 b x e nx)
  have tk5 : TK H4 H5 := fun b xs e => kp5 _ _ e (fun _ z => nomatch z)
  have R5 := R4.kp kp5
  have hhd5 := kp5 _ _ ehd (fun _ z => nomatch z)
  have hws5 := hws4.kept tk5
  refine ⟨f, hd, kd, n, rows, fit, ws, ss, rfl, ⟨s.heap.objs.size + 2, c', ctv, oc, o, rd, ur, gv, sC _ _ ef, sC _ _ ec', code, eC, hd', R5⟩, hn2, tot, hhd5, hws5, hsl, hslt, fun tt fa ba us gF gB far back H6 s6 ht nfb nFa nBa dF dB SD told => ?_⟩
  have eC6 := s6 _ _ eC
  refine ⟨eC6, ?_⟩
  have dr : ∀ b x, H6 b = some x → (∀ φ, x ≠ .ext φ) → drp H6 (s.heap.objs.size + 2) b = some x := fun b x e nx => drp_some e eC6 (exO_ne nx)
  have kp6 : ∀ b x, H5 b = some x → (∀ φ, x ≠ .ext φ) → drp H6 (s.heap.objs.size + 2) b = some x := fun b x e nx => dr b x (s6 _ _ e) nx
  have tk6 : TK H6 (drp H6 (s.heap.objs.size + 2)) := fun b xs e => dr _ _ e (fun _ z => nomatch z)
  have tk56 : TK H5 (drp H6 (s.heap.objs.size + 2)) := fun b xs e => kp6 _ _ e (fun _ z => nomatch z)
  have ht7 : drp H6 (s.heap.objs.size + 2) tt = some (.tup [.ref fa, .ref ba]) := dr _ _ ht (fun _ z => nomatch z)
  obtain ⟨uf6, huf6, _, duf6, _⟩ := dm_raw dF
  obtain ⟨ub6, hub6, _, dub6, _⟩ := dm_raw dB
  obtain ⟨ur5, hur5, _, dur5, _⟩ := dm_raw R5.dm
  have ndx : ∀ {x : HO}, DictU x → ∀ φ, x ≠ .ext φ := fun h φ z => by rw [z] at h; exact h.elim
  have dF7 : DM (drp H6 (s.heap.objs.size + 2)) fa kd us gF := dm_same dF fun x e => dr _ _ e (ndx (by rw [huf6] at e; cases e; exact duf6))
  have dB7 : DM (drp H6 (s.heap.objs.size + 2)) ba kd us gB := dm_same dB fun x e => dr _ _ e (ndx (by rw [hub6] at e; cases e; exact dub6))
  have R7 : RowsAt (drp H6 (s.heap.objs.size + 2)) rd kd ur gv rows := ⟨dm_same R5.dm fun x e => kp6 _ _ e (ndx (by rw [hur5] at e; cases e; exact dur5)), R5.no, fun k v hk e => by
    obtain ⟨l, vs, e1, e2, e3⟩ := R5.ye k v hk e
    exact ⟨l, vs, e1, kp6 _ _ e2 (fun _ z => nomatch z), e3.kept tk56⟩⟩
  have hst7 : drp H6 (s.heap.objs.size + 2) st = some (.lst ws) := kp6 _ _ (kp5 _ _ hst4 (fun _ z => nomatch z)) (fun _ z => nomatch z)
  have hhd7 : drp H6 (s.heap.objs.size + 2) hd = some (.lst ws) := kp6 _ _ hhd5 (fun _ z => nomatch z)
  have hws7 := hws5.kept tk56
  have br7 := SD.br.kept tk6
  have nfr : fa ≠ rd := fun z => by rw [z, hur5] at nFa; cases nFa
  revert ht7 dF7 dB7 R7 hst7 hhd7 hws7 br7
  generalize drp H6 (s.heap.objs.size + 2) = H7
  intro ht7 dF7 dB7 R7 hst7 hhd7 hws7 br7
  have SD7 : SpD H7 fa ba kd us gF gB far back n := ⟨dm_r dF7, dm_r dB7, SD.fr, br7, SD.nd, SD.lt, SD.le, SD.out⟩
  have hul : us.length ≤ 12 := Nat.le_trans (nd_len n us SD.nd SD.lt) hn2
  have dh : Dp K H7 (.ref hd) (.list (ss.map (dtM kd))) := .lst (SqL.of hhd7) hws7.dps
  have dk : Dp K H7 (.ref st) (.list (ss.map (dtM kd))) := .lst (SqL.of hst7) hws7.dps
  have ddp : (PyData.list (ss.map (dtM kd))).depth ≤ 60 := by
    have : PyData.depthAll (ss.map (dtM kd)) ≤ 2 := depthAll_le fun d hd => by
      obtain ⟨c, _, rfl⟩ := List.mem_map.mp hd
      exact dtM_depth kd c
    simp only [PyData.depth]; omega
  show tSeq _ _ _ _ _
  refine sq_ifF (et_or (et_test (ev_neD (ev_var rfl) (ev_var rfl) dh dk ddp)) fun _ => et_or (et_not (et_B (ev_cb (ea_cons (ev_var rfl) (ea_cons ev_c ea_nil)) fun Q' q' => ⟨_, _, _, _, _, rfl, .ty "tuple", .tup ht7, T.tt, q'⟩)))
    fun _ => et_test (ev_neI (ev_cb (ea_cons (ev_var rfl) ea_nil) fun Q' q' => ⟨_, _, rfl, .inr ⟨_, SqT.of ht7, rfl⟩, q'⟩) ev_c)) ?_ ?_
  · rw [eqv_refl dh.lay]; rfl
  refine sq_set (ev_ixT (ev_var rfl) ev_c (SqT.of ht7) rfl) ?_
  refine sq_set (ev_ixT (ev_var rfl) ev_c (SqT.of ht7) rfl) ?_
  refine sq_ifF (et_or (et_not (et_B (ev_cb (ea_cons (ev_var rfl) (ea_cons ev_c ea_nil)) fun Q' q' => ⟨_, _, _, _, _, rfl, .ty "dict", dm_tyOf dF7, T.dd, q'⟩))) fun _ => et_not (et_B (ev_cb (ea_cons (ev_var rfl) (ea_cons ev_c ea_nil)) fun Q' q' => ⟨_, _, _, _, _, rfl, .ty "dict", dm_tyOf dB7, T.dd, q'⟩))) rfl ?_
  obtain ⟨uf, huf, muf, duf, szf, hfrz, keyf⟩ := dm_raw dF7
  obtain ⟨ub, hub, mub, dub, szb, _, keyb⟩ := dm_raw dB7
  refine ⟨_, rfl, fa, uf, rfl, huf, muf, duf, by omega, fun l1 ys1 nl1 len1 kk1 => ?_⟩
  have s8 : Same H7 (upd H7 l1 (.lst ys1)) := (Same.refl H7).upd nl1
  have e8 : upd H7 l1 (.lst ys1) l1 = some (.lst ys1) := upd_same
  revert s8 e8
  generalize upd H7 l1 (.lst ys1) = H8
  intro s8 e8
  dsimp only [tNil]
  refine sorted_marks (K := K) (kd := kd) (us := us) e8 (by rw [len1, szf]) (fun i y hy => ?_) hul fun l2 zs2 ds2 H9 s9 e9 dp9 so9 => ?_
  · obtain ⟨v, hv⟩ := kk1 i y hy
    obtain ⟨k, h1, h2, h3⟩ := keyf H7 i y v hv
    exact ⟨k, h1, h2, h3.kept (same_tk s8)⟩
  have s79 := s8.trans s9
  refine ⟨_, rfl, ba, ub, rfl, s79 _ _ hub, mub, dub, by omega, fun l3 ys3 nl3 len3 kk3 => ?_⟩
  have s10 : Same H9 (upd H9 l3 (.lst ys3)) := (Same.refl H9).upd nl3
  have e10 : upd H9 l3 (.lst ys3) l3 = some (.lst ys3) := upd_same
  revert s10 e10
  generalize upd H9 l3 (.lst ys3) = H10
  intro s10 e10
  dsimp only [tNil]
  refine sorted_marks (K := K) (kd := kd) (us := us) e10 (by rw [len3, szb]) (fun i y hy => ?_) hul fun l4 zs4 ds4 H11 s11 e11 dp11 so11 => ?_
  · obtain ⟨v, hv⟩ := kk3 i y hy
    obtain ⟨k, h1, h2, h3⟩ := keyb H9 i y v hv
    exact ⟨k, h1, h2, h3.kept (same_tk s10)⟩
  have eds := so9.uniq so11
  subst eds
  have s711 := s79.trans (s10.trans s11)
  have d1 : Dp K H11 (.ref l2) (.list ds2) := .lst (SqL.of ((s10.trans s11) _ _ e9)) (dp9.same (s10.trans s11))
  have d2 : Dp K H11 (.ref l4) (.list ds2) := .lst (SqL.of e11) dp11
  have dd2 : (PyData.list ds2).depth ≤ 60 := by
    have : PyData.depthAll ds2 ≤ 1 := by
      rcases so9 with ⟨_, ms', rfl, _⟩ | ⟨_, cs, rfl, _⟩
      · exact depthAll_le fun d hd => by
          obtain ⟨c, _, rfl⟩ := List.mem_map.mp hd
          simp [PyData.depth]
      · exact depthAll_le fun d hd => by
          obtain ⟨c, _, rfl⟩ := List.mem_map.mp hd
          exact depth_tints c
    simp only [PyData.depth]; omega
  refine ⟨_, _, d1, d2, dd2, _, rfl, ?_⟩
  rw [eqv_refl d1.lay]
  refine iteF ?_
  refine L2.st ?_
  have dF11 : DM H11 fa kd us gF := dm_same dF7 fun x e => s711 _ _ e
  have L11 : LawD K H11 fa ba rd st kd us far back rows ss := ⟨gF, gB, n, ur, gv, ws, ⟨dmr_same SD7.fd fun x e => s711 _ _ e, dmr_same SD7.bd fun x e => s711 _ _ e, SD7.fr, SD7.br.kept (same_tk s711), SD7.nd, SD7.lt, SD7.le, SD7.out⟩, R7.same s711, fit, SqL.of (s711 _ _ hst7), hws7.kept (same_tk s711), hslt⟩
  refine ⟨_, rfl, _, rfl, _, rfl, fa, ba, rd, st, kd, us, far, back, rows, ss, rfl, L11, ⟨gF, dF11⟩, nfr, told.arcs, told.sta, fun H12 s12' => ⟨_, rfl, ?_⟩⟩
  dsimp only [Bool.not_true]
  refine iteF ?_
  refine L2.st ?_
  have s712 := s711.trans s12'
  obtain ⟨dn, dnd, dmem, dend⟩ := told.ends
  have hper : us.Perm dn := (List.perm_ext_iff_of_nodup SD.nd dnd).mpr fun k => by
    rw [dmem]
    by_cases hk : k < n
    · have h1 := DMx.dom dF7 (show k < 12 by omega)
      rw [SD.fr k (by omega), Option.isSome_map] at h1
      rw [h1]; simp
    · have h1 := (SD.out k (by omega)).1
      rw [h1]
      exact ⟨fun z => absurd (SD.lt k z) hk, (fun z => nomatch z)⟩
  have dF12 : DM H12 fa kd us gF := dm_same dF7 fun x e => s712 _ _ e
  obtain ⟨u12, hu12, mu12, du12, sz12, hfr12, key12⟩ := dm_raw dF12
  refine ⟨fa, u12, hu12, mu12, fun oz => ?_⟩
  have sf : ∀ b x, b ≠ fa → H12 b = some x → upd H12 fa (.frz oz u12) b = some x := fun b x hb e => by rw [upd_ne hb]; exact e
  have ef' : upd H12 fa (.frz oz u12) fa = some (.frz oz u12) := upd_same
  have DF : DMr (upd H12 fa (.frz oz u12)) fa kd us gF := hfr12 _ oz ef'
  have RF : RowsAt (upd H12 fa (.frz oz u12)) rd kd ur gv rows := (R7.same s712).frz hu12 du12 nfr sf
  have tkF : TK H12 (upd H12 fa (.frz oz u12)) := fun b xs e => sf _ _ (fun z => by rw [z, hu12] at e; cases e; exact du12.elim) e
  have dBF : DM (upd H12 fa (.frz oz u12)) ba kd us gB := dm_same dB7 fun x e => sf _ _ nfb.symm (s712 _ _ e)
  have hstF : upd H12 fa (.frz oz u12) st = some (.lst ws) := sf _ _ (fun z => by
    have := s712 _ _ hst7
    rw [z, hu12] at this; cases this; exact du12.elim) (s712 _ _ hst7)
  have hwsF := (hws7.kept (same_tk s712)).kept tkF
  have brF := (br7.kept (same_tk s712)).kept tkF
  revert sf ef' DF RF tkF dBF hstF hwsF brF
  generalize upd H12 fa (.frz oz u12) = HF
  intro sf ef' DF RF tkF dBF hstF hwsF brF
  refine ⟨_, rfl, fa, oz, u12, rfl, ef', du12, for_keys (u := u12) (fun i σ H2 => ∃ x10 : Option V, σ = [some (.ref a), some (.int (if kd then 1 else 0)), some (.ref D), some (.int t), some (.ref rd), some (.ref st), some (.ref hd), some (.ref tt), some (.ref fa), some (.ref ba), x10] ∧ Same HF H2) ⟨_, rfl, Same.refl _⟩ (fun i σ H2 _ ⟨_, _, s⟩ => s _ _ ef') ?_ ?_⟩
  · rintro i x v σ H13 hka hi ⟨x10, rfl, s13⟩
    obtain ⟨k, hk1, hk2, hk3⟩ := key12 H13 i x v hka
    have M : Mk H13 kd x k := ⟨hk2, hk3⟩
    refine gn ?_
    have hkn := SD.lt k (List.mem_of_getElem? hk1)
    have L13 : LawD K H13 fa ba rd st kd us far back rows ss := ⟨gF, gB, n, ur, gv, ws, ⟨dmr_same DF fun x e => s13 _ _ e, dmr_same (dm_r dBF) fun x e => s13 _ _ e, SD7.fr, brF.kept (same_tk s13), SD7.nd, SD7.lt, SD7.le, SD7.out⟩, RF.same s13, fit, SqL.of (s13 _ _ hstF), hwsF.kept (same_tk s13), hslt⟩
    have hfs : (far k).isSome = true := (dmem k).mp (hper.mem_iff.mp (List.mem_of_getElem? hk1))
    obtain ⟨p, hp⟩ := Option.isSome_iff_exists.mp hfs
    have hbk : (back k).isSome = true := by rw [told.dom k]; exact hfs
    refine ⟨_, rfl, _, rfl, _, rfl, _, rfl, _, rfl, fa, ba, rd, st, x, k, kd, us, far, back, rows, ss, rfl, L13, M, ⟨p, hp⟩, hbk, fun p' => told.bn k p', fun p' b => told.bs k p' b, fun H14 s14 => ⟨_, rfl, ?_⟩⟩
    dsimp only [Bool.not_true]
    refine iteF ?_
    have s1314 := s13.trans s14
    refine ⟨_, rfl, _, rfl, ba, x, k, kd, us, gB, back, rfl, dm_same dBF (fun y e => s1314 _ _ e), brF.kept (same_tk s1314), M.kept (same_tk s14), fun j b hj => ?_, hbk, ?_, hul, ⟨_, rfl, ?_⟩⟩
    · rw [told.dom b]
      have hfj : (far j).isSome = true := by rw [← told.dom j, hj]; rfl
      obtain ⟨pj, hpj⟩ := Option.isSome_iff_exists.mp hfj
      obtain ⟨_, qb, hqb, _⟩ := told.bs j pj b hpj hj
      rw [hqb]; rfl
    · rw [hper.length_eq]; exact dend k hfs
    dsimp only [Bool.not_true]
    refine iteF ?_
    exact ⟨_, rfl, s1314⟩
  · rintro σ H13 ⟨x10, rfl, s13⟩
    exact ⟨s13 _ _ ef', kq _⟩
end
theorem all_mk {l : PySem.W.OpenLaw} {w : World} {K : PySem.W.Frag} {h : Heap} {mg : Str → Option Value} {fa : Addr} (X : K.In h) (G : h.Ns mainGlobals mg) (hfa : mg "law" = some (.ref fa))
    {cHeap : Addr}
    {cWireError : Addr}
    {cNothingLeft : Addr}
    {f0 : Addr} {od0 an0 : Option Addr} {sl0 : Array (Option Value)} {oc0 kV0 dc0 pm0 cd0 ct0 : Value}
    {f1 : Addr} {od1 an1 : Option Addr} {sl1 : Array (Option Value)} {oc1 kV1 dc1 pm1 cd1 ct1 : Value}
    {f2 : Addr} {od2 an2 : Option Addr} {sl2 : Array (Option Value)} {oc2 kV2 dc2 pm2 cd2 ct2 : Value}
    {f3 : Addr} {od3 an3 : Option Addr} {sl3 : Array (Option Value)} {oc3 kV3 dc3 pm3 cd3 ct3 : Value}
    {f4 : Addr} {od4 an4 : Option Addr} {sl4 : Array (Option Value)} {oc4 kV4 dc4 pm4 cd4 ct4 : Value}
    {f5 : Addr} {od5 an5 : Option Addr} {sl5 : Array (Option Value)} {oc5 kV5 dc5 pm5 cd5 ct5 : Value}
    {f6 : Addr} {od6 an6 : Option Addr} {sl6 : Array (Option Value)} {oc6 kV6 dc6 pm6 cd6 ct6 : Value}
    {f7 : Addr} {od7 an7 : Option Addr} {sl7 : Array (Option Value)} {oc7 kV7 dc7 pm7 cd7 ct7 : Value}
    {f8 : Addr} {od8 an8 : Option Addr} {sl8 : Array (Option Value)} {oc8 kV8 dc8 pm8 cd8 ct8 : Value}
    {f9 : Addr} {od9 an9 : Option Addr} {sl9 : Array (Option Value)} {oc9 kV9 dc9 pm9 cd9 ct9 : Value}
    {f10 : Addr} {od10 an10 : Option Addr} {sl10 : Array (Option Value)} {oc10 kV10 dc10 pm10 cd10 ct10 : Value}
    {f11 : Addr} {od11 an11 : Option Addr} {sl11 : Array (Option Value)} {oc11 kV11 dc11 pm11 cd11 ct11 : Value}
    {f12 : Addr} {od12 an12 : Option Addr} {sl12 : Array (Option Value)} {oc12 kV12 dc12 pm12 cd12 ct12 : Value}
    {f13 : Addr} {od13 an13 : Option Addr} {sl13 : Array (Option Value)} {oc13 kV13 dc13 pm13 cd13 ct13 : Value}
    {f14 : Addr} {od14 an14 : Option Addr} {sl14 : Array (Option Value)} {oc14 kV14 dc14 pm14 cd14 ct14 : Value}
    {f15 : Addr} {od15 an15 : Option Addr} {sl15 : Array (Option Value)} {oc15 kV15 dc15 pm15 cd15 ct15 : Value}
    {cC cP : Addr}
    (n_Heap : PySem.W.nsIn K mainGlobals "Heap" = some (some (.ref cHeap)))
    (a0 : PySem.W.nsIn K mainGlobals "_law_cell_at" = some (some (.ref f0)))
    (l0 : K.lookup f0 = some ⟨oc0, od0, .func (PySem.W.fnOf "_law_cell_at" "_law_cell_at" (defArgs sCell) (defBody sCell) (defScope sCell) .none kV0 dc0 pm0 an0 cd0 ct0), sl0⟩)
    (c0 : PySem.W.codeIn K cd0 "_law_cell_at" = true)
    (k0 : PySem.W.keepIn K (.ref f0) = true)
    (a1 : PySem.W.nsIn K mainGlobals "_law_mark" = some (some (.ref f1)))
    (l1 : K.lookup f1 = some ⟨oc1, od1, .func (PySem.W.fnOf "_law_mark" "_law_mark" (defArgs sMark) (defBody sMark) (defScope sMark) .none kV1 dc1 pm1 an1 cd1 ct1), sl1⟩)
    (c1 : PySem.W.codeIn K cd1 "_law_mark" = true)
    (k1 : PySem.W.keepIn K (.ref f1) = true)
    (a2 : PySem.W.nsIn K mainGlobals "_law_price" = some (some (.ref f2)))
    (l2 : K.lookup f2 = some ⟨oc2, od2, .func (PySem.W.fnOf "_law_price" "_law_price" (defArgs sPrice) (defBody sPrice) (defScope sPrice) .none kV2 dc2 pm2 an2 cd2 ct2), sl2⟩)
    (c2 : PySem.W.codeIn K cd2 "_law_price" = true)
    (k2 : PySem.W.keepIn K (.ref f2) = true)
    (a3 : PySem.W.nsIn K mainGlobals "_law_rows" = some (some (.ref f3)))
    (l3 : K.lookup f3 = some ⟨oc3, od3, .func (PySem.W.fnOf "_law_rows" "_law_rows" (defArgs sRows) (defBody sRows) (defScope sRows) .none kV3 dc3 pm3 an3 cd3 ct3), sl3⟩)
    (c3 : PySem.W.codeIn K cd3 "_law_rows" = true)
    (k3 : PySem.W.keepIn K (.ref f3) = true)
    (a4 : PySem.W.nsIn K mainGlobals "_law_starts" = some (some (.ref f4)))
    (l4 : K.lookup f4 = some ⟨oc4, od4, .func (PySem.W.fnOf "_law_starts" "_law_starts" (defArgs sStarts) (defBody sStarts) (defScope sStarts) .none kV4 dc4 pm4 an4 cd4 ct4), sl4⟩)
    (c4 : PySem.W.codeIn K cd4 "_law_starts" = true)
    (k4 : PySem.W.keepIn K (.ref f4) = true)
    (a5 : PySem.W.nsIn K mainGlobals "_law_number" = some (some (.ref f5)))
    (l5 : K.lookup f5 = some ⟨oc5, od5, .func (PySem.W.fnOf "_law_number" "_law_number" (defArgs sNum) (defBody sNum) (defScope sNum) .none kV5 dc5 pm5 an5 cd5 ct5), sl5⟩)
    (c5 : PySem.W.codeIn K cd5 "_law_number" = true)
    (k5 : PySem.W.keepIn K (.ref f5) = true)
    (a6 : PySem.W.nsIn K mainGlobals "_law_come_to" = some (some (.ref f6)))
    (l6 : K.lookup f6 = some ⟨oc6, od6, .func (PySem.W.fnOf "_law_come_to" "_law_come_to" (defArgs sCome) (defBody sCome) (defScope sCome) .none kV6 dc6 pm6 an6 cd6 ct6), sl6⟩)
    (c6 : PySem.W.codeIn K cd6 "_law_come_to" = true)
    (k6 : PySem.W.keepIn K (.ref f6) = true)
    (a7 : PySem.W.nsIn K mainGlobals "_law_backed" = some (some (.ref f7)))
    (l7 : K.lookup f7 = some ⟨oc7, od7, .func (PySem.W.fnOf "_law_backed" "_law_backed" (defArgs sBacked) (defBody sBacked) (defScope sBacked) .none kV7 dc7 pm7 an7 cd7 ct7), sl7⟩)
    (c7 : PySem.W.codeIn K cd7 "_law_backed" = true)
    (k7 : PySem.W.keepIn K (.ref f7) = true)
    (a8 : PySem.W.nsIn K mainGlobals "_law_ends" = some (some (.ref f8)))
    (l8 : K.lookup f8 = some ⟨oc8, od8, .func (PySem.W.fnOf "_law_ends" "_law_ends" (defArgs sEndsL) (defBody sEndsL) (defScope sEndsL) .none kV8 dc8 pm8 an8 cd8 ct8), sl8⟩)
    (c8 : PySem.W.codeIn K cd8 "_law_ends" = true)
    (k8 : PySem.W.keepIn K (.ref f8) = true)
    (a9 : PySem.W.findIn K (.ref cHeap) "__init__" = some (some (.ref f9)))
    (i9 : PySem.W.isFn K (.ref f9) = true)
    (l9 : K.lookup f9 = some ⟨oc9, od9, .func (PySem.W.fnOf "__init__" "Heap.__init__" (defArgs sInit) (defBody sInit) (defScope sInit) .none kV9 dc9 pm9 an9 cd9 ct9), sl9⟩)
    (c9 : PySem.W.codeIn K cd9 "Heap.__init__" = true)
    (k9 : PySem.W.keepIn K (.ref f9) = true)
    (a10 : PySem.W.findIn K (.ref cHeap) "many" = some (some (.ref f10)))
    (i10 : PySem.W.isFn K (.ref f10) = true)
    (l10 : K.lookup f10 = some ⟨oc10, od10, .func (PySem.W.fnOf "many" "Heap.many" (defArgs sMany) (defBody sMany) (defScope sMany) .none kV10 dc10 pm10 an10 cd10 ct10), sl10⟩)
    (c10 : PySem.W.codeIn K cd10 "Heap.many" = true)
    (k10 : PySem.W.keepIn K (.ref f10) = true)
    (a11 : PySem.W.findIn K (.ref cHeap) "add" = some (some (.ref f11)))
    (i11 : PySem.W.isFn K (.ref f11) = true)
    (l11 : K.lookup f11 = some ⟨oc11, od11, .func (PySem.W.fnOf "add" "Heap.add" (defArgs sAdd) (defBody sAdd) (defScope sAdd) .none kV11 dc11 pm11 an11 cd11 ct11), sl11⟩)
    (c11 : PySem.W.codeIn K cd11 "Heap.add" = true)
    (k11 : PySem.W.keepIn K (.ref f11) = true)
    (a12 : PySem.W.findIn K (.ref cHeap) "sink" = some (some (.ref f12)))
    (i12 : PySem.W.isFn K (.ref f12) = true)
    (l12 : K.lookup f12 = some ⟨oc12, od12, .func (PySem.W.fnOf "sink" "Heap.sink" (defArgs sSink) (defBody sSink) (defScope sSink) .none kV12 dc12 pm12 an12 cd12 ct12), sl12⟩)
    (c12 : PySem.W.codeIn K cd12 "Heap.sink" = true)
    (k12 : PySem.W.keepIn K (.ref f12) = true)
    (a13 : PySem.W.findIn K (.ref cHeap) "take" = some (some (.ref f13)))
    (i13 : PySem.W.isFn K (.ref f13) = true)
    (l13 : K.lookup f13 = some ⟨oc13, od13, .func (PySem.W.fnOf "take" "Heap.take" (defArgs sTake) (defBody sTake) (defScope sTake) .none kV13 dc13 pm13 an13 cd13 ct13), sl13⟩)
    (c13 : PySem.W.codeIn K cd13 "Heap.take" = true)
    (k13 : PySem.W.keepIn K (.ref f13) = true)
    (a14 : PySem.W.nsIn K mainGlobals "spread" = some (some (.ref f14)))
    (l14 : K.lookup f14 = some ⟨oc14, od14, .func (PySem.W.fnOf "spread" "spread" (defArgs sSpread) (defBody sSpread) (defScope sSpread) .none kV14 dc14 pm14 an14 cd14 ct14), sl14⟩)
    (c14 : PySem.W.codeIn K cd14 "spread" = true)
    (k14 : PySem.W.keepIn K (.ref f14) = true)
    (a15 : PySem.W.nsIn K mainGlobals "law" = some (some (.ref f15)))
    (l15 : K.lookup f15 = some ⟨oc15, od15, .func (PySem.W.fnOf "law" "law" (defArgs slaw) (defBody slaw) (defScope slaw) .none kV15 dc15 pm15 an15 cd15 ct15), sl15⟩)
    (c15 : PySem.W.codeIn K cd15 "law" = true)
    (k15 : PySem.W.keepIn K (.ref f15) = true)
    (pg_Heap : PySem.W.plainGet K cHeap Str.empty = true)
    (hd_Heap : PySem.W.hasDictIn K cHeap = true)
    (po_Heap : PySem.W.plainOver K cHeap = true)
    (sa_Heap : PySem.W.findIn K (.ref cHeap) "__setattr__" = some (some (.builtin "object.__setattr__")))
    (mk_Heap : PySem.W.makesIn K cHeap = true)
    (kc_Heap : PySem.W.keepIn K (.ref cHeap) = true)
    (na_Heap_pairs : PySem.W.findIn K (.ref cHeap) "pairs" = some none)
    (n_WireError : PySem.W.nsIn K mainGlobals "WireError" = some (some (.ref cWireError)))
    (n_NothingLeft : PySem.W.nsIn K mainGlobals "NothingLeft" = some (some (.ref cNothingLeft)))
    (x_NothingLeft : PySem.W.excIn K cNothingLeft [.type "ValueError", .type "Exception", .type "BaseException", .type "object"] "ValueError.__new__" = true)
    (ga_NothingLeft : PySem.W.findIn K (.ref cNothingLeft) "__getattribute__" = some (some (.builtin "BaseException.__getattribute__")))
    (gt_NothingLeft : PySem.W.findIn K (.ref cNothingLeft) "__getattr__" = some none)
    (cl_NothingLeft : PySem.W.findIn K (.ref cNothingLeft) "__class__" = some (some (.builtin "object.__class__")))
    (gg_NothingLeft : PySem.W.specialIn K (.builtin "object.__class__") "__get__" = some (some (.builtin "getset_descriptor.__get__")))
    (tk_NothingLeft : PySem.W.takesIn K (.builtin "object.__class__") = some true)
    (ob_NothingLeft : PySem.W.mroIn K cNothingLeft (.type "object") = some true)
    (be_NothingLeft : PySem.W.mroIn K cNothingLeft (.type "BaseException") = some true)
    (z_len : PySem.W.nsIn K mainGlobals "len" = some none)
    (z_range : PySem.W.nsIn K mainGlobals "range" = some none)
    (z_isinstance : PySem.W.nsIn K mainGlobals "isinstance" = some none)
    (z_int : PySem.W.nsIn K mainGlobals "int" = some none)
    (z_bool : PySem.W.nsIn K mainGlobals "bool" = some none)
    (z_tuple : PySem.W.nsIn K mainGlobals "tuple" = some none)
    (z_dict : PySem.W.nsIn K mainGlobals "dict" = some none)
    (z_list : PySem.W.nsIn K mainGlobals "list" = some none)
    (z_sorted : PySem.W.nsIn K mainGlobals "sorted" = some none)
    (z_ValueError : PySem.W.nsIn K mainGlobals "ValueError" = some none)
    (ii : PySem.W.kitOne K (.type "int") (.type "int") = some true)
    (ib : PySem.W.kitOne K (.type "int") (.type "bool") = some false)
    (tt : PySem.W.kitOne K (.type "tuple") (.type "tuple") = some true)
    (dd : PySem.W.kitOne K (.type "dict") (.type "dict") = some true)
    (tb : PySem.W.tabIn K "law" = some (cC, cP))
    (tc : cd15 = .ref cC)
    (th : PySem.W.codeHdIn K cC cP = true)
    : ∃ fd : FuncData, (∀ (s : Shared) (v : Value), BindsTo s fd ⟨[v], []⟩ [("script", v)]) ∧ ∀ base : Heap, K.In base → base.Ns mainGlobals mg → base.BuiltinsAt mg (tbP K).2 → mainGlobals ≠ (tbP K).2 → FnOk l.prog w K mg base CX0 4 fa fd ["script"] (spLaw K) := by
  have e := hfa.symm.trans (PySem.W.mg_of X G a15)
  cases e
  have T : Txt K mg cHeap cWireError cNothingLeft := ⟨PySem.W.mg_none_of X G z_len, PySem.W.mg_none_of X G z_range, PySem.W.mg_none_of X G z_isinstance, PySem.W.mg_none_of X G z_int, PySem.W.mg_none_of X G z_bool, PySem.W.mg_none_of X G z_tuple, PySem.W.mg_none_of X G z_dict, PySem.W.mg_none_of X G z_list, PySem.W.mg_none_of X G z_sorted, PySem.W.mg_none_of X G z_ValueError, ⟨pg_Heap, hd_Heap, po_Heap, sa_Heap⟩, PySem.W.mg_of X G n_Heap, na_Heap_pairs, PySem.W.mg_of X G n_WireError, ⟨PySem.W.mg_of X G n_NothingLeft, x_NothingLeft, ⟨ga_NothingLeft, gt_NothingLeft, cl_NothingLeft, gg_NothingLeft, tk_NothingLeft, ob_NothingLeft, be_NothingLeft⟩⟩, ii, ib, tt, dd⟩
  have F0 := fun_mk (st := sCell) l0 c0 k0
  have b0 := F0.binds (ps := ["script", "k"]) fun _ _ _ _ _ _ us hl => match us, hl with | [_, _], _ => rfl
  have F1 := fun_mk (st := sMark) l1 c1 k1
  have b1 := F1.binds (ps := ["kind", "k"]) fun _ _ _ _ _ _ us hl => match us, hl with | [_, _], _ => rfl
  have F2 := fun_mk (st := sPrice) l2 c2 k2
  have b2 := F2.binds (ps := ["cell", "tight"]) fun _ _ _ _ _ _ us hl => match us, hl with | [_, _], _ => rfl
  have F3 := fun_mk (st := sRows) l3 c3 k3
  have b3 := F3.binds (ps := ["script", "marks", "tight"]) fun _ _ _ _ _ _ us hl => match us, hl with | [_, _, _], _ => rfl
  have F4 := fun_mk (st := sStarts) l4 c4 k4
  have b4 := F4.binds (ps := ["script", "marks", "tight"]) fun _ _ _ _ _ _ us hl => match us, hl with | [_, _, _], _ => rfl
  have F5 := fun_mk (st := sNum) l5 c5 k5
  have b5 := F5.binds (ps := ["found"]) fun _ _ _ _ _ _ us hl => match us, hl with | [_], _ => rfl
  have F6 := fun_mk (st := sCome) l6 c6 k6
  have b6 := F6.binds (ps := ["far", "rows", "starts"]) fun _ _ _ _ _ _ us hl => match us, hl with | [_, _, _], _ => rfl
  have F7 := fun_mk (st := sBacked) l7 c7 k7
  have b7 := F7.binds (ps := ["far", "back", "rows", "starts", "mark"]) fun _ _ _ _ _ _ us hl => match us, hl with | [_, _, _, _, _], _ => rfl
  have F8 := fun_mk (st := sEndsL) l8 c8 k8
  have b8 := F8.binds (ps := ["back", "mark"]) fun _ _ _ _ _ _ us hl => match us, hl with | [_, _], _ => rfl
  have F9 := fun_mk (st := sInit) l9 c9 k9
  have b9 := F9.binds (ps := ["self"]) fun _ _ _ _ _ _ us hl => match us, hl with | [_], _ => rfl
  have F10 := fun_mk (st := sMany) l10 c10 k10
  have b10 := F10.binds (ps := ["self"]) fun _ _ _ _ _ _ us hl => match us, hl with | [_], _ => rfl
  have F11 := fun_mk (st := sAdd) l11 c11 k11
  have b11 := F11.binds (ps := ["self", "price", "mark"]) fun _ _ _ _ _ _ us hl => match us, hl with | [_, _, _], _ => rfl
  have F12 := fun_mk (st := sSink) l12 c12 k12
  have b12 := F12.binds (ps := ["self", "pair"]) fun _ _ _ _ _ _ us hl => match us, hl with | [_, _], _ => rfl
  have F13 := fun_mk (st := sTake) l13 c13 k13
  have b13 := F13.binds (ps := ["self"]) fun _ _ _ _ _ _ us hl => match us, hl with | [_], _ => rfl
  have F14 := fun_mk (st := sSpread) l14 c14 k14
  have b14 := F14.binds (ps := ["arcs", "starts"]) fun _ _ _ _ _ _ us hl => match us, hl with | [_, _], _ => rfl
  have F15 := fun_mk (st := slaw) l15 c15 k15
  refine ⟨PySem.W.fnOf "law" "law" (defArgs slaw) (defBody slaw) (defScope slaw) .none kV15 dc15 pm15 an15 cd15 ct15, fun s v => .of_eq rfl, fun base hB _ hBA hgP => ?_⟩
  have e0 : tbP K = (cC, cP) := by unfold tbP; rw [tb]; rfl
  have hcv : cd15 = .ref (tbP K).1 := by rw [e0]; exact tc
  have hCH : PySem.W.codeHdIn K (tbP K).1 (tbP K).2 = true := by rw [e0]; exact th
  have gCell : Callee l.prog w K mg base "_law_cell_at" 1 ["script", "k"] (spCell K) := ⟨f0, _, ok_Cell F0 T, PySem.W.mg_of X G a0, k0, b0⟩
  have gMark : Callee l.prog w K mg base "_law_mark" 1 ["kind", "k"] spMark := ⟨f1, _, ok_Mark F1 T, PySem.W.mg_of X G a1, k1, b1⟩
  have gPrice : Callee l.prog w K mg base "_law_price" 1 ["cell", "tight"] spPrice := ⟨f2, _, ok_Price F2 T, PySem.W.mg_of X G a2, k2, b2⟩
  have gRows : Callee l.prog w K mg base "_law_rows" 2 ["script", "marks", "tight"] (spRows K) := ⟨f3, _, ok_Rows F3 T gPrice, PySem.W.mg_of X G a3, k3, b3⟩
  have gStarts : Callee l.prog w K mg base "_law_starts" 2 ["script", "marks", "tight"] (spStarts K) := ⟨f4, _, ok_Starts F4 T gCell gPrice, PySem.W.mg_of X G a4, k4, b4⟩
  have gNum : Callee l.prog w K mg base "_law_number" 1 ["found"] spNum := ⟨f5, _, ok_Num F5 T, PySem.W.mg_of X G a5, k5, b5⟩
  have gCome : Callee l.prog w K mg base "_law_come_to" 2 ["far", "rows", "starts"] (spCome K) := ⟨f6, _, ok_Come F6 T gNum, PySem.W.mg_of X G a6, k6, b6⟩
  have gBacked : Callee l.prog w K mg base "_law_backed" 1 ["far", "back", "rows", "starts", "mark"] (spBacked K) := ⟨f7, _, ok_Backed F7 T, PySem.W.mg_of X G a7, k7, b7⟩
  have gEndsL : Callee l.prog w K mg base "_law_ends" 1 ["back", "mark"] spEndsL := ⟨f8, _, ok_EndsL F8 T, PySem.W.mg_of X G a8, k8, b8⟩
  have gInit : KCallee l.prog w K mg base cHeap "Heap" 1 ["self"] (spInit cHeap) := ⟨f9, _, ok_Init F9 T, ⟨mk_Heap, a9, i9, kc_Heap⟩, PySem.W.mg_of X G n_Heap, b9⟩
  have gMany : MCallee l.prog w K mg base cHeap "many" 1 ["self"] (spMany cHeap) := ⟨f10, _, ok_Many F10 T, ⟨a10, i10, k10⟩, b10⟩
  have gAdd : MCallee l.prog w K mg base cHeap "add" 1 ["self", "price", "mark"] (spAdd cHeap) := ⟨f11, _, ok_Add F11 T, ⟨a11, i11, k11⟩, b11⟩
  have gSink : MCallee l.prog w K mg base cHeap "sink" 1 ["self", "pair"] (spSink cHeap) := ⟨f12, _, ok_Sink F12 T, ⟨a12, i12, k12⟩, b12⟩
  have gTake : MCalleeX l.prog w K mg base cHeap "take" 2 ["self"] (spTake cHeap cNothingLeft) := ⟨f13, _, ok_Take F13 hB T gSink, ⟨a13, i13, k13⟩, b13⟩
  have gSpread : Callee l.prog w K mg base "spread" 3 ["arcs", "starts"] (spSpread mg) := ⟨f14, _, ok_Spread F14 T gInit gMany gAdd gTake, PySem.W.mg_of X G a14, k14, b14⟩
  exact ok_law F15 T hcv hCH hBA hgP gCell gMark gRows gStarts gCome gBacked gEndsL gSpread
theorem walk {l : PySem.W.OpenLaw} {q : Program} {loose : List Str} {XP : (Str → Option Value) → Heap → Prop} {YP : World → Heap → Prop} {d : DefRec} {K : Params → PySem.W.Frag} (hn : l.most = some 63) (hdf : d.params.defaults = [])
    (hY : ∀ (w : World) (h : Heap), YP w h → (K w.params).In h) (hrec : ∃ e, (PyProof.Rows.recsOf q).find? (fun e => e.name == ("law" : Str)) = some e) (hT : ∀ w : World, ∃ c P, PySem.W.tabIn (K w.params) "law" = some (c, P) ∧ (K w.params).lookup P = none)
    (F : ∀ (w : World) (mg : Str → Option Value) (fa : Addr) (h : Heap), (K w.params).In h → h.Ns mainGlobals mg → mg d.name = some (.ref fa) →
      ∃ fd : FuncData, (∀ (s : Shared) (u : Value), BindsTo s fd ⟨[u], []⟩ [("script", u)]) ∧ ∀ base : Heap, (K w.params).In base → base.Ns mainGlobals mg → base.BuiltinsAt mg (tbP (K w.params)).2 → mainGlobals ≠ (tbP (K w.params)).2 → FnOk l.prog w (K w.params) mg base CX0 4 fa fd ["script"] (spLaw (K w.params))) :
    PySem.W.WalkO q loose XP YP l.row.toRowW d [] (fun f vs => PySem.call f vs) := by
  have e0 : ∀ w : World, PySem.W.tabIn (K w.params) "law" = some (tbP (K w.params)) ∧ (K w.params).lookup (tbP (K w.params)).2 = none := fun w => by
    obtain ⟨c, P, h1, h2⟩ := hT w
    unfold tbP
    rw [h1]
    exact ⟨rfl, h2⟩
  refine L2.walk_ofT (n := 63) (k := 4) (x := "script") (xs := ["law"]) (CX := fun _ => CX0) (sp := fun w => spLaw (K w.params)) hn (by decide) hdf ⟨rfl, by decide, by decide, rfl⟩ hY (fun w => [tbP (K w.params)]) (fun y hy => ?_) (fun w t ht => ?_) (fun w mg fa h KX G hmg => ?_) (fun w H a ns hl _ hT hS => ⟨a, ns, rfl, hS, hl, hT _ (List.mem_singleton.mpr rfl), fun _ => rfl⟩) fun _ _ _ _ _ z => z
  · rw [List.mem_singleton.mp hy]; exact hrec
  · rw [List.mem_singleton.mp ht]; exact ⟨⟨_, List.mem_singleton.mpr rfl, (e0 w).1⟩, (e0 w).2⟩
  · obtain ⟨fd, h1, h2⟩ := F w mg fa h KX G hmg
    exact ⟨fd, h1, fun base hB hN hBM => h2 base hB hN (hBM _ (List.mem_singleton.mpr rfl)).1 (hBM _ (List.mem_singleton.mpr rfl)).2⟩
end K22
open PySem PySem.W PyProof.Rows
set_option maxRecDepth 100000 in
set_option maxHeartbeats 0 in
theorem PySem.Challenge.cw_wirefloor_k22_spread_holds : PySem.Challenge.rw_wirefloor_k22_spread.Holds := by
  w_on; o_law; k_head; (case hw => w_witness2)
  k_fill
  refine K22.walk (l := PySem.Challenge.rw_wirefloor_k22_spread) rfl rfl (fun w h Y => PySem.W.km_in_of Y) ⟨_, by first | rfl | decide +kernel⟩ ?T ?F
  case T =>
    intro w
    refine' ⟨162, 160, ?tbx, ?tnx⟩
    (case tbx => kernel_rfl)
    (case tnx => kernel_rfl)
  case F =>
    intro w mg fa h KX G hmg
    refine' K22.all_mk KX G hmg ?n_Heap ?a0 ?l0 ?c0 ?k0 ?a1 ?l1 ?c1 ?k1 ?a2 ?l2 ?c2 ?k2 ?a3 ?l3 ?c3 ?k3 ?a4 ?l4 ?c4 ?k4 ?a5 ?l5 ?c5 ?k5 ?a6 ?l6 ?c6 ?k6 ?a7 ?l7 ?c7 ?k7 ?a8 ?l8 ?c8 ?k8 ?a9 ?i9 ?l9 ?c9 ?k9 ?a10 ?i10 ?l10 ?c10 ?k10 ?a11 ?i11 ?l11 ?c11 ?k11 ?a12 ?i12 ?l12 ?c12 ?k12 ?a13 ?i13 ?l13 ?c13 ?k13 ?a14 ?l14 ?c14 ?k14 ?a15 ?l15 ?c15 ?k15 ?pg_Heap ?hd_Heap ?po_Heap ?sa_Heap ?mk_Heap ?kc_Heap ?na_Heap_pairs ?n_WireError ?n_NothingLeft ?x_NothingLeft ?ga_NothingLeft ?gt_NothingLeft ?cl_NothingLeft ?gg_NothingLeft ?tk_NothingLeft ?ob_NothingLeft ?be_NothingLeft ?z_len ?z_range ?z_isinstance ?z_int ?z_bool ?z_tuple ?z_dict ?z_list ?z_sorted ?z_ValueError ?ii ?ib ?tt ?dd ?tb ?tc ?th
    (case n_Heap => k_is)
    (case a0 => k_is)
    (case l0 => k_is)
    (case c0 => k_is)
    (case k0 => k_is)
    (case a1 => k_is)
    (case l1 => k_is)
    (case c1 => k_is)
    (case k1 => k_is)
    (case a2 => k_is)
    (case l2 => k_is)
    (case c2 => k_is)
    (case k2 => k_is)
    (case a3 => k_is)
    (case l3 => k_is)
    (case c3 => k_is)
    (case k3 => k_is)
    (case a4 => k_is)
    (case l4 => k_is)
    (case c4 => k_is)
    (case k4 => k_is)
    (case a5 => k_is)
    (case l5 => k_is)
    (case c5 => k_is)
    (case k5 => k_is)
    (case a6 => k_is)
    (case l6 => k_is)
    (case c6 => k_is)
    (case k6 => k_is)
    (case a7 => k_is)
    (case l7 => k_is)
    (case c7 => k_is)
    (case k7 => k_is)
    (case a8 => k_is)
    (case l8 => k_is)
    (case c8 => k_is)
    (case k8 => k_is)
    (case a9 => k_is)
    (case i9 => k_is)
    (case l9 => k_is)
    (case c9 => k_is)
    (case k9 => k_is)
    (case a10 => k_is)
    (case i10 => k_is)
    (case l10 => k_is)
    (case c10 => k_is)
    (case k10 => k_is)
    (case a11 => k_is)
    (case i11 => k_is)
    (case l11 => k_is)
    (case c11 => k_is)
    (case k11 => k_is)
    (case a12 => k_is)
    (case i12 => k_is)
    (case l12 => k_is)
    (case c12 => k_is)
    (case k12 => k_is)
    (case a13 => k_is)
    (case i13 => k_is)
    (case l13 => k_is)
    (case c13 => k_is)
    (case k13 => k_is)
    (case a14 => k_is)
    (case l14 => k_is)
    (case c14 => k_is)
    (case k14 => k_is)
    (case a15 => k_is)
    (case l15 => k_is)
    (case c15 => k_is)
    (case k15 => k_is)
    (case pg_Heap => k_is)
    (case hd_Heap => k_is)
    (case po_Heap => k_is)
    (case sa_Heap => k_is)
    (case mk_Heap => k_is)
    (case kc_Heap => k_is)
    (case na_Heap_pairs => k_is)
    (case n_WireError => k_is)
    (case n_NothingLeft => k_is)
    (case x_NothingLeft => k_exc)
    (case ga_NothingLeft => k_is)
    (case gt_NothingLeft => k_is)
    (case cl_NothingLeft => k_is)
    (case gg_NothingLeft => k_is)
    (case tk_NothingLeft => k_is)
    (case ob_NothingLeft => k_is)
    (case be_NothingLeft => k_is)
    (case z_len => k_is)
    (case z_range => k_is)
    (case z_isinstance => k_is)
    (case z_int => k_is)
    (case z_bool => k_is)
    (case z_tuple => k_is)
    (case z_dict => k_is)
    (case z_list => k_is)
    (case z_sorted => k_is)
    (case z_ValueError => k_is)
    (case ii => kit_is)
    (case ib => kit_is)
    (case tt => kit_is)
    (case dd => kit_is)
    (case tb => (show PySem.W.tabIn _ _ = some (162, 160); kernel_rfl))
    (case tc => rfl)
    (case th => kernel_rfl)
