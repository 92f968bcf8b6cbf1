import PyProof.Rows.All
import Wide.All
import OpenK.AllK
import Wide.FinOn
import Lean
import PyProof.EqAt
import PyProof.EqKinds
import PyProof.TupleCall
import OpenK.KRaise
import OpenK.KOwn
import KE.KTryMore
import KE.RegKTryMore
import PyProof.ExcArgsOwn
import KE.KIntText
import KE.KSortTup
import KE.KDictOf
import KE.KRevIter
import KE.KEqDict
import PyProof.Rows.SetFrom
import PyProof.TupleKey
import PyProof.Rows.SetObj
import PyProof.SetRoads
import PyProof.IsiH_list
import PyProof.ZipIter
import PyProof.Rows.TupIter
import PyProof.DictValues
import PyProof.DictWalks
import KE.KDictSum
import KE.KNest
import KE.KLam
import KE.KNestM
import KE.KDictList
import KE.KDictLaws
import PySem.Challenge.RW_wirefloor_k16_boxes_and_runs
set_option Elab.async false
set_option linter.all false
set_option maxRecDepth 100000
namespace L2
open PySem PySem.Spec PyProof.Rows
abbrev Key := Sum Int Str
def keyIs : Key → Value → Bool
  | .inl k, v => Value.isInt k v
  | .inr x, v => Value.isStrOf x v
def keyH (w : World) : Key → Int
  | .inl k => hashInt k
  | .inr x => hashStr w x
theorem keyIs_shape : ∀ {k : Key} {v : Value}, keyIs k v = true → (∃ i t, k = Sum.inl i ∧ v = Value.int i t) ∨ (∃ x t, k = Sum.inr x ∧ v = Value.str x t)
  | .inl i, v, h => by
    obtain ⟨t, e⟩ := Value.isInt_shape (k := i) (v := v) h
    exact .inl ⟨i, t, rfl, e⟩
  | .inr x, v, h => by
    obtain ⟨t, e⟩ := Value.isStrOf_shape (x := x) (v := v) h
    exact .inr ⟨x, t, rfl, e⟩
theorem keyIs_int (i : Int) (t : Tok) : keyIs (.inl i) (.int i t) = true := by simp [keyIs, Value.isInt]
theorem keyIs_str (x : Str) (t : Tok) : keyIs (.inr x) (.str x t) = true := by simp [keyIs, Value.isStrOf]
theorem key_ll (a b : Int) : decide ((Sum.inl a : Key) = Sum.inl b) = (a == b) := by
  by_cases e : a = b
  · subst e; simp
  · have h : ¬ (Sum.inl a : Key) = Sum.inl b := fun q => e (Sum.inl.inj q)
    rw [decide_eq_false h]
    exact (beq_eq_false_iff_ne.mpr e).symm
theorem key_rr (a b : Str) : decide ((Sum.inr a : Key) = Sum.inr b) = decide (a = b) := by
  by_cases e : a = b
  · subst e; simp
  · have h : ¬ (Sum.inr a : Key) = Sum.inr b := fun q => e (Sum.inr.inj q)
    rw [decide_eq_false h, decide_eq_false e]
theorem key_lr (a : Int) (b : Str) : decide ((Sum.inl a : Key) = Sum.inr b) = false := decide_eq_false (fun q => nomatch q)
theorem key_rl (a : Str) (b : Int) : decide ((Sum.inr a : Key) = Sum.inl b) = false := decide_eq_false (fun q => nomatch q)
def mixKind (prog : Program) (w : World) : PySem.KeyKind prog w Key where
  is := keyIs
  hash := keyH w
  inj := fun v a b ha hb => by
    rcases keyIs_shape ha with ⟨i, t, rfl, rfl⟩ | ⟨x, t, rfl, rfl⟩
    · rcases keyIs_shape hb with ⟨j, u, rfl, e⟩ | ⟨y, u, rfl, e⟩
      · injection e with e1 _; rw [e1]
      · exact nomatch e
    · rcases keyIs_shape hb with ⟨j, u, rfl, e⟩ | ⟨y, u, rfl, e⟩
      · exact nomatch e
      · injection e with e1 _; rw [e1]
  byValue := fun k v h => by
    rcases keyIs_shape h with ⟨i, t, rfl, rfl⟩ | ⟨x, t, rfl, rfl⟩ <;> rfl
  pyHash := fun hv h => by
    rcases keyIs_shape hv with ⟨i, t, rfl, rfl⟩ | ⟨x, t, rfl, rfl⟩
    · exact wpAny_pyHash_int h
    · exact wpAny_pyHash_str h
  eqBool := fun hu hv h => by
    rcases keyIs_shape hu with ⟨i, t, rfl, rfl⟩ | ⟨x, t, rfl, rfl⟩
    · rcases keyIs_shape hv with ⟨j, u, rfl, rfl⟩ | ⟨y, u, rfl, rfl⟩
      · rw [key_ll] at h; exact wpAny_eqBool_int h
      · rw [key_lr] at h; exact SeqAt.EqAt.int_str i t y u _ _ _ _ h
    · rcases keyIs_shape hv with ⟨j, u, rfl, rfl⟩ | ⟨y, u, rfl, rfl⟩
      · rw [key_rl] at h; exact SeqAt.EqAt.str_int x t j u _ _ _ _ h
      · rw [key_rr] at h; exact wpAny_eqBool_str h
  «strs» := fun k x t v h => by
    rcases keyIs_shape h with ⟨i, u, rfl, e⟩ | ⟨y, u, rfl, e⟩
    · exact nomatch e
    · injection e with e1 _
      subst e1
      cases v <;> rfl
theorem mixKind_int (prog : Program) (w : World) (i : Int) (t : Tok) : (mixKind prog w).is (.inl i) (.int i t) = true := keyIs_int i t
theorem mixKind_str (prog : Program) (w : World) (x : Str) (t : Tok) : (mixKind prog w).is (.inr x) (.str x t) = true := keyIs_str x t
end L2
namespace L2
open PySem PySem.Spec PyProof.Rows
inductive V where
  | non | bl (b : Bool) | int (i : Int) | str (x : Str) | byt (b : Array UInt8) | flt (b : UInt64) | ref (a : Addr) | ty (n : String)
  deriving DecidableEq
def RelV : V → Value → Prop
  | .non, u => u = Value.none
  | .bl b, u => u = Value.bool b
  | .int i, u => ∃ t, u = Value.int i t
  | .str x, u => ∃ t, u = Value.str x t
  | .byt b, u => ∃ t, u = Value.bytes b t
  | .flt b, u => ∃ t, u = Value.float b t
  | .ref a, u => u = Value.ref a
  | .ty n, u => u = Value.type n
abbrev Vals : List V → List Value → Prop := Paired RelV
theorem Vals.length {xs : List V} {us : List Value} (r : Vals xs us) : xs.length = us.length := Paired.length r
theorem Vals.get : ∀ {xs : List V} {us : List Value} {i : Nat} {x : V}, Vals xs us → xs[i]? = some x → ∃ u, us[i]? = some u ∧ RelV x u
  | _, _, _, _, .nil, e => by simp at e
  | _, _, 0, _, .cons r _, e => by simp at e; subst e; exact ⟨_, rfl, r⟩
  | _, _, i + 1, x, .cons _ t, e => by
    obtain ⟨u, h1, h2⟩ := Vals.get (i := i) (x := x) t (by simpa using e)
    exact ⟨u, by simpa using h1, h2⟩
theorem Vals.set {x : V} {u : Value} (r : RelV x u) : ∀ {xs : List V} {us : List Value} (i : Nat), Vals xs us → Vals (xs.set i x) (us.set i u)
  | _, _, _, .nil => .nil
  | _, _, 0, .cons _ t => .cons r t
  | _, _, i + 1, .cons q t => .cons q (Vals.set r i t)
theorem Vals.append : ∀ {xs ys : List V} {us ws : List Value}, Vals xs us → Vals ys ws → Vals (xs ++ ys) (us ++ ws)
  | _, _, _, _, .nil, s => s
  | _, _, _, _, .cons r t, s => .cons r (Vals.append t s)
theorem Vals.take : ∀ {xs : List V} {us : List Value} (n : Nat), Vals xs us → Vals (xs.take n) (us.take n)
  | _, _, 0, _ => .nil
  | _, _, _ + 1, .nil => .nil
  | _, _, n + 1, .cons r t => .cons r (Vals.take n t)
theorem Vals.drop : ∀ {xs : List V} {us : List Value} (n : Nat), Vals xs us → Vals (xs.drop n) (us.drop n)
  | _, _, 0, r => r
  | _, _, _ + 1, .nil => .nil
  | _, _, n + 1, .cons _ t => Vals.drop n t
theorem Vals.none_of : ∀ {xs : List V} {us : List Value} {i : Nat}, Vals xs us → xs[i]? = none → us[i]? = none := fun {xs us i} r e => by
  have h1 := r.length
  have h2 : xs.length ≤ i := List.getElem?_eq_none_iff.mp e
  exact List.getElem?_eq_none_iff.mpr (by omega)
def RelO : Option V → Option Value → Prop
  | some v, some u => RelV v u
  | none, none => True
  | _, _ => False
def KV {κ : Type} : List (κ × V) → List (κ × Value) → Prop := Paired fun (p : κ × V) (q : κ × Value) => p.1 = q.1 ∧ RelV p.2 q.2
def kV : Key → V
  | .inl i => .int i
  | .inr x => .str x
inductive HO where
  | lst (xs : List V)
  | tup (xs : List V)
  | dK (kvs : List (Key × V)) | dT (kvs : List (List Key × V))
  | set (S : Int → Bool) (n : Nat)
  | ins (C dx : Addr) (fs : List (Str × V))
  | own (x : Addr)
  | xd (fs : List (Str × V))
  | met (f x : Addr)
  | rng (lo hi : Int)
  | frz (o : Obj) (u : HO)
  | tbl (ps : Array Value)
  | ext (φ : Heap → Prop)
abbrev Hp := Addr → Option HO
def upd (H : Hp) (a : Addr) (o : HO) : Hp := fun b => if b = a then some o else H b
theorem upd_same {H : Hp} {a : Addr} {o : HO} : upd H a o a = some o := by unfold upd; rw [if_pos rfl]
theorem upd_ne {H : Hp} {a b : Addr} {o : HO} (h : b ≠ a) : upd H a o b = H b := by unfold upd; rw [if_neg h]
theorem ne_of {H : Hp} {a b : Addr} {o u : HO} (h : H a = some o) (h' : H b = some u) (d : o ≠ u) : a ≠ b := by
  intro e; subst e; rw [h] at h'; exact d (Option.some.inj h')
theorem ne_of_none {H : Hp} {a b : Addr} {o : HO} (h : H a = some o) (h' : H b = none) : a ≠ b := by
  intro e; subst e; rw [h] at h'; cases h'
section
variable (P : Program) (w : World)
def ObjOk (H : Hp) (h : Heap) (a : Addr) : HO → Prop
  | .lst xs => xs.length ≤ sizeLine ∧ ∃ (its : List Value) (n : Nat), Vals xs its ∧ h.get? a = some { cls := .type "list", data := .seq its.toArray n }
  | .tup xs => xs.length ≤ sizeLine ∧ ∃ its : List Value, Vals xs its ∧ IsTup h a its.toArray
  | .dK kvs => kvs.length ≤ sizeLine ∧ (a == sysModules) = false ∧ ∃ vs, KV kvs vs ∧ h.DictOf (mixKind P w) a vs
  | .dT kvs => kvs.length ≤ sizeLine ∧ (a == sysModules) = false ∧ ∃ xs : List (List Key × Addr × Value),
      Paired (fun (p : List Key × V) (q : List Key × Addr × Value) => p.1 = q.1 ∧ H q.2.1 = some (.tup (p.1.map kV)) ∧ RelV p.2 q.2.2) kvs xs ∧
      ∃ o es ep, h.get? a = some o ∧ o.ExactDict ∧ o.data = .dict es ep ∧ es.toList = xs.map (entryOfKey (tupleKind (mixKind P w))) ∧ (xs.map (·.1)).Nodup
  | .set S n => h.SetOf (intKind P w) a S n
  | .ins C dx fs => H dx = some (.own a) ∧ fs.length ≤ 1000 ∧ dx ≠ a ∧ h.get? a = some (PySem.W.instObj C dx) ∧
      ∃ mA, h.Ns1 dx mA ∧ (∀ f, RelO (fs.lookup f) (mA f)) ∧ PySem.Within mA (fs.map (·.1))
  | .own _ => ∃ o, h.get? a = some o
  | .xd fs => ∃ mA, h.Ns1 a mA ∧ ∀ f, RelO (fs.lookup f) (mA f)
  | .rng lo hi => ∃ t u v, h.get? a = some { cls := .type "range", data := .fields #[.int lo t, .int hi u, .int 1 v] }
  | .frz o u => h.get? a = some o ∧ ObjOk H h a u
  | .tbl ps => h.get? a = some { cls := .none, data := .fields ps }
  | .met f x => h.get? a = some (PySem.W.methodObj (.ref f) (.ref x))
  | .ext φ => φ h ∧ (∃ o, h.get? a = some o) ∧ ∀ h1 h2 : Heap, φ h1 → (∀ o, h1.get? a = some o → h2.get? a = some o) → φ h2
def HOk (H : Hp) (h : Heap) : Prop := ∀ a o, H a = some o → ObjOk P w H h a o
end
section
variable {P : Program} {w : World} {H H' : Hp} {h h' : Heap} {a : Addr} {o : HO}
theorem ObjOk.lt (x : ObjOk P w H h a o) : a < h.objs.size := by
  cases o with
  | lst xs => obtain ⟨_, _, _, _, e⟩ := x; exact Heap.lt_size e
  | tup xs => obtain ⟨_, _, _, p⟩ := x; exact p.lt
  | dK kvs => obtain ⟨_, _, _, _, o, _, _, e, _⟩ := x; exact Heap.lt_size e
  | dT kvs => obtain ⟨_, _, _, _, o, _, _, e, _⟩ := x; exact Heap.lt_size e
  | set S n => obtain ⟨o, _, _, _, e, _⟩ := x; exact Heap.lt_size e
  | ins C dx fs => obtain ⟨_, _, _, e, _⟩ := x; exact Heap.lt_size e
  | own y => obtain ⟨_, e⟩ := x; exact Heap.lt_size e
  | xd fs => obtain ⟨_, ⟨_, _, _, e, _⟩, _⟩ := x; exact Heap.lt_size e
  | rng lo hi => obtain ⟨_, _, _, e⟩ := x; exact Heap.lt_size e
  | frz ob u => obtain ⟨e, _⟩ := x; exact Heap.lt_size e
  | tbl ps => exact Heap.lt_size (show h.get? a = some _ from x)
  | met f y => exact Heap.lt_size (show h.get? a = some _ from x)
  | ext φ => obtain ⟨_, ⟨_, e⟩, _⟩ := x; exact Heap.lt_size e
theorem Paired.mapP {α β : Type} {F G : α → β → Prop} : ∀ {l₁ : List α} {l₂ : List β}, Paired F l₁ l₂ → (∀ a b, F a b → G a b) → Paired G l₁ l₂
  | _, _, .nil, _ => .nil
  | _, _, .cons r t, f => .cons (f _ _ r) (Paired.mapP t f)
theorem ObjOk.stay (x : ObjOk P w H h a o) (k : ∀ b u, (b = a ∨ H b = some (.own a)) → h.get? b = some u → h'.get? b = some u)
    (ho : ∀ b, H b = some (.own a) → H' b = some (.own a)) (ht : ∀ b xs, H b = some (.tup xs) → H' b = some (.tup xs)) : ObjOk P w H' h' a o := by
  induction o with
  | lst xs => obtain ⟨z, its, n, r, e⟩ := x; exact ⟨z, its, n, r, k _ _ (.inl rfl) e⟩
  | tup xs => obtain ⟨z, its, r, ob, e, c⟩ := x; exact ⟨z, its, r, ob, k _ _ (.inl rfl) e, c⟩
  | dK kvs => obtain ⟨z, y, vs, r, ob, es, ep, e, c⟩ := x; exact ⟨z, y, vs, r, ob, es, ep, k _ _ (.inl rfl) e, c⟩
  | dT kvs =>
    obtain ⟨z, y, xs, r, ob, es, ep, e, c⟩ := x
    exact ⟨z, y, xs, Paired.mapP r fun p q z => ⟨z.1, ht _ _ z.2.1, z.2.2⟩, ob, es, ep, k _ _ (.inl rfl) e, c⟩
  | set S n => obtain ⟨ob, es, ep, t, e, c⟩ := x; exact ⟨ob, es, ep, t, k _ _ (.inl rfl) e, c⟩
  | ins C dx fs =>
    obtain ⟨d, z, ne, e, mA, ⟨od, es, ep, e2, c⟩, r⟩ := x
    exact ⟨ho _ d, z, ne, k _ _ (.inl rfl) e, mA, ⟨od, es, ep, k _ _ (.inr d) e2, c⟩, r⟩
  | own y => obtain ⟨ob, e⟩ := x; exact ⟨ob, k _ _ (.inl rfl) e⟩
  | xd fs => obtain ⟨mA, ⟨od, es, ep, e, c⟩, r⟩ := x; exact ⟨mA, ⟨od, es, ep, k _ _ (.inl rfl) e, c⟩, r⟩
  | rng lo hi => obtain ⟨t, u, v, e⟩ := x; exact ⟨t, u, v, k _ _ (.inl rfl) e⟩
  | frz ob u ih => obtain ⟨e, q⟩ := x; exact ⟨k _ _ (.inl rfl) e, ih q⟩
  | tbl ps =>
    have e : h.get? a = some { cls := .none, data := .fields ps } := x
    show h'.get? a = some { cls := .none, data := .fields ps }
    exact k a _ (.inl rfl) e
  | met f y =>
    have e : h.get? a = some (PySem.W.methodObj (.ref f) (.ref y)) := x
    show h'.get? a = some (PySem.W.methodObj (.ref f) (.ref y))
    exact k a _ (.inl rfl) e
  | ext φ => obtain ⟨p, ⟨o, e⟩, st⟩ := x; exact ⟨st _ _ p fun o q => k _ _ (.inl rfl) q, ⟨o, k _ _ (.inl rfl) e⟩, st⟩
theorem HOk.lt (x : HOk P w H h) (e : H a = some o) : a < h.objs.size := (x a o e).lt
theorem HOk.fresh (x : HOk P w H h) (e : h.objs.size ≤ a) : H a = none := by
  cases q : H a with
  | none => rfl
  | some u => exact absurd (Nat.lt_of_lt_of_le (x.lt q) e) (Nat.lt_irrefl _)
theorem HOk.kept (x : HOk P w H h) (k : ∀ b u, h.get? b = some u → h'.get? b = some u) : HOk P w H h' := fun a o e =>
  (x a o e).stay (fun b u _ q => k b u q) (fun _ q => q) fun _ _ q => q
theorem HOk.laid (x : HOk P w H h) (k : ∀ b u, h.get? b = some u → h'.get? b = some u) (hp : h.objs.size ≤ a) (new : ObjOk P w (upd H a o) h' a o) : HOk P w (upd H a o) h' := fun b u e => by
  have hn := x.fresh hp
  by_cases hb : b = a
  · subst hb; rw [upd_same] at e; cases e; exact new
  · rw [upd_ne hb] at e
    exact (x b u e).stay (fun c v _ q => k c v q) (fun c q => by rw [upd_ne (ne_of_none q hn)]; exact q) fun c xs q => by rw [upd_ne (ne_of_none q hn)]; exact q
end
def Rd (H : Hp) (a : Addr) (u : HO) : Prop := H a = some u ∨ ∃ o, H a = some (.frz o u)
theorem Rd.of {H : Hp} {a : Addr} {u : HO} (h : H a = some u) : Rd H a u := .inl h
theorem Rd.ok {P : Program} {w : World} {H : Hp} {h : Heap} {a : Addr} {u : HO} (r : Rd H a u) (x : HOk P w H h) : ObjOk P w H h a u := by
  rcases r with r | ⟨o, r⟩
  · exact x a u r
  · obtain ⟨_, q⟩ := x a _ r
    exact q
def Mut : Option HO → Prop
  | some (.lst _) => True
  | some (.dK _) => True
  | some (.dT _) => True
  | some (.set _ _) => True
  | some (.ins _ _ _) => True
  | some (.ext _) => True
  | _ => False
section
variable {P : Program} {w : World} {H : Hp} {h h' : Heap} {x e : Addr} {o' : HO}
theorem HOk.write (ok : HOk P w H h) (mu : Mut (H x)) (he : e = x ∨ H e = some (.own x)) (k : ∀ b u, b ≠ e → h.get? b = some u → h'.get? b = some u) (heo : ∃ u, h'.get? e = some u)
    (new : ObjOk P w (upd H x o') h' x o') : HOk P w (upd H x o') h' := fun b u q => by
  have nown : ∀ c y, H c = some (.own y) → c ≠ x := fun c y r z => by subst z; rw [r] at mu; exact mu
  have ntup : ∀ c xs, H c = some (.tup xs) → c ≠ x := fun c xs r z => by subst z; rw [r] at mu; exact mu
  by_cases hb : b = x
  · subst hb; rw [upd_same] at q; cases q; exact new
  · rw [upd_ne hb] at q
    by_cases hbe : b = e
    · have q' : H b = some (.own x) := by
        rcases he with z | z
        · exact absurd (hbe.trans z) hb
        · rw [hbe]; exact z
      rw [q] at q'; cases q'
      obtain ⟨v, hv⟩ := heo
      exact ⟨v, by rw [hbe]; exact hv⟩
    · refine (ok b u q).stay (fun c v hc r => k c v ?_ r) (fun c r => by rw [upd_ne (nown c b r)]; exact r) fun c xs r => by rw [upd_ne (ntup c xs r)]; exact r
      rcases hc with rfl | hc
      · exact hbe
      · rintro rfl
        rcases he with z | z
        · exact nown c b hc z
        · rw [hc] at z; cases z; exact hb rfl
end
structure Un (fs ex : List Addr) (H H' : Hp) (h h' : Heap) : Prop where
  keep : ∀ b o, h.get? b = some o → H b = none → b ∉ fs → b ∉ ex → h'.get? b = some o
  slot : ∀ b o, h.get? b = some o → H b = none → b ∈ fs → b ∉ ex → ∃ sl, h'.get? b = some { o with slots := sl }
  free : ∀ b o, h.get? b = some o → H b = none → b ∉ ex → H' b = none
  there : ∀ b o, h.get? b = some o → b ∉ ex → ∃ o', h'.get? b = some o'
  tups : ∀ b xs, H b = some (.tup xs) → H' b = some (.tup xs)
  frzs : ∀ b o u, H b = some (.frz o u) → H' b = some (.frz o u)
  tbls : ∀ b ps, H b = some (.tbl ps) → ∃ more, H' b = some (.tbl (ps ++ more))
section
variable {fs fs' ex ex' : List Addr} {H H1 H2 : Hp} {h h1 h2 h' : Heap} {a x e : Addr} {o : HO}
theorem Un.any (u : Un fs ex H H1 h h1) {b : Addr} {ob : Obj} (q : h.get? b = some ob) (n : H b = none) (hx : b ∉ ex) : ∃ sl, h1.get? b = some { ob with slots := sl } := by
  by_cases hb : b ∈ fs
  · exact u.slot b ob q n hb hx
  · exact ⟨ob.slots, u.keep b ob q n hb hx⟩
theorem Un.trans (a : Un fs ex H H1 h h1) (b : Un fs ex H1 H2 h1 h2) : Un fs ex H H2 h h2 where
  keep := fun c ob q n hc hx => b.keep c ob (a.keep c ob q n hc hx) (a.free c ob q n hx) hc hx
  slot := fun c ob q n hc hx => by
    obtain ⟨sl, e1⟩ := a.slot c ob q n hc hx
    obtain ⟨sl', e2⟩ := b.slot c _ e1 (a.free c ob q n hx) hc hx
    exact ⟨sl', e2⟩
  free := fun c ob q n hx => by
    obtain ⟨o', e1⟩ := a.there c ob q hx
    exact b.free c o' e1 (a.free c ob q n hx) hx
  there := fun c ob q hx => by
    obtain ⟨o', e1⟩ := a.there c ob q hx
    exact b.there c o' e1 hx
  tups := fun c xs q => b.tups c xs (a.tups c xs q)
  frzs := fun c ob xs q => b.frzs c ob xs (a.frzs c ob xs q)
  tbls := fun c ps q => by
    obtain ⟨m1, e1⟩ := a.tbls c ps q
    obtain ⟨m2, e2⟩ := b.tbls c _ e1
    exact ⟨m1 ++ m2, by rw [e2, Array.append_assoc]⟩
theorem Un.kept (k : ∀ b u, h.get? b = some u → h'.get? b = some u) : Un fs ex H H h h' :=
  ⟨fun b ob q _ _ _ => k b ob q, fun b ob q _ _ _ => ⟨ob.slots, k b ob q⟩, fun _ _ _ n _ => n, fun b ob q _ => ⟨ob, k b ob q⟩, fun _ _ q => q, fun _ _ _ q => q, fun _ ps q => ⟨#[], by rw [q]; simp⟩⟩
theorem Un.refl : Un fs ex H H h h := Un.kept fun _ _ q => q
theorem Un.laid (k : ∀ b u, h.get? b = some u → h'.get? b = some u) (hp : h.objs.size ≤ a) (hn : H a = none) : Un fs ex H (upd H a o) h h' where
  keep := fun b u q _ _ _ => k b u q
  slot := fun b u q _ _ _ => ⟨u.slots, k b u q⟩
  free := fun b u q n _ => by rw [upd_ne (Nat.ne_of_lt (Nat.lt_of_lt_of_le (Heap.lt_size q) hp))]; exact n
  there := fun b u q _ => ⟨u, k b u q⟩
  tups := fun b xs q => by rw [upd_ne (ne_of_none q hn)]; exact q
  frzs := fun b u xs q => by rw [upd_ne (ne_of_none q hn)]; exact q
  tbls := fun b ps q => ⟨#[], by rw [upd_ne (ne_of_none q hn), q]; simp⟩
theorem Un.write (mu : Mut (H x)) (he : e = x ∨ H e = some (.own x)) (k : ∀ b u, b ≠ e → h.get? b = some u → h'.get? b = some u) (heo : ∃ u, h'.get? e = some u) : Un fs ex H (upd H x o) h h' := by
  have hx : ∀ b, H b = none → b ≠ x := fun b n z => by subst z; rw [n] at mu; exact mu
  have hb : ∀ b, H b = none → b ≠ e := fun b n z => by
    subst z
    rcases he with r | r
    · exact hx b n r
    · rw [n] at r; cases r
  have hm : ∀ b u, H b = some u → ¬ Mut (some u) → b ≠ x := fun b u q nm z => by subst z; rw [q] at mu; exact nm mu
  refine ⟨fun b u q n _ _ => k b u (hb b n) q, fun b u q n _ _ => ⟨u.slots, k b u (hb b n) q⟩, fun b u q n _ => by rw [upd_ne (hx b n)]; exact n, fun b u q _ => ?_,
    fun b xs q => by rw [upd_ne (hm b _ q fun z => z)]; exact q, fun b u xs q => by rw [upd_ne (hm b _ q fun z => z)]; exact q, fun b ps q => ⟨#[], by rw [upd_ne (hm b _ q fun z => z), q]; simp⟩⟩
  by_cases hbe : b = e
  · subst hbe; exact heo
  · exact ⟨u, k b u hbe q⟩
theorem Un.mono (u : Un fs ex H H1 h h1) (hs : ∀ b ∈ fs, b ∈ fs') (hx : ∀ b ∈ ex, b ∈ ex') : Un fs' ex' H H1 h h1 :=
  ⟨fun b ob q n hb he => u.keep b ob q n (fun z => hb (hs b z)) fun z => he (hx b z), fun _ _ q n _ he => u.any q n fun z => he (hx _ z), fun b ob q n he => u.free b ob q n fun z => he (hx b z), fun b ob q he => u.there b ob q fun z => he (hx b z), u.tups, u.frzs, u.tbls⟩
end
def trk (h : Heap) (H : Hp) : List Addr := (List.range h.objs.size).filter fun a => (H a).isSome
def hidT (h : Heap) (H : Hp) : Heap := PySem.W.hideAll h (trk h H)
theorem hidT_size (h : Heap) (H : Hp) : (hidT h H).objs.size = h.objs.size := PySem.W.hideAll_size _ _
theorem hidT_get {h : Heap} {H : Hp} {b : Addr} {o : Obj} (e : h.get? b = some o) (n : H b = none) : (hidT h H).get? b = some o :=
  PySem.W.hideAll_get _ e fun hm => by
    have q : (H b).isSome = true := (List.mem_filter.mp hm).2
    rw [n] at q; simp at q
theorem of_hidT {h : Heap} {H : Hp} {b : Addr} {o : Obj} (e : (hidT h H).get? b = some o) : h.get? b = some o ∧ H b = none := by
  have e' : h.get? b = some o := PySem.W.of_hideAll (trk h H) e
  refine ⟨e', ?_⟩
  cases q : H b with
  | none => rfl
  | some x =>
    have hm : b ∈ trk h H := List.mem_filter.mpr ⟨List.mem_range.mpr (Heap.lt_size e'), by simp [q]⟩
    have z : (hidT h H).get? b = none := PySem.W.hideAll_none (trk h H) hm
    rw [z] at e; cases e
def allNews (g h : Heap) (L : Addr) : List (Addr × Obj) := (List.range h.objs.size).filterMap fun a => if a = L ∨ (g.get? a).isSome = true then none else (h.get? a).map fun o => (a, o)
theorem mem_allNews {g h : Heap} {L a : Addr} {o : Obj} (h1 : a ≠ L) (h2 : g.get? a = none) (h3 : h.get? a = some o) : (a, o) ∈ allNews g h L :=
  List.mem_filterMap.mpr ⟨a, List.mem_range.mpr (Heap.lt_size h3), by simp [h1, h2, h3]⟩
theorem of_mem_allNews {g h : Heap} {L : Addr} {p : Addr × Obj} (hp : p ∈ allNews g h L) : p.1 ≠ L ∧ g.get? p.1 = none ∧ h.get? p.1 = some p.2 := by
  obtain ⟨b, _, e⟩ := List.mem_filterMap.mp hp
  split at e
  · cases e
  · rename_i hn
    cases q : h.get? b with
    | none => rw [q] at e; simp at e
    | some u =>
      rw [q] at e
      simp only [Option.map_some, Option.some.injEq] at e
      subst e
      refine ⟨fun z => hn (.inl z), ?_, q⟩
      show g.get? b = none
      cases r : g.get? b with
      | none => rfl
      | some v => exact (hn (.inr (by simp [r]))).elim
def rest (g h : Heap) (L d : Addr) : List (Addr × Obj) := (allNews g h L).filter fun p => decide (p.1 ≠ d)
theorem news_all {g h : Heap} {L : Addr} : News g L h (allNews g h L) := fun p hp => let ⟨a, b, c⟩ := of_mem_allNews hp; ⟨c, a, b⟩
end L2
namespace L2
open PySem PySem.Spec PyProof.Rows
structure Mod (K : PySem.W.Frag) (mg : Str → Option Value) (base : Heap) : Prop where
  kin : K.In base
  glob : base.Ns mainGlobals mg
  blt : ∃ mb, base.Ns builtinsNs mb ∧ ∀ x : Str, x ≠ "__name__" → mb x = bootBuiltins x
  nolimit : base.NoLimit
structure Cx where
  prog : Program
  w : World
  K : PySem.W.Frag
  mg : Str → Option Value
  base : Heap
  A : Around
  N : List Str
  s₀ : Shared
  H₀ : Hp
  env : Env
  outer : List Env
  stack : List Env
  ex : List Addr
  fn : Str → Bool
  calm : Bool
  pn : List (Addr × Obj)
  xe : Value → Shared → Prop
def frs (l : List Env) : List Addr := l.filterMap (·.frame)
abbrev Cx.fs (X : Cx) : List Addr := frs X.outer
def Vis (sc : Scope) (x : Str) : Prop := sc.names.lookup x = some .local ∨ sc.names.lookup x = some .cell ∨ sc.names.lookup x = some .free
def Loc (sc : Scope) (x : Str) : Prop := sc.names.lookup x = some .local ∨ sc.names.lookup x = some .cell
def Look (env : Env) (h : Heap) (m : Str → Option Value) (x : Str) (u : Value) : Prop :=
  (env.kindOf x = some .local ∧ m x = some u) ∨ ((env.kindOf x = some .cell ∨ env.kindOf x = some .free) ∧ ∃ c, env.cells.lookup x = some c ∧ h.IsCell c (some u))
structure Cx.Ok (X : Cx) : Prop where
  mod : Mod X.K X.mg X.base
  kind : X.env.scope.kind = .function
  glob : X.env.globals = mainGlobals
  blt : X.env.builtins = builtinsNs
  above : X.s₀.heap.objs.size ≤ X.env.locals
  inj : ∀ x y c, X.env.cells.lookup x = some c → X.env.cells.lookup y = some c → x = y
  has : ∀ x, (X.env.kindOf x = some .cell ∨ X.env.kindOf x = some .free) → ∃ c, X.env.cells.lookup x = some c
  cab : ∀ x c, X.fn x = true → X.env.cells.lookup x = some c → X.s₀.heap.objs.size ≤ c
  hd : X.calm = true → X.A.handled = none
  frames : X.A.frames = some X.stack
  stk : X.stack = X.outer ∨ (X.stack = X.env :: X.outer ∧ X.env.frame = some X.env.locals)
  exf : ∀ b ∈ X.ex, b ≠ X.env.locals ∧ ∀ x c, X.env.cells.lookup x = some c → c ≠ b
  bs : ∀ b o, X.base.get? b = some o → X.s₀.heap.get? b = some o ∧ X.H₀ b = none
  bsz : X.base.objs.size ≤ X.s₀.heap.objs.size
  noex : ∀ b o, X.base.get? b = some o → b ∉ X.ex
  exfs : ∀ b ∈ X.ex, b ∉ X.fs
  funs : X.s₀.heap.FunFrames X.base X.outer
  frf : ∀ b ∈ X.fs, X.H₀ b = none
structure Inv (X : Cx) (pins : List (Addr × Obj)) (σ : List (Option V)) (H : Hp) (s : Shared) : Prop where
  ok : X.Ok
  os : s.os = X.s₀.os
  bare : AllBare s.gens
  base : Un X.fs X.ex X.H₀ H X.s₀.heap s.heap
  loc : ∃ m, s.heap.Ns X.env.locals m ∧ ∀ (i : Nat) (x : Str) (v : V), X.N[i]? = some x → σ[i]? = some (some v) → Vis X.env.scope x → ∃ u, RelV v u ∧ Look X.env s.heap m x u
  cell : ∀ x c, X.env.cells.lookup x = some c → ∃ v, s.heap.IsCell c v
  free : H X.env.locals = none
  freeC : ∀ x c, X.env.cells.lookup x = some c → H c = none
  pin : ∀ p ∈ X.pn ++ pins, s.heap.get? p.1 = some p.2 ∧ H p.1 = none ∧ p.1 ≠ X.env.locals ∧ p.1 ∉ X.fs ∧ ∀ v, p.2.data ≠ .cell v
  hok : HOk X.prog X.w H s.heap
  len : σ.length = X.N.length
section
variable {X : Cx} {pins : List (Addr × Obj)} {σ : List (Option V)} {H H' : Hp} {s : Shared} {h' : Heap}
theorem Cx.Ok.nofr (ok : X.Ok) {b : Addr} {o : Obj} (e : X.base.get? b = some o) : b ∉ X.fs := fun hb => by
  have := (ok.funs.mem hb).1
  rw [e] at this; cases this
theorem Inv.bs (I : Inv X pins σ H s) : ∀ b o, X.base.get? b = some o → s.heap.get? b = some o ∧ H b = none := fun b o e =>
  ⟨I.base.keep b o (I.ok.bs b o e).1 (I.ok.bs b o e).2 (I.ok.nofr e) (I.ok.noex b o e), I.base.free b o (I.ok.bs b o e).1 (I.ok.bs b o e).2 (I.ok.noex b o e)⟩
theorem Inv.bk (I : Inv X pins σ H s) : ∀ b o, X.base.get? b = some o → s.heap.get? b = some o := fun b o e => (I.bs b o e).1
theorem Inv.mod (I : Inv X pins σ H s) : Mod X.K X.mg X.base := I.ok.mod
theorem Inv.kIn (I : Inv X pins σ H s) : X.K.In s.heap := I.ok.mod.kin.keeps I.bk
theorem Inv.nolimit (I : Inv X pins σ H s) : s.heap.NoLimit := I.ok.mod.nolimit.keeps I.bk
theorem Inv.fr (I : Inv X pins σ H s) : ∃ m, Fr X.base X.env.locals s.heap m :=
  let ⟨m, hn, _⟩ := I.loc
  ⟨m, hn, I.bk, Nat.le_trans I.ok.bsz I.ok.above⟩
theorem Inv.lt (I : Inv X pins σ H s) : X.env.locals < s.heap.objs.size := let ⟨_, hn, _⟩ := I.loc; hn.lt
theorem Inv.sz (I : Inv X pins σ H s) : X.s₀.heap.objs.size ≤ s.heap.objs.size := Nat.le_trans I.ok.above (Nat.le_of_lt I.lt)
theorem Inv.nofs (I : Inv X pins σ H s) {a : Addr} (h : s.heap.objs.size ≤ a) : a ∉ X.fs := fun hb => by
  obtain ⟨_, o, ho, _⟩ := I.ok.funs.mem hb
  exact absurd (Nat.lt_of_lt_of_le (Heap.lt_size ho) (Nat.le_trans I.sz h)) (Nat.lt_irrefl _)
theorem Inv.cne (I : Inv X pins σ H s) : ∀ x c, X.env.cells.lookup x = some c → c ≠ X.env.locals := fun x c e z => by
  obtain ⟨v, o, ho, hd⟩ := I.cell x c e
  obtain ⟨m, ⟨o', es, ep, ho', hd', _⟩, _⟩ := I.loc
  rw [z, ho'] at ho; cases ho; rw [hd'] at hd; cases hd
theorem Inv.funs (I : Inv X pins σ H s) : s.heap.FunFrames X.base X.outer := by
  have all : ∀ (l : List Env), (∀ b ∈ frs l, b ∈ X.fs) → X.s₀.heap.FunFrames X.base l → s.heap.FunFrames X.base l := by
    intro l
    induction l with
    | nil => intro _ _; trivial
    | cons env r ih =>
      intro hs hl
      obtain ⟨hk, ⟨L, o, hf, hn, ho, hd⟩, hr⟩ := hl
      have hL : L ∈ X.fs := hs L (by unfold frs; rw [List.filterMap_cons, hf]; exact List.mem_cons_self)
      obtain ⟨sl, e⟩ := I.base.slot L o ho (I.ok.frf L hL) hL fun z => I.ok.exfs L z hL
      exact ⟨hk, ⟨L, _, hf, hn, e, hd⟩, ih (fun b hb => hs b (by unfold frs; rw [List.filterMap_cons, hf]; exact List.mem_cons_of_mem _ hb)) hr⟩
  exact all X.outer (fun _ hb => hb) I.ok.funs
theorem Inv.stack (I : Inv X pins σ H s) : s.heap.FunFrames X.base X.stack := by
  rcases I.ok.stk with e | ⟨e, hf⟩
  · rw [e]; exact I.funs
  · rw [e]
    obtain ⟨m, hn, _⟩ := I.loc
    refine .cons (by rw [I.ok.kind]; decide) hf hn ?_ I.funs
    exact Heap.get?_none_of_le (Nat.le_trans I.ok.bsz I.ok.above)
theorem Inv.stkSub (I : Inv X pins σ H s) : ∀ b ∈ frs X.stack, b ∈ X.env.locals :: X.fs := fun b hb => by
  rcases I.ok.stk with e | ⟨e, hf⟩
  · rw [e] at hb; exact List.mem_cons_of_mem _ hb
  · rw [e] at hb
    unfold frs at hb
    rw [List.filterMap_cons, hf] at hb
    exact hb
theorem Inv.stkFree (I : Inv X pins σ H s) : ∀ b ∈ frs X.stack, H b = none := fun b hb => by
  rcases List.mem_cons.mp (I.stkSub b hb) with e | hb
  · rw [e]; exact I.free
  · obtain ⟨_, o, ho, _⟩ := I.ok.funs.mem hb
    exact I.base.free b o ho (I.ok.frf b hb) fun z => I.ok.exfs b z hb
theorem Inv.step {g' : Array GenState} {t' : Nat} {d' : Drawn} {ch : List Addr} (I : Inv X pins σ H s)
    (hch : ∀ b ∈ ch, (b ∈ X.ex ∨ X.s₀.heap.objs.size ≤ b) ∧ b ≠ X.env.locals ∧ (∀ x c, X.env.cells.lookup x = some c → c ≠ b) ∧ ∀ p ∈ X.pn ++ pins, p.1 ≠ b)
    (keep : ∀ b o, b ≠ X.env.locals → b ∉ X.fs → b ∉ ch → s.heap.get? b = some o → H b = none → h'.get? b = some o)
    (slot : ∀ b o, b ≠ X.env.locals → b ∈ X.fs → b ∉ ch → s.heap.get? b = some o → H b = none → ∃ sl, h'.get? b = some { o with slots := sl }) (free : ∀ b o, b ∉ ch → s.heap.get? b = some o → H b = none → H' b = none)
    (there : ∀ b o, b ∉ ch → s.heap.get? b = some o → ∃ o', h'.get? b = some o')
    (tups : ∀ b xs, H b = some (.tup xs) → H' b = some (.tup xs)) (frzs : ∀ b o u, H b = some (.frz o u) → H' b = some (.frz o u)) (tbls : ∀ b ps, H b = some (.tbl ps) → ∃ more, H' b = some (.tbl (ps ++ more)))
    (ns : ∀ m, s.heap.Ns X.env.locals m → h'.Ns X.env.locals m) (hok : HOk X.prog X.w H' h') (hg : AllBare g') :
    Inv X pins σ H' { s with heap := h', gens := g', drawn := d', toks := t' } := by
  have neL : ∀ b o, X.s₀.heap.get? b = some o → b ≠ X.env.locals := fun b o e => Nat.ne_of_lt (Nat.lt_of_lt_of_le (Heap.lt_size e) I.ok.above)
  have neC : ∀ b o, X.s₀.heap.get? b = some o → b ∉ X.ex → b ∉ ch := fun b o e hx hb => by
    rcases (hch b hb).1 with z | z
    · exact hx z
    · exact absurd (Nat.lt_of_lt_of_le (Heap.lt_size e) z) (Nat.lt_irrefl _)
  have cellK : ∀ x c, X.env.cells.lookup x = some c → ∀ v, s.heap.IsCell c v → h'.IsCell c v := fun x c e v ⟨o, ho, hd⟩ => by
    have nch : c ∉ ch := fun z => (hch c z).2.2.1 x c e rfl
    by_cases hc : c ∈ X.fs
    · obtain ⟨sl, q⟩ := slot c o (I.cne x c e) hc nch ho (I.freeC x c e)
      exact ⟨_, q, hd⟩
    · exact ⟨o, keep c o (I.cne x c e) hc nch ho (I.freeC x c e), hd⟩
  refine ⟨I.ok, I.os, hg, ⟨fun b o e n hb hx => ?_, fun b o e n hb hx => ?_, fun b o e n hx => ?_, fun b o e hx => ?_, fun b xs e => tups b xs (I.base.tups b xs e), fun b o xs e => frzs b o xs (I.base.frzs b o xs e), fun b ps e => ?_⟩, ?_, fun x c e => ?_, ?_, fun x c e => ?_, fun p hp => ?_, hok, I.len⟩
  · exact keep b o (neL b o e) hb (neC b o e hx) (I.base.keep b o e n hb hx) (I.base.free b o e n hx)
  · obtain ⟨sl, e1⟩ := I.base.slot b o e n hb hx
    obtain ⟨sl', e2⟩ := slot b _ (neL b o e) hb (neC b o e hx) e1 (I.base.free b o e n hx)
    exact ⟨sl', e2⟩
  · obtain ⟨o', e1⟩ := I.base.there b o e hx
    exact free b o' (neC b o e hx) e1 (I.base.free b o e n hx)
  · obtain ⟨o', e1⟩ := I.base.there b o e hx
    exact there b o' (neC b o e hx) e1
  · obtain ⟨m1, e1⟩ := I.base.tbls b ps e
    obtain ⟨m2, e2⟩ := tbls b _ e1
    exact ⟨m1 ++ m2, by rw [e2, Array.append_assoc]⟩
  · obtain ⟨m, hn, hl⟩ := I.loc
    refine ⟨m, ns m hn, fun i x v e1 e2 e3 => ?_⟩
    obtain ⟨u, r, l⟩ := hl i x v e1 e2 e3
    refine ⟨u, r, ?_⟩
    rcases l with l | ⟨k, c, e, z⟩
    · exact .inl l
    · exact .inr ⟨k, c, e, cellK x c e _ z⟩
  · obtain ⟨v, z⟩ := I.cell x c e
    exact ⟨v, cellK x c e v z⟩
  · obtain ⟨m, ⟨o, _, _, ho, _⟩, _⟩ := I.loc
    exact free _ o (fun z => (hch _ z).2.1 rfl) ho I.free
  · obtain ⟨v, o, ho, hd⟩ := I.cell x c e
    exact free c o (fun z => (hch c z).2.2.1 x c e rfl) ho (I.freeC x c e)
  · obtain ⟨e, n, ne, nf, d⟩ := I.pin p hp
    have nch : p.1 ∉ ch := fun z => (hch p.1 z).2.2.2 p hp rfl
    exact ⟨keep p.1 p.2 ne nf nch e n, free p.1 p.2 nch e n, ne, nf, d⟩
theorem Inv.un {t' : Nat} (I : Inv X pins σ H s) (u : Un X.fs [] H H' s.heap h') (hok : HOk X.prog X.w H' h') : Inv X pins σ H' { s with heap := h', toks := t' } := by
  obtain ⟨m, ⟨o, es, ep, ho, r⟩, _⟩ := id I.loc
  obtain ⟨sl, hL⟩ := u.any ho I.free (by simp)
  exact I.step (g' := s.gens) (d' := s.drawn) (ch := []) (fun _ z => nomatch z) (fun b o _ hb _ e n => u.keep b o e n hb (by simp)) (fun b o _ hb _ e n => u.slot b o e n hb (by simp)) (fun b o _ e n => u.free b o e n (by simp)) (fun b o _ e => u.there b o e (by simp)) u.tups u.frzs u.tbls (fun m' hm => by
    obtain ⟨o', es', ep', ho', r'⟩ := hm
    rw [ho] at ho'; cases ho'
    exact ⟨_, es', ep', hL, r'⟩) hok I.bare
theorem Inv.call {g' : Array GenState} {t' : Nat} {d' : Drawn} {ch : List Addr} (I : Inv X pins σ H s) (u : Un (frs X.stack) ch H H' s.heap h') (hok : HOk X.prog X.w H' h') (hg : AllBare g')
    (hch : ∀ b ∈ ch, (b ∈ X.ex ∨ X.s₀.heap.objs.size ≤ b) ∧ b ≠ X.env.locals ∧ (∀ x c, X.env.cells.lookup x = some c → c ≠ b) ∧ ∀ p ∈ X.pn ++ pins, p.1 ≠ b) :
    Inv X pins σ H' { s with heap := h', gens := g', drawn := d', toks := t' } := by
  obtain ⟨m, ⟨o, es, ep, ho, r⟩, _⟩ := id I.loc
  obtain ⟨sl, hL⟩ := u.any ho I.free fun z => (hch _ z).2.1 rfl
  exact I.step (ch := ch) hch (fun b o hL hb hc e n => u.keep b o e n (fun z => (List.mem_cons.mp (I.stkSub b z)).elim hL hb) hc) (fun b o _ _ hc e n => u.any e n hc) (fun b o hc e n => u.free b o e n hc) (fun b o hc e => u.there b o e hc) u.tups u.frzs u.tbls (fun m' hm => by
    obtain ⟨o', es', ep', ho', r'⟩ := hm
    rw [ho] at ho'; cases ho'
    exact ⟨_, es', ep', hL, r'⟩) hok hg
theorem Inv.turned {t' : Nat} {it : Addr} (I : Inv X pins σ H s) (k : ∀ b o, b ≠ it → s.heap.get? b = some o → h'.get? b = some o) (hn : H it = none) (hL : it ≠ X.env.locals)
    (h1 : it ∈ X.ex ∨ X.s₀.heap.objs.size ≤ it) (h2 : ∀ x c, X.env.cells.lookup x = some c → c ≠ it) (h3 : ∀ p ∈ X.pn ++ pins, p.1 ≠ it) : Inv X pins σ H { s with heap := h', toks := t' } := by
  have nit : ∀ b u, H b = some u → b ≠ it := fun b u e z => by rw [z, hn] at e; cases e
  refine I.step (g' := s.gens) (d' := s.drawn) (ch := [it]) (fun b hb => ?_) (fun b o _ _ hc e _ => k b o (fun z => hc (by simp [z])) e) (fun b o _ _ hc e _ => ⟨o.slots, k b o (fun z => hc (by simp [z])) e⟩) (fun _ _ _ _ n => n)
    (fun b o hc e => ⟨o, k b o (fun z => hc (by simp [z])) e⟩) (fun _ _ e => e) (fun _ _ _ e => e) (fun b ps e => ⟨#[], by rw [e]; simp⟩) (fun m hm => ?_) (fun b u e => ?_) I.bare
  · have e : b = it := by simpa using hb
    subst e
    exact ⟨h1, hL, h2, h3⟩
  · obtain ⟨o, es, ep, ho, r⟩ := hm
    exact ⟨o, es, ep, k _ o (Ne.symm hL) ho, r⟩
  · refine (I.hok b u e).stay (fun c v hc q => k c v ?_ q) (fun _ q => q) fun _ _ q => q
    rcases hc with z | z
    · rw [z]; exact nit b u e
    · exact nit c _ z
theorem Inv.tok (I : Inv X pins σ H s) (t : Nat) : Inv X pins σ H { s with toks := t } := I.un (h' := s.heap) (t' := t) Un.refl I.hok
theorem Inv.kept {t' : Nat} (I : Inv X pins σ H s) (k : ∀ b u, s.heap.get? b = some u → h'.get? b = some u) : Inv X pins σ H { s with heap := h', toks := t' } := I.un (Un.kept k) (I.hok.kept k)
theorem Inv.laid {a : Addr} {o : HO} {t' : Nat} (I : Inv X pins σ H s) (k : ∀ b u, s.heap.get? b = some u → h'.get? b = some u) (hp : s.heap.objs.size ≤ a) (new : ObjOk X.prog X.w (upd H a o) h' a o) :
    Inv X pins σ (upd H a o) { s with heap := h', toks := t' } := I.un (Un.laid k hp (I.hok.fresh hp)) (I.hok.laid k hp new)
theorem Inv.write {x e : Addr} {o : HO} {t' : Nat} (I : Inv X pins σ H s) (mu : Mut (H x)) (he : e = x ∨ H e = some (.own x)) (k : ∀ b u, b ≠ e → s.heap.get? b = some u → h'.get? b = some u) (heo : ∃ u, h'.get? e = some u)
    (new : ObjOk X.prog X.w (upd H x o) h' x o) : Inv X pins σ (upd H x o) { s with heap := h', toks := t' } := I.un (Un.write mu he k heo) (I.hok.write mu he k heo new)
theorem Inv.pins_of {pins' : List (Addr × Obj)} (I : Inv X pins σ H s) (h : ∀ p ∈ pins', s.heap.get? p.1 = some p.2 ∧ H p.1 = none ∧ p.1 ≠ X.env.locals ∧ p.1 ∉ X.fs ∧ ∀ v, p.2.data ≠ .cell v) : Inv X pins' σ H s :=
  ⟨I.ok, I.os, I.bare, I.base, I.loc, I.cell, I.free, I.freeC, fun p hp => (List.mem_append.mp hp).elim (fun z => I.pin p (List.mem_append_left _ z)) (h p), I.hok, I.len⟩
theorem nodup_ix {N : List Str} (hN : N.Nodup) {i j : Nat} {x : Str} (a : N[i]? = some x) (b : N[j]? = some x) : i = j := by
  obtain ⟨h1, e1⟩ := List.getElem?_eq_some_iff.mp a
  obtain ⟨h2, e2⟩ := List.getElem?_eq_some_iff.mp b
  exact (List.getElem_inj hN).mp (e1.trans e2.symm)
theorem store_ok2 {M : Model} {A : Around} {E : Value → Shared → Prop} {i : Nat} {x : Str} {v : V} {u : Value} {Q : Unit → Shared → Prop} (I : Inv X pins σ H s) (hN : X.N.Nodup) (hi : X.N[i]? = some x) (hx : Loc X.env.scope x) (r : RelV v u)
    (h : ∀ s', Inv X pins (σ.set i (some v)) H s' → (∃ a, Heap.SameBut a s.heap s'.heap ∧ (a = X.env.locals ∨ X.env.cells.lookup x = some a)) → Q () s') (hf : X.fn x = true ∨ X.env.scope.names.lookup x = some .local := by first | exact .inl rfl | exact .inr rfl | assumption) : wpAny M A (storeName X.env x u) Q E s := by
  obtain ⟨m, hn, hl⟩ := id I.loc
  have hcls : (X.env.scope.kind == .class || (X.env.scope.kind == .module && X.env.locals != X.env.globals)) = false := by rw [I.ok.kind]; rfl
  have hiσ : i < σ.length := by rw [I.len]; exact (List.getElem?_eq_some_iff.mp hi).1
  have cne := I.cne
  have tracked : ∀ {a : Addr} {h' : Heap}, (∃ o, s.heap.get? a = some o ∧ H a = none) → Heap.SameBut a s.heap h' → HOk X.prog X.w H h' := fun {a h'} ha hs b ob e => by
    obtain ⟨_, _, hfree⟩ := ha
    refine (I.hok b ob e).stay (fun c w' hc q => (hs.2 c ?_).trans q) (fun _ q => q) fun _ _ q => q
    rintro rfl
    rcases hc with rfl | hc
    · rw [hfree] at e; cases e
    · rw [hfree] at hc; cases hc
  rcases hx with hk | hk
  · refine wpAny_storeName_local hk hn (fun h' hn' hs => ?_) hcls
    obtain ⟨oL, _, _, hoL, _⟩ := id hn
    refine h _ ⟨I.ok, I.os, I.bare, ⟨fun b o e n hb hx => ?_, fun b o e n hb hx => ?_, I.base.free, fun b o e hx => ?_, I.base.tups, I.base.frzs, I.base.tbls⟩, ⟨_, hn', fun j y v' e1 e2 e3 => ?_⟩, fun y c e => ?_, I.free, I.freeC, fun p hp => ?_, tracked ⟨oL, hoL, I.free⟩ hs, by simpa using I.len⟩ ⟨_, hs, .inl rfl⟩
    · exact (hs.2 b (Nat.ne_of_lt (Nat.lt_of_lt_of_le (Heap.lt_size e) I.ok.above))).trans (I.base.keep b o e n hb hx)
    · obtain ⟨sl, e1⟩ := I.base.slot b o e n hb hx
      exact ⟨sl, (hs.2 b (Nat.ne_of_lt (Nat.lt_of_lt_of_le (Heap.lt_size e) I.ok.above))).trans e1⟩
    · obtain ⟨o', e1⟩ := I.base.there b o e hx
      exact ⟨o', (hs.2 b (Nat.ne_of_lt (Nat.lt_of_lt_of_le (Heap.lt_size e) I.ok.above))).trans e1⟩
    · by_cases hj : j = i
      · subst hj
        rw [hi] at e1; cases e1
        rw [List.getElem?_set_self hiσ] at e2
        cases e2
        exact ⟨u, r, .inl ⟨hk, by simp⟩⟩
      · rw [List.getElem?_set_ne (Ne.symm hj)] at e2
        obtain ⟨u', r', q⟩ := hl j y v' e1 e2 e3
        refine ⟨u', r', ?_⟩
        rcases q with ⟨k, e⟩ | ⟨k, c, e, z⟩
        · refine .inl ⟨k, ?_⟩
          have : y ≠ x := fun e => hj (nodup_ix hN e1 (e ▸ hi))
          simp [this, e]
        · exact .inr ⟨k, c, e, z.sameBut hs (cne y c e)⟩
    · obtain ⟨w', z⟩ := I.cell y c e
      exact ⟨w', z.sameBut hs (cne y c e)⟩
    · obtain ⟨e, n, ne, nf, d⟩ := I.pin p hp
      exact ⟨(hs.2 p.1 ne).trans e, n, ne, nf, d⟩
  · have hfn : X.fn x = true := by
      rcases hf with z | z
      · exact z
      · rw [z] at hk; cases hk
    obtain ⟨c, hc⟩ := I.ok.has x (.inl hk)
    obtain ⟨w', z⟩ := I.cell x c hc
    refine wpAny_storeName_cell I.ok.kind hk hc z (fun h' hc' hs => ?_)
    obtain ⟨oc, hoc, hocd⟩ := id z
    refine h { s with heap := h' } ⟨I.ok, I.os, I.bare, ⟨fun b o e n hb hx => ?_, fun b o e n hb hx => ?_, I.base.free, fun b o e hx => ?_, I.base.tups, I.base.frzs, I.base.tbls⟩, ⟨m, hn.sameBut hs (Ne.symm (cne x c hc)), fun j y v' e1 e2 e3 => ?_⟩, fun y c' e => ?_, I.free, I.freeC, fun p hp => ?_, tracked ⟨oc, hoc, I.freeC x c hc⟩ hs, by simpa using I.len⟩ ⟨c, hs, .inr hc⟩
    · exact (hs.2 b (Nat.ne_of_lt (Nat.lt_of_lt_of_le (Heap.lt_size e) (I.ok.cab x c hfn hc)))).trans (I.base.keep b o e n hb hx)
    · obtain ⟨sl, e1⟩ := I.base.slot b o e n hb hx
      exact ⟨sl, (hs.2 b (Nat.ne_of_lt (Nat.lt_of_lt_of_le (Heap.lt_size e) (I.ok.cab x c hfn hc)))).trans e1⟩
    · obtain ⟨o', e1⟩ := I.base.there b o e hx
      exact ⟨o', (hs.2 b (Nat.ne_of_lt (Nat.lt_of_lt_of_le (Heap.lt_size e) (I.ok.cab x c hfn hc)))).trans e1⟩
    · by_cases hj : j = i
      · subst hj
        rw [hi] at e1; cases e1
        rw [List.getElem?_set_self hiσ] at e2
        cases e2
        exact ⟨u, r, .inr ⟨.inl hk, c, hc, hc'⟩⟩
      · rw [List.getElem?_set_ne (Ne.symm hj)] at e2
        obtain ⟨u', r', q⟩ := hl j y v' e1 e2 e3
        refine ⟨u', r', ?_⟩
        rcases q with q | ⟨k, c', e, z'⟩
        · exact .inl q
        · refine .inr ⟨k, c', e, z'.sameBut hs ?_⟩
          rintro rfl
          exact hj (nodup_ix hN e1 (I.ok.inj _ _ _ e hc ▸ hi))
    · by_cases hcc : c' = c
      · subst hcc; exact ⟨_, hc'⟩
      · obtain ⟨w2, z2⟩ := I.cell y c' e
        exact ⟨w2, z2.sameBut hs hcc⟩
    · obtain ⟨e, n, ne, nf, d⟩ := I.pin p hp
      refine ⟨(hs.2 p.1 ?_).trans e, n, ne, nf, d⟩
      intro q
      rw [q, hoc] at e
      have q' : oc = p.2 := Option.some.inj e
      exact d w' (by rw [← q']; exact hocd)
theorem store_ok {M : Model} {A : Around} {E : Value → Shared → Prop} {i : Nat} {x : Str} {v : V} {u : Value} {Q : Unit → Shared → Prop} (I : Inv X pins σ H s) (hN : X.N.Nodup) (hi : X.N[i]? = some x) (hx : Loc X.env.scope x) (r : RelV v u)
    (h : ∀ s', Inv X pins (σ.set i (some v)) H s' → Q () s') (hf : X.fn x = true ∨ X.env.scope.names.lookup x = some .local := by first | exact .inl rfl | exact .inr rfl | assumption) : wpAny M A (storeName X.env x u) Q E s :=
  store_ok2 I hN hi hx r (fun s' I' _ => h s' I') hf
theorem Inv.call' {s' : Shared} {ch : List Addr} (I : Inv X pins σ H s) (ho : s'.os = s.os) (u : Un (frs X.stack) ch H H' s.heap s'.heap) (hok : HOk X.prog X.w H' s'.heap) (hg : AllBare s'.gens)
    (hch : ∀ b ∈ ch, (b ∈ X.ex ∨ X.s₀.heap.objs.size ≤ b) ∧ b ≠ X.env.locals ∧ (∀ x c, X.env.cells.lookup x = some c → c ≠ b) ∧ ∀ p ∈ X.pn ++ pins, p.1 ≠ b) : Inv X pins σ H' s' := by
  obtain ⟨h', g', d', t', o'⟩ := s'
  have e : o' = s.os := ho
  subst e
  exact I.call (g' := g') (t' := t') (d' := d') u hok hg hch
end
abbrev XK := Value → Option Addr → Hp → Prop
abbrev St := List (Option V)
abbrev VK := V → Hp → Prop
abbrev TE := St → Hp → VK → Prop
abbrev TT := St → Hp → (Bool → Hp → Prop) → Prop
abbrev TA := St → Hp → (List V → Hp → Prop) → Prop
structure Ends where
  nx : St → Hp → Prop
  rt : VK
  bk : St → Hp → Prop := fun _ _ => False
  ct : St → Hp → Prop := fun _ _ => False
abbrev TS := Ends → St → Hp → Prop
def EP (X : Cx) (pins : List (Addr × Obj)) (σ : St) (Q : VK) (u : Value) (s' : Shared) : Prop := ∃ v H', Inv X pins σ H' s' ∧ RelV v u ∧ Q v H'
def TP (X : Cx) (pins : List (Addr × Obj)) (σ : St) (Q : Bool → Hp → Prop) (b : Bool) (s' : Shared) : Prop := ∃ H', Inv X pins σ H' s' ∧ Q b H'
def AP (X : Cx) (pins : List (Addr × Obj)) (σ : St) (Q : List V → Hp → Prop) (us : List Value) (s' : Shared) : Prop := ∃ vs H', Inv X pins σ H' s' ∧ Vals vs us ∧ Q vs H'
def SP (X : Cx) (pins : List (Addr × Obj)) (D : Ends) (f : Flow) (s' : Shared) : Prop :=
  match f with
  | .next => ∃ σ' H', Inv X pins σ' H' s' ∧ D.nx σ' H'
  | .brk => ∃ σ' H', Inv X pins σ' H' s' ∧ D.bk σ' H'
  | .cont => ∃ σ' H', Inv X pins σ' H' s' ∧ D.ct σ' H'
  | .ret u => ∃ v σ' H', Inv X pins σ' H' s' ∧ RelV v u ∧ D.rt v H'
def PE (X : Cx) (e : Expr) (t : TE) : Prop :=
  ∀ (pins : List (Addr × Obj)) (s : Shared) (σ : St) (H : Hp) (Q : VK), Inv X pins σ H s → t σ H Q → wpAny (model X.prog X.w) X.A (eval e X.env) (EP X pins σ Q) X.xe s
def PT (X : Cx) (e : Expr) (t : TT) : Prop :=
  ∀ (pins : List (Addr × Obj)) (s : Shared) (σ : St) (H : Hp) (Q : Bool → Hp → Prop), Inv X pins σ H s → t σ H Q → wpAny (model X.prog X.w) X.A (isTrue e X.env (eval e X.env)) (TP X pins σ Q) X.xe s
def PW (X : Cx) (e : Expr) (t : TT) : Prop :=
  ∀ (whole : Sem Value) (pins : List (Addr × Obj)) (s : Shared) (σ : St) (H : Hp) (Q : Bool → Hp → Prop), Inv X pins σ H s → t σ H Q → wpAny (model X.prog X.w) X.A (isTrue e X.env whole) (TP X pins σ Q) X.xe s
theorem PW.pt {X : Cx} {e : Expr} {t : TT} (h : PW X e t) : PT X e t := h _
def PA (X : Cx) (es : List Expr) (t : TA) : Prop :=
  ∀ (pos : Pos) (pins : List (Addr × Obj)) (s : Shared) (σ : St) (H : Hp) (Q : List V → Hp → Prop), Inv X pins σ H s → t σ H Q → wpAny (model X.prog X.w) X.A (spliced (backTo pos (starEach es X.env))) (AP X pins σ Q) X.xe s
def PS (X : Cx) (st : Stmt) (t : TS) : Prop :=
  ∀ (pins : List (Addr × Obj)) (s : Shared) (σ : St) (H : Hp) (D : Ends), Inv X pins σ H s → t D σ H → wpAny (model X.prog X.w) X.A (exec st X.env) (SP X pins D) X.xe s
def PSs (X : Cx) (st : List Stmt) (t : TS) : Prop :=
  ∀ (pins : List (Addr × Obj)) (s : Shared) (σ : St) (H : Hp) (D : Ends), Inv X pins σ H s → t D σ H → wpAny (model X.prog X.w) X.A (execs st X.env) (SP X pins D) X.xe s
theorem thn {α : Type} {t : Sem α} {Q Q' : α → Shared → Prop} {M : Model} {A : Around} {E : Value → Shared → Prop} {s : Shared} (h : wpAny M A t Q E s) (hQ : ∀ a s, Q a s → Q' a s) : wpAny M A t Q' E s := wpAny_mono h hQ fun _ _ x => x
end L2
namespace L2
open PySem PySem.Spec PyProof.Rows
section
variable {X : Cx}
theorem bin {a b : Expr} {ta tb : TE} (ha : PE X a ta) (hb : PE X b tb) {pins : List (Addr × Obj)} {s : Shared} {σ : St} {H : Hp} {R : V → V → Hp → Prop} (I : Inv X pins σ H s) (h : ta σ H fun x H1 => tb σ H1 fun y H2 => R x y H2)
    {α : Type} {Q : α → Shared → Prop} {f : Value → Value → Sem α}
    (hf : ∀ v u s2 x y H2, Inv X pins σ H2 s2 → RelV x v → RelV y u → R x y H2 → wpAny (model X.prog X.w) X.A (f v u) Q X.xe s2) :
    wpAny (model X.prog X.w) X.A (eval a X.env) (fun v s₁ => wpAny (model X.prog X.w) X.A (eval b X.env) (fun u s₂ => wpAny (model X.prog X.w) X.A (f v u) Q X.xe s₂) X.xe s₁) X.xe s := by
  refine thn (ha pins s σ H _ I h) fun v s1 ⟨x, H1, I1, r1, q1⟩ => ?_
  refine thn (hb pins s1 σ H1 _ I1 q1) fun u s2 ⟨y, H2, I2, r2, q2⟩ => ?_
  exact hf v u s2 x y H2 I2 r1 r2 q2
def tVar (i : Nat) : TE := fun σ H Q => ∃ v, σ[i]? = some (some v) ∧ Q v H
def tC (v : V) : TE := fun _ H Q => Q v H
theorem pe_var {i : Nat} {x : Str} {pos : Pos} (hN : X.N[i]? = some x) (hv : Vis X.env.scope x) (hd : (x == ("__debug__" : Str)) = false := by decide) (hcd : (x == ("__classdict__" : Str)) = false := by decide) : PE X (.Name x pos) (tVar i) := by
  intro pins s σ H Q I h
  obtain ⟨v, e, h⟩ := h
  obtain ⟨m, hn, hl⟩ := I.loc
  obtain ⟨u, r, l⟩ := hl i x v hN e hv
  have fin : EP X pins σ Q u s := ⟨v, H, I, r, h⟩
  rcases l with ⟨hk, hm⟩ | ⟨hk, c, hc, hcell⟩
  · exact wpAny_Name (wpAny_loadName_local I.ok.kind hk hn hm fin) hd
  · rcases hk with hk | hk
    · exact wpAny_Name (wpAny_loadName_cell I.ok.kind hk hc hcell fin) hd
    · exact wpAny_Name (wpAny_loadName_free I.ok.kind hk hc hcell fin hcd) hd
theorem pe_int {i j pos} : PE X (.Constant (.int i) j pos) (tC (.int i)) := fun _ _ _ H _ I h => wpAny_Constant_int ⟨.int i, H, I.tok _, ⟨_, rfl⟩, h⟩
theorem pe_bl {b j pos} : PE X (.Constant (.bool b) j pos) (tC (.bl b)) := fun _ _ _ H _ I h => Constant_bool ⟨.bl b, H, I, rfl, h⟩
def Gl (X : Cx) (x : Str) : Prop := X.env.kindOf x = some .globalImplicit
theorem ld_glob {E : Value → Shared → Prop} {pins : List (Addr × Obj)} {s : Shared} {σ : St} {H : Hp} {x : Str} {u : Value} {pos : Pos} {Q : Value → Shared → Prop} (I : Inv X pins σ H s) (hg : Gl X x) (hm : X.mg x = some u) (h : Q u s)
    (hd : (x == ("__debug__" : Str)) = false := by decide) : wpAny (model X.prog X.w) X.A (eval (.Name x pos) X.env) Q E s :=
  Calls.Name_function_global I.ok.kind hg (Calls.loadGlobal_global (by rw [I.ok.glob]; exact I.mod.glob.keeps I.bk) hm h) hd
theorem ld_blt {E : Value → Shared → Prop} {pins : List (Addr × Obj)} {s : Shared} {σ : St} {H : Hp} {x : Str} {u : Value} {pos : Pos} {Q : Value → Shared → Prop} (I : Inv X pins σ H s) (hg : Gl X x) (hm : X.mg x = none) (hv : bootBuiltins x = some u) (h : Q u s)
    (hn : x ≠ "__name__" := by decide) (hd : (x == ("__debug__" : Str)) = false := by decide) : wpAny (model X.prog X.w) X.A (eval (.Name x pos) X.env) Q E s := by
  obtain ⟨mb, h1, h2⟩ := I.mod.blt
  exact Calls.Name_function_global I.ok.kind hg (Calls.loadGlobal_builtin (by rw [I.ok.glob]; exact I.mod.glob.keeps I.bk) hm (by rw [I.ok.blt]; exact h1.keeps I.bk) ((h2 x hn).trans hv) h) hd
theorem pe_bltn {x : Str} {v : V} {u : Value} {pos : Pos} (hg : Gl X x) (hm : X.mg x = none) (hv : bootBuiltins x = some u) (r : RelV v u) (hn : x ≠ "__name__" := by decide) (hd : (x == ("__debug__" : Str)) = false := by decide) : PE X (.Name x pos) (tC v) :=
  fun _ _ _ H _ I h => ld_blt I hg hm hv ⟨v, H, I, r, h⟩ hn hd
variable {a b : Expr} {ta tb : TE} {pos : Pos}
def PC (X : Cx) (op : CmpOp) (a b : Expr) (t : TE) : Prop :=
  ∀ (pins : List (Addr × Obj)) (s : Shared) (σ : St) (H : Hp) (Q : VK), Inv X pins σ H s → t σ H Q →
    wpAny (model X.prog X.w) X.A (eval a X.env) (fun v s₁ => wpAny (model X.prog X.w) X.A (eval b X.env) (fun u s₂ => wpAny (model X.prog X.w) X.A (compareOp op v u) (EP X pins σ Q) X.xe s₂) X.xe s₁) X.xe s
theorem nobehind (b : Expr) {op : CmpOp} (h : op ≠ .In) (h2 : op ≠ .NotIn) : behindInMarks op b = false := by
  have e1 : (op == CmpOp.In) = false := by cases op <;> first | rfl | exact absurd rfl h
  have e2 : (op == CmpOp.NotIn) = false := by cases op <;> first | rfl | exact absurd rfl h2
  cases b <;> simp [behindInMarks, e1, e2]
def tB (t : TE) : TT := fun σ H Q => t σ H fun x H1 => ∃ c, x = .bl c ∧ Q c H1
theorem pe_cmp {op : CmpOp} {t : TE} (h : PC X op a b t) (h1 : behindInMarks op b = false := by first | exact nobehind _ (by decide) (by decide) | rfl) : PE X (.Compare a [op] [b] pos) t := fun pins s σ H Q I hw => wpAny_Compare1 (h pins s σ H Q I hw) h1
theorem pt_val {e : Expr} {t : TE} (h : PE X e t) (he : ∀ whole, isTrue e X.env whole = (do let v ← whole; standAt e.pos; holding [v] (truthy v)) := by intro _; rfl) : PT X e (tB t) := by
  intro pins s σ H Q I hw
  refine isTrue_plain (thn (h pins s σ H _ I hw) fun v s1 ⟨x, H1, I1, r1, q1⟩ => ?_) (he _)
  obtain ⟨d, rfl, q⟩ := q1
  cases r1
  exact wpAny_truthy_bool ⟨H1, I1, q⟩
variable {tA tB' : TT} {rest : List Expr}
def tAnd (t u : TT) : TT := fun σ H Q => t σ H fun c H1 => if c = true then u σ H1 Q else Q false H1
def tOr (t u : TT) : TT := fun σ H Q => t σ H fun c H1 => if c = true then Q true H1 else u σ H1 Q
def tNot (t : TT) : TT := fun σ H Q => t σ H fun c H1 => Q (!c) H1
theorem pw_and1 (ha : PT X a tA) : PW X (.BoolOp .And [a] pos) tA := by
  intro wh pins s σ H Q I h
  refine isTrue_and (thn (ha pins s σ H Q I h) fun c s1 e => ?_)
  cases c with
  | true => exact isTrue_and_nil e
  | false => exact e
theorem pw_or1 (ha : PT X a tA) : PW X (.BoolOp .Or [a] pos) tA := by
  intro wh pins s σ H Q I h
  refine isTrue_or (thn (ha pins s σ H Q I h) fun c s1 e => ?_)
  cases c with
  | false => exact isTrue_or_nil e
  | true => exact e
theorem pw_and (ha : PT X a tA) (hb : PW X (.BoolOp .And (b :: rest) pos) tB') : PW X (.BoolOp .And (a :: b :: rest) pos) (tAnd tA tB') := by
  intro wh pins s σ H Q I h
  refine isTrue_and (thn (ha pins s σ H _ I h) fun c s1 ⟨H1, I1, q1⟩ => ?_)
  cases c with
  | true => exact hb wh pins s1 σ H1 Q I1 q1
  | false => exact ⟨H1, I1, q1⟩
theorem pw_or (ha : PT X a tA) (hb : PW X (.BoolOp .Or (b :: rest) pos) tB') : PW X (.BoolOp .Or (a :: b :: rest) pos) (tOr tA tB') := by
  intro wh pins s σ H Q I h
  refine isTrue_or (thn (ha pins s σ H _ I h) fun c s1 ⟨H1, I1, q1⟩ => ?_)
  cases c with
  | true => exact ⟨H1, I1, q1⟩
  | false => exact hb wh pins s1 σ H1 Q I1 q1
theorem pt_not (ha : PT X a tA) : PT X (.UnaryOp .Not a pos) (tNot tA) := by
  intro pins s σ H Q I h
  exact isTrue_not (ha pins s σ H (fun c H1 => Q (!c) H1) I h)
def tAndV (ta tb : TE) : TE := fun σ H Q => ta σ H fun x H1 => ∃ c, x = .bl c ∧ if c = true then tb σ H1 Q else Q (.bl false) H1
def tNotV (ta : TE) : TE := fun σ H Q => ta σ H fun x H1 => ∃ c, x = .bl c ∧ Q (.bl (!c)) H1
theorem pe_one {op} {t : TE} (h : PE X a t) : PE X (.BoolOp op [a] pos) t := fun pins s σ H Q I hw => BoolOp_one (h pins s σ H Q I hw)
theorem pe_and (ha : PE X a ta) (hb : PE X (.BoolOp .And (b :: rest) pos) tb) : PE X (.BoolOp .And (a :: b :: rest) pos) (tAndV ta tb) := by
  intro pins s σ H Q I h
  refine BoolOp_and (thn (ha pins s σ H _ I h) fun v s1 ⟨x, H1, I1, r1, q1⟩ => ?_)
  obtain ⟨c, rfl, q1⟩ := q1
  cases r1
  refine wpAny_truthy_bool ?_
  cases c with
  | true => exact hb pins s1 σ H1 Q I1 q1
  | false => exact ⟨.bl false, H1, I1, rfl, q1⟩
theorem pe_not (ha : PE X a ta) : PE X (.UnaryOp .Not a pos) (tNotV ta) := by
  intro pins s σ H Q I h
  refine UnaryOp_ (thn (ha pins s σ H _ I h) fun v s1 ⟨x, H1, I1, r1, q1⟩ => ?_)
  obtain ⟨c, rfl, q1⟩ := q1
  cases r1
  exact not_of (wpAny_truthy_bool ⟨.bl (!c), H1, I1, rfl, q1⟩)
end
end L2
namespace L2
open PySem PySem.Spec PyProof.Rows
def SqL (K : PySem.W.Frag) (H : Hp) (a : Addr) (xs : List V) : Prop :=
  Rd H a (.lst xs) ∨
    ∃ (o : Obj) (its : Array Value) (n : Nat), K.lookup a = some o ∧ o.cls = .type "list" ∧ o.dict = none ∧ o.data = .seq its n ∧ its.size ≤ sizeLine ∧ Vals xs its.toList
def SqT (K : PySem.W.Frag) (H : Hp) (a : Addr) (xs : List V) : Prop :=
  Rd H a (.tup xs) ∨
    ∃ (o : Obj) (its : Array Value) (n : Nat), K.lookup a = some o ∧ o.cls = .type "tuple" ∧ o.data = .seq its n ∧ its.size ≤ sizeLine ∧ Vals xs its.toList
def absV : Value → Option V
  | .none => some .non
  | .bool b => some (.bl b)
  | .int i _ => some (.int i)
  | .str x _ => some (.str x)
  | .bytes b _ => some (.byt b)
  | .float b _ => some (.flt b)
  | .ref a => some (.ref a)
  | .type n => some (.ty n)
  | _ => none
theorem RelV.abs {x : V} {u : Value} (r : RelV x u) : absV u = some x := by
  cases x with
  | non => cases r; rfl
  | bl _ => cases r; rfl
  | int _ => obtain ⟨t, rfl⟩ := r; rfl
  | str _ => obtain ⟨t, rfl⟩ := r; rfl
  | byt _ => obtain ⟨t, rfl⟩ := r; rfl
  | flt _ => obtain ⟨t, rfl⟩ := r; rfl
  | ref _ => cases r; rfl
  | ty _ => cases r; rfl
theorem RelV.inj {x y : V} {u : Value} (r : RelV x u) (q : RelV y u) : x = y := Option.some.inj (r.abs.symm.trans q.abs)
theorem Vals.inj : ∀ {xs ys : List V} {us : List Value}, Vals xs us → Vals ys us → xs = ys
  | _, _, _, .nil, .nil => rfl
  | _, _, _, .cons r t, .cons r' t' => by rw [r.inj r', Vals.inj t t']
section
variable {X : Cx} {pins : List (Addr × Obj)} {σ : St} {H : Hp} {s : Shared} {a : Addr} {xs ys : List V}
theorem SqL.of {K : PySem.W.Frag} (h : H a = some (.lst xs)) : SqL K H a xs := .inl (.inl h)
theorem SqT.of {K : PySem.W.Frag} (h : H a = some (.tup xs)) : SqT K H a xs := .inl (.inl h)
theorem Inv.list (I : Inv X pins σ H s) (h : SqL X.K H a xs) : ∃ its : List Value, Vals xs its ∧ PlainL s.heap a its.toArray ∧ xs.length ≤ sizeLine := by
  rcases h with h | ⟨o, its, n, hk, hc, hd, hs, hz, r⟩
  · obtain ⟨z, its, n, r, e⟩ := h.ok I.hok
    exact ⟨its, r, ⟨_, n, e, rfl, rfl, rfl⟩, z⟩
  · refine ⟨its.toList, r, ⟨o, n, I.kIn a o hk, hc, hd, by simpa using hs⟩, ?_⟩
    have e := r.length
    simp only [Array.length_toList] at e
    omega
theorem Inv.tuple (I : Inv X pins σ H s) (h : SqT X.K H a xs) : ∃ its : List Value, Vals xs its ∧ IsTup s.heap a its.toArray ∧ xs.length ≤ sizeLine := by
  rcases h with h | ⟨o, its, n, hk, hc, hs, hz, r⟩
  · obtain ⟨z, its, r, p⟩ := h.ok I.hok
    exact ⟨its, r, p, z⟩
  · refine ⟨its.toList, r, ⟨o, I.kIn a o hk, hc, n, by simpa using hs⟩, ?_⟩
    have e := r.length
    simp only [Array.length_toList] at e
    omega
theorem Inv.list_inj (I : Inv X pins σ H s) (h : SqL X.K H a xs) (h' : SqL X.K H a ys) : xs = ys := by
  obtain ⟨its, r, ⟨o, n, e, _, _, d⟩, _⟩ := I.list h
  obtain ⟨its', r', ⟨o', n', e', _, _, d'⟩, _⟩ := I.list h'
  rw [e] at e'; cases e'
  rw [d] at d'
  injection d' with d1 _
  have : its = its' := by simpa using congrArg Array.toList d1
  subst this
  exact r.inj r'
end
abbrev Cx.wish (X : Cx) (E : Value → Shared → Prop) : Cx := { X with xe := E }
abbrev Cx.nox (X : Cx) : Cx := X.wish fun _ _ => False
theorem Cx.Ok.wish {X : Cx} (ok : X.Ok) (E : Value → Shared → Prop) : (X.wish E).Ok :=
  ⟨ok.mod, ok.kind, ok.glob, ok.blt, ok.above, ok.inj, ok.has, ok.cab, ok.hd, ok.frames, ok.stk, ok.exf, ok.bs, ok.bsz, ok.noex, ok.exfs, ok.funs, ok.frf⟩
theorem Cx.Ok.unwish {X : Cx} {E : Value → Shared → Prop} (ok : (X.wish E).Ok) : X.Ok :=
  ⟨ok.mod, ok.kind, ok.glob, ok.blt, ok.above, ok.inj, ok.has, ok.cab, ok.hd, ok.frames, ok.stk, ok.exf, ok.bs, ok.bsz, ok.noex, ok.exfs, ok.funs, ok.frf⟩
section
variable {X : Cx} {pins : List (Addr × Obj)} {σ : St} {H : Hp} {s : Shared} {E : Value → Shared → Prop}
theorem Inv.wish (I : Inv X pins σ H s) (E : Value → Shared → Prop) : Inv (X.wish E) pins σ H s := ⟨I.ok.wish E, I.os, I.bare, I.base, I.loc, I.cell, I.free, I.freeC, I.pin, I.hok, I.len⟩
theorem Inv.unwish (I : Inv (X.wish E) pins σ H s) : Inv X pins σ H s := ⟨I.ok.unwish, I.os, I.bare, I.base, I.loc, I.cell, I.free, I.freeC, I.pin, I.hok, I.len⟩
theorem SP.unwish {D : Ends} {f : Flow} {s' : Shared} (h : SP (X.wish E) pins D f s') : SP X pins D f s' := by
  cases f with
  | next => obtain ⟨σ', H', I, q⟩ := h; exact ⟨σ', H', I.unwish, q⟩
  | brk => obtain ⟨σ', H', I, q⟩ := h; exact ⟨σ', H', I.unwish, q⟩
  | cont => obtain ⟨σ', H', I, q⟩ := h; exact ⟨σ', H', I.unwish, q⟩
  | ret u => obtain ⟨v, σ', H', I, r, q⟩ := h; exact ⟨v, σ', H', I.unwish, r, q⟩
theorem PE.nox {e : Expr} {t : TE} (h : PE X.nox e t) : PE X e t := fun pins s σ H Q I hw =>
  wpAny_mono (h pins s σ H Q (I.wish _) hw) (fun _ _ ⟨v, H', I', r, q⟩ => ⟨v, H', I'.unwish, r, q⟩) fun _ _ z => False.elim z
theorem PT.nox {e : Expr} {t : TT} (h : PT X.nox e t) : PT X e t := fun pins s σ H Q I hw =>
  wpAny_mono (h pins s σ H Q (I.wish _) hw) (fun _ _ ⟨H', I', q⟩ => ⟨H', I'.unwish, q⟩) fun _ _ z => False.elim z
theorem PSs.nox {st : List Stmt} {t : TS} (h : PSs X.nox st t) : PSs X st t := fun pins s σ H D I hw =>
  wpAny_mono (h pins s σ H D (I.wish _) hw) (fun _ _ q => q.unwish) fun _ _ z => False.elim z
end
section
variable {X : Cx} {st : Stmt} {rest : List Stmt} {t u : TS} {e : Expr} {te : TE} {pos : Pos}
def tNext : TS := fun D σ H => D.nx σ H
def tSeq (t u : TS) : TS := fun D σ H => t { D with nx := u D } σ H
theorem pss_nil : PSs X [] tNext := fun _ _ σ H _ I h => wpAny_execs_nil ⟨σ, H, I, h⟩
theorem pss_cons (h1 : PS X st t) (h2 : PSs X rest u) : PSs X (st :: rest) (tSeq t u) := by
  intro pins s σ H D I h
  refine wpAny_execs_cons (thn (h1 pins s σ H { D with nx := u D } I h) fun f s1 q => ?_)
  cases f with
  | next =>
    obtain ⟨σ', H', I', q⟩ := q
    exact h2 pins s1 σ' H' D I' q
  | ret v => exact q
  | brk => exact q
  | cont => exact q
theorem pss_one (h1 : PS X st t) : PSs X [st] t := by
  intro pins s σ H D I h
  refine wpAny_execs_cons (thn (h1 pins s σ H D I h) fun f s1 q => ?_)
  cases f with
  | next => exact wpAny_execs_nil q
  | ret v => exact q
  | brk => exact q
  | cont => exact q
theorem Inv.quiet {pins : List (Addr × Obj)} {σ : St} {H : Hp} {s : Shared} (I : Inv X pins σ H s) : interactive X.env = false := by simp [interactive, I.ok.kind]
def tDrop (te : TE) : TS := fun D σ H => te σ H fun _ H1 => D.nx σ H1
theorem ps_expr (he : PE X e te) (hs : swapsWith e none pos.line X.env = pure false := by rfl) : PS X (.Expr e pos) (tDrop te) := by
  intro pins s σ H D I h
  exact wpAny_Expr_any (thn (he pins s σ H _ I h) fun v s1 ⟨x, H1, I1, r1, q1⟩ => ⟨σ, H1, I1, q1⟩) I.quiet hs
def tRet (te : TE) : TS := fun D σ H => te σ H D.rt
theorem ps_ret (he : PE X e te) : PS X (.Return (some e) pos) (tRet te) := by
  intro pins s σ H D I h
  exact wpAny_Return_some (thn (he pins s σ H _ I h) fun v s1 ⟨x, H1, I1, r1, q1⟩ => ⟨x, σ, H1, I1, r1, q1⟩)
def tIfS (c : TT) (t u : TS) : TS := fun D σ H => c σ H fun b H1 => if b = true then t D σ H1 else u D σ H1
theorem ps_if {c : Expr} {a b : List Stmt} {tc : TT} (hc : PT X c tc) (ha : PSs X a t) (hb : PSs X b u) : PS X (.If c a b pos) (tIfS tc t u) := by
  intro pins s σ H D I h
  refine wpAny_If (thn (hc pins s σ H _ I h) fun d s1 ⟨H1, I1, q1⟩ => ?_)
  cases d with
  | true => exact ha pins s1 σ H1 D I1 q1
  | false => exact hb pins s1 σ H1 D I1 q1
end
abbrev TG := V → St → Hp → (St → Hp → Prop) → Prop
abbrev TGs := List V → St → Hp → (St → Hp → Prop) → Prop
def PG (X : Cx) (target : Expr) (t : TG) : Prop :=
  ∀ (pins : List (Addr × Obj)) (s : Shared) (σ : St) (H : Hp) (v : V) (u : Value) (Q : St → Hp → Prop), Inv X pins σ H s → RelV v u → t v σ H Q →
    wpAny (model X.prog X.w) X.A (assign target X.env u) (fun _ s' => ∃ σ' H', Inv X pins σ' H' s' ∧ Q σ' H') X.xe s
def PGs (X : Cx) (ts : List Expr) (t : TGs) : Prop :=
  ∀ (pins : List (Addr × Obj)) (s : Shared) (σ : St) (H : Hp) (vs : List V) (us : List Value) (Q : St → Hp → Prop), Inv X pins σ H s → Vals vs us → t vs σ H Q →
    wpAny (model X.prog X.w) X.A (assignInOrder ((assignEach ts X.env).map (·.2)) us) (fun _ s' => ∃ σ' H', Inv X pins σ' H' s' ∧ Q σ' H') X.xe s
abbrev TSet := V → V → V → Hp → (Hp → Prop) → Prop
def PSet (X : Cx) (t : TSet) : Prop :=
  ∀ (pins : List (Addr × Obj)) (s : Shared) (σ : St) (H : Hp) (o i v : V) (ov iv u : Value) (Q : Hp → Prop), Inv X pins σ H s → RelV o ov → RelV i iv → RelV v u → t o i v H Q →
    wpAny (model X.prog X.w) X.A (setItem ov iv u) (fun _ s' => ∃ H', Inv X pins σ H' s' ∧ Q H') X.xe s
section
variable {X : Cx} {pos : Pos}
def gName (i : Nat) : TG := fun v σ H Q => Q (σ.set i (some v)) H
theorem pg_name {i : Nat} {x : Str} (hN : X.N.Nodup) (hi : X.N[i]? = some x) (hx : Loc X.env.scope x) (hf : X.fn x = true ∨ X.env.scope.names.lookup x = some .local := by first | exact .inl rfl | exact .inr rfl | assumption) : PG X (.Name x pos) (gName i) := by
  intro pins s σ H v u Q I r h
  exact wpAny_assign_Name (store_ok I hN hi hx r (fun s' I' => ⟨_, H, I', h⟩) hf)
def gNil : TGs := fun vs σ H Q => vs = [] ∧ Q σ H
def gCons (t : TG) (u : TGs) : TGs := fun vs σ H Q => ∃ v r, vs = v :: r ∧ t v σ H fun σ' H' => u r σ' H' Q
theorem pgs_nil : PGs X [] gNil := by
  intro pins s σ H vs us Q I r h
  obtain ⟨e, h⟩ := h
  subst e
  cases r
  exact assignInOrder_nil ⟨σ, H, I, h⟩
theorem pgs_cons {e : Expr} {es : List Expr} {t : TG} {u : TGs} (h1 : PG X e t) (h2 : PGs X es u)
    (hs : (assignEach (e :: es) X.env).map (·.2) = assign e X.env :: (assignEach es X.env).map (·.2) := by rfl) : PGs X (e :: es) (gCons t u) := by
  intro pins s σ H vs us Q I r h
  obtain ⟨v, vr, e1, h⟩ := h
  subst e1
  cases r with
  | cons r rr =>
    rw [hs]
    refine assignInOrder_cons (thn (h1 pins s σ H _ _ _ I r h) fun _ s1 ⟨σ1, H1, I1, q1⟩ => ?_)
    exact h2 pins s1 σ1 H1 _ _ Q I1 rr q1
def gTup (K : PySem.W.Frag) (n : Nat) (t : TGs) : TG := fun v σ H Q => ∃ a xs, v = .ref a ∧ SqT K H a xs ∧ xs.length = n ∧ t xs σ H Q
theorem pg_tup {es : List Expr} {k : Nat} {t : TGs} {n : Nat} (hc : X.calm = true) (h : PGs X es t)
    (hn : (assignEach es X.env).length = n := by rfl) (hst : (assignEach es X.env).findIdx? (·.1) = none := by rfl) : PG X (.Tuple es k pos) (gTup X.K n t) := by
  intro pins s σ H v u Q I r hw
  obtain ⟨a, xs, e1, hq, hl, hw⟩ := hw
  subst e1
  cases r
  obtain ⟨its, rv, ht, hz⟩ := I.tuple hq
  refine assign_Tuple_tuple (I.ok.hd hc) ht (by simp [hn, ← hl, rv.length]) hst fun h' hx => ?_
  have I1 : Inv X pins σ H { s with heap := h' } := I.kept (t' := s.toks) fun b o e => hx b o (Nat.ne_of_lt (Heap.lt_size e)) e
  exact h pins _ σ H xs _ Q I1 (by simpa using rv) hw
def gSub (to ti : TE) (t : TSet) : TG := fun v σ H Q => to σ H fun o H1 => ti σ H1 fun i H2 => t o i v H2 fun H3 => Q σ H3
theorem pg_sub {o i : Expr} {to ti : TE} {t : TSet} (ho : PE X o to) (hi : PE X i ti) (hs : PSet X t)
    (ha : ∀ v, assign (.Subscript o i pos) X.env v = (do
      let ov ← holding [v] (eval o X.env)
      let iv ← holding [v, ov] (eval i X.env)
      standAt pos
      holding [v, ov, iv] (setItem ov iv v)
      release [v, ov, iv] []) := by intro _; rfl) : PG X (.Subscript o i pos) (gSub to ti t) := by
  intro pins s σ H v u Q I r h
  rw [ha]
  refine wpAny_bind (wpAny_holding (thn (ho pins s σ H _ I h) fun ov s1 ⟨x, H1, I1, r1, q1⟩ => ?_))
  refine wpAny_bind (wpAny_holding (thn (hi pins s1 σ H1 _ I1 q1) fun iv s2 ⟨y, H2, I2, r2, q2⟩ => ?_))
  refine wpAny_bind (wpAny_standAt (wpAny_bind (wpAny_holding (thn (hs pins s2 σ H2 x y v ov iv u _ I2 r1 r2 r q2) fun _ s3 ⟨H3, I3, q3⟩ => ?_))))
  exact wpAny_release ⟨σ, H3, I3, q3⟩
def tAsg (te : TE) (g : TG) : TS := fun D σ H => te σ H fun x H1 => g x σ H1 D.nx
theorem ps_asg {tg e : Expr} {te : TE} {g : TG} (he : PE X e te) (hg : PG X tg g) (hs : swapsWithSole [tg] e pos.line X.env = pure false := by rfl) (hw : swappedStores [tg] e X.env = pure none := by rfl)
    (h1 : (assignEach [tg] X.env).map (·.2) = [assign tg X.env] := by rfl) : PS X (.Assign [tg] e pos) (tAsg te g) := by
  intro pins s σ H D I h
  refine wpAny_Assign_stores (thn (he pins s σ H _ I h) fun v s1 ⟨x, H1, I1, r1, q1⟩ => ?_) hs hw
  rw [h1]
  exact thn (hg pins s1 σ H1 x v _ I1 r1 q1) fun _ s2 q => q
theorem ps_set {i : Nat} {x : Str} {e : Expr} {te : TE} {pos' : Pos} (hN : X.N.Nodup) (hi : X.N[i]? = some x) (hx : Loc X.env.scope x) (he : PE X e te) (hs : swapsWith e (some (.Name x pos')) pos.line X.env = pure false := by rfl) (hf : X.fn x = true ∨ X.env.scope.names.lookup x = some .local := by first | exact .inl rfl | exact .inr rfl | assumption) :
    PS X (.Assign [.Name x pos'] e pos) (tAsg te (gName i)) := by
  intro pins s σ H D I h
  refine wpAny_Assign_Name (thn (he pins s σ H _ I h) fun v s1 ⟨y, H1, I1, r1, q1⟩ => ?_) hs
  exact store_ok I1 hN hi hx r1 (fun s2 I2 => ⟨_, H1, I2, q1⟩) hf
end
section
variable {X : Cx} {pos : Pos}
end
structure It where
  go : Nat → Hp → Prop
  yld : Nat → Hp → V → Hp → Prop
  stop : Nat → Hp → Prop
def FpOk (X : Cx) (pins : List (Addr × Obj)) (H : Hp) (b : Addr) : Prop :=
  H b = none ∧ b ≠ X.env.locals ∧ b ∉ X.fs ∧ (b ∈ X.ex ∨ X.s₀.heap.objs.size ≤ b) ∧ (∀ x c, X.env.cells.lookup x = some c → c ≠ b) ∧ ∀ p ∈ X.pn ++ pins, p.1 ≠ b
theorem Inv.fpOk {X : Cx} {pins : List (Addr × Obj)} {σ : St} {H H' : Hp} {s : Shared} {b : Addr} (I : Inv X pins σ H s) (hb : s.heap.objs.size ≤ b) (hn : H' b = none) : FpOk X pins H' b := by
  refine ⟨hn, Nat.ne_of_gt (Nat.lt_of_lt_of_le I.lt hb), I.nofs hb, .inr (Nat.le_trans I.sz hb), fun x c e z => ?_, fun p hp z => ?_⟩
  · obtain ⟨v, q⟩ := I.cell x c e
    exact absurd (Nat.lt_of_lt_of_le q.lt (by rw [z]; exact hb)) (Nat.lt_irrefl _)
  · exact absurd (Nat.lt_of_lt_of_le (Heap.lt_size (I.pin p hp).1) (by rw [z]; exact hb)) (Nat.lt_irrefl _)
structure Turn (P : Program) (w : World) (K : PySem.W.Frag) (tg : Expr) (J : It) (fp : List Addr) (it : Addr) (tn : Nat → Heap → Prop) : Prop where
  mem : it ∈ fp
  obj : ∀ i h, tn i h → ∀ b ∈ fp, ∃ o, h.get? b = some o ∧ ∀ v, o.data ≠ .cell v
  keep : ∀ i h h', tn i h → (∀ b ∈ fp, ∀ o, h.get? b = some o → h'.get? b = some o) → tn i h'
  item : ∀ (X : Cx), X.prog = P → X.w = w → X.K = K → X.calm = true → ∀ (i : Nat) (pins : List (Addr × Obj)) (s : Shared) (σ : St) (H : Hp) (E : Value → Shared → Prop), Inv X pins σ H s → (∀ b ∈ fp, FpOk X pins H b) → tn i s.heap → J.go i H →
    wpAny (model P w) X.A (pyNext (.ref it)) (fun r s1 => ∃ u, r = some u ∧
      wpAny (model P w) X.A (letOwnedTupleGo tg (.ref it) u) (fun _ s2 => ∃ x H', Inv X pins σ H' s2 ∧ RelV x u ∧ J.yld i H x H' ∧ tn (i + 1) s2.heap ∧ ∀ b ∈ fp, H' b = none) E s1) E s
  done : ∀ (X : Cx), X.prog = P → X.w = w → X.K = K → X.calm = true → ∀ (i : Nat) (pins : List (Addr × Obj)) (s : Shared) (σ : St) (H : Hp) (E : Value → Shared → Prop), Inv X pins σ H s → (∀ b ∈ fp, FpOk X pins H b) → tn i s.heap → J.stop i H →
    wpAny (model P w) X.A (pyNext (.ref it)) (fun r s1 => r = none ∧ Inv X pins σ H s1) E s
  self : ∀ (A : Around) (i : Nat) (s : Shared) (Q : Value → Shared → Prop) (E : Value → Shared → Prop), tn i s.heap → Q (.ref it) s → wpAny (model P w) A (pyIter (.ref it)) Q E s
abbrev TI := St → Hp → (It → Hp → Prop) → Prop
def PIE (X : Cx) (pins : List (Addr × Obj)) (σ : St) (tg : Expr) (R : It → Hp → Prop) (itv : Value) (s2 : Shared) : Prop :=
  ∃ (it : Addr) (fp : List Addr) (tn : Nat → Heap → Prop) (J : It) (H' : Hp), itv = .ref it ∧ Inv X pins σ H' s2 ∧ Turn X.prog X.w X.K tg J fp it tn ∧ tn 0 s2.heap ∧ (∀ b ∈ fp, FpOk X pins H' b) ∧ R J H'
def PI (X : Cx) (tg iter : Expr) (wi : TI) : Prop :=
  ∀ (pins : List (Addr × Obj)) (s : Shared) (σ : St) (H : Hp) (R : It → Hp → Prop), Inv X pins σ H s → wi σ H R →
    wpAny (model X.prog X.w) X.A (eval iter X.env) (fun v s1 => wpAny (model X.prog X.w) X.A (pyIter v) (PIE X pins σ tg R) X.xe s1) X.xe s
theorem go_of {M : Model} {A : Around} {E : Value → Shared → Prop} {s : Shared} {tg : Expr} {it : Addr} {u : Value} {o : Obj} {n : String} {vs : Array Value} {Q : Unit → Shared → Prop} (ho : s.heap.get? it = some o) (hc : o.cls = .type n) (hd : o.data = .fields vs)
    (hn : ["enumerate", "zip", "dict_itemiterator", "dict_reverseitemiterator", "odict_iterator", "itertools.zip_longest", "itertools.pairwise"].contains n = false) (hQ : Q () s) : wpAny M A (letOwnedTupleGo tg (.ref it) u) Q E s := by
  unfold letOwnedTupleGo
  cases tg <;> first
    | exact wpAny_pure hQ
    | (cases u <;> first
        | exact wpAny_pure hQ
        | (refine wpAny_bind (wpAny_load ho ?_)
           rw [hc, hd]
           show wpAny M A (if (["enumerate", "zip", "dict_itemiterator", "dict_reverseitemiterator", "odict_iterator", "itertools.zip_longest", "itertools.pairwise"].contains n && vs[0]? == some (rawInt _)) = true then _ else _) Q E s
           rw [if_neg (by intro h; rw [hn, Bool.false_and] at h; cases h)]
           exact wpAny_pure hQ))
def Itl (K : PySem.W.Frag) (a : Addr) : It :=
  ⟨fun i H => ∃ xs x, SqL K H a xs ∧ xs[i]? = some x, fun i H x H' => H' = H ∧ ∀ xs, SqL K H a xs → xs[i]? = some x, fun i H => ∃ xs, SqL K H a xs ∧ xs.length ≤ i⟩
def Itr (lo : Int) (n : Nat) : It := ⟨fun i _ => i < n, fun i H x H' => H' = H ∧ x = .int (lo + i), fun i _ => n ≤ i⟩
theorem turn_list {P : Program} {w : World} {K : PySem.W.Frag} {tg : Expr} (a it : Addr) : Turn P w K tg (Itl K a) [it] it (fun i h => h.IsListIter it a i) where
  mem := by simp
  obj := fun i h st b hb => by
    have e : b = it := by simpa using hb
    subst e
    obtain ⟨o, e, c, d⟩ := st
    exact ⟨o, e, fun v z => by rw [d] at z; cases z⟩
  keep := fun i h h' st k => st.at fun o e => k it (by simp) o e
  item := by
    intro X hP hw hK hc i pins s σ H E I hf st hg
    subst hP hw hK
    obtain ⟨xs, x, hq, hx⟩ := hg
    obtain ⟨its, rv, p, hz⟩ := I.list hq
    obtain ⟨u, hu, ru⟩ := rv.get hx
    obtain ⟨f0, f1, f2, f3, f4, f5⟩ := hf it (by simp)
    refine wpAny_pyNext_list_item st p.isList (x := u) (by simpa using hu) fun h' st' sb => ?_
    have I1 : Inv X pins σ H { s with heap := h' } := I.turned (t' := s.toks) (fun b o hb e => (sb.2 b hb).trans e) f0 f1 f3 f4 f5
    obtain ⟨o, e, c, d⟩ := id st'
    exact ⟨u, rfl, go_of (s := { s with heap := h' }) e c d (by decide) ⟨x, H, I1, ru, ⟨rfl, fun ys hy => by rw [I.list_inj hy hq]; exact hx⟩, st', fun b hb => (hf b hb).1⟩⟩
  done := by
    intro X hP hw hK hc i pins s σ H E I hf st hg
    subst hP hw hK
    obtain ⟨xs, hq, hx⟩ := hg
    obtain ⟨its, rv, p, hz⟩ := I.list hq
    obtain ⟨f0, f1, f2, f3, f4, f5⟩ := hf it (by simp)
    have hl := rv.length
    exact wpAny_pyNext_list_end (I.ok.hd hc) st p.isList (by simp; omega) fun h' eb => ⟨rfl, I.turned (t' := s.toks) (fun b o hb e => eb b o hb e) f0 f1 f3 f4 f5⟩
  self := fun _ _ _ _ _ st h => wpAny_pyIter_listiter st h
theorem turn_range {P : Program} {w : World} {K : PySem.W.Frag} {tg : Expr} (it : Addr) (lo : Int) (n : Nat) : Turn P w K tg (Itr lo n) [it] it (fun i h => IsRangeIter h it (lo + (i : Nat) * 1) ((n : Int) - (i : Nat)) 1) where
  mem := by simp
  obj := fun i h st b hb => by
    have e : b = it := by simpa using hb
    subst e
    exact ⟨_, st, fun v z => by
      have z' : Data.fields _ = Data.cell v := z
      cases z'⟩
  keep := fun i h h' st k => k it (by simp) _ st
  item := by
    intro X hP hw hK hc i pins s σ H E I hf st hg
    subst hP hw hK
    obtain ⟨f0, f1, f2, f3, f4, f5⟩ := hf it (by simp)
    have W := Walks.range (prog := X.prog) (w := X.w) (I.ok.hd hc) it lo 1 n
    refine W.item i s _ _ hg st fun v h' tk hv st' kk => ?_
    obtain ⟨t, rfl⟩ := hv
    have I1 : Inv X pins σ H { s with heap := h', toks := tk } := I.turned (fun b o hb e => kk b o (by simpa using hb) e) f0 f1 f3 f4 f5
    refine ⟨_, rfl, go_of (s := { s with heap := h', toks := tk }) (n := "range_iterator") st' rfl rfl (by decide) ⟨.int (lo + i), H, I1, ⟨t, ?_⟩, ⟨rfl, rfl⟩, st', fun b hb => (hf b hb).1⟩⟩
    rw [Int.mul_one]
  done := by
    intro X hP hw hK hc i pins s σ H E I hf st hg
    subst hP hw hK
    obtain ⟨f0, f1, f2, f3, f4, f5⟩ := hf it (by simp)
    exact wpAny_pyNext_range_end (I.ok.hd hc) st (by have : n ≤ i := hg; omega) fun h' eb => ⟨rfl, I.turned (t' := s.toks) (fun b o hb e => eb b o hb e) f0 f1 f3 f4 f5⟩
  self := fun _ _ _ _ _ st h => wpAny_pyIter_rangeiter st h
end L2
namespace L2
open PySem PySem.Spec PyProof.Rows
section
variable {X : Cx} {tg : Expr}
def iList (K : PySem.W.Frag) (tl : TE) : TI := fun σ H R => tl σ H fun x H1 => ∃ a, x = .ref a ∧ (∃ xs, SqL K H1 a xs) ∧ R (Itl K a) H1
theorem pi_list {l : Expr} {tl : TE} (hl : PE X l tl) : PI X tg l (iList X.K tl) := by
  intro pins s σ H R I h
  refine thn (hl pins s σ H _ I h) fun v s1 ⟨x, H1, I1, r1, q1⟩ => ?_
  obtain ⟨a, e, ⟨xs, hq⟩, q⟩ := q1
  subst e
  cases r1
  obtain ⟨its, rv, p, hz⟩ := I1.list hq
  refine wpAny_pyIter_list p.isList ?_
  refine ⟨s1.heap.objs.size, [s1.heap.objs.size], _, _, H1, rfl, I1.kept (t' := s1.toks) fun b o e => Heap.get?_push_of_some _ e, turn_list a _, ⟨_, Heap.get?_push_size _ rfl, rfl, rfl⟩, fun b hb => ?_, q⟩
  have e : b = s1.heap.objs.size := by simpa using hb
  subst e
  exact I1.fpOk (Nat.le_refl _) (I1.hok.fresh (Nat.le_refl _))
theorem range_it {pins : List (Addr × Obj)} {σ : St} {H : Hp} {s : Shared} {R : It → Hp → Prop} {E : Value → Shared → Prop} {lo hi : Int} {t u v : Tok} {tk : Nat} (I : Inv X pins σ H s) (h1 : -(2 ^ 62) ≤ lo) (h2 : lo < 2 ^ 62) (h3 : -(2 ^ 62) ≤ hi) (h4 : hi < 2 ^ 62)
    (q : R (Itr lo (hi - lo).toNat) H) : wpAny (model X.prog X.w) X.A (pyIter (.ref s.heap.objs.size)) (PIE X pins σ tg R) E { s with heap := s.heap.push { cls := .type "range", data := .fields #[.int lo t, .int hi u, .int 1 v] }, toks := tk } := by
  refine wpAny_pyIter_range (IsRange.new ..) (small_one h1 h2 h3 h4) ?_
  have I1 : Inv X pins σ H { s with heap := s.heap.push { cls := .type "range", data := .fields #[.int lo t, .int hi u, .int 1 v] }, toks := tk } := I.kept fun b o e => Heap.get?_push_of_some _ e
  refine ⟨(s.heap.push { cls := .type "range", data := .fields #[.int lo t, .int hi u, .int 1 v] }).objs.size, [(s.heap.push { cls := .type "range", data := .fields #[.int lo t, .int hi u, .int 1 v] }).objs.size], _, _, H, rfl,
    I1.kept (t' := tk) fun b o e => Heap.get?_push_of_some _ e, turn_range _ lo (hi - lo).toNat, ?_, fun b hb => ?_, q⟩
  · have e1 : lo + ((0 : Nat) : Int) * 1 = lo := by simp
    have e2 : (((hi - lo).toNat : Nat) : Int) - ((0 : Nat) : Int) = Builtin.Range.rangeSize lo hi 1 := by rw [rangeSize_one]; split <;> omega
    show IsRangeIter _ _ (lo + ((0 : Nat) : Int) * 1) ((((hi - lo).toNat : Nat) : Int) - ((0 : Nat) : Int)) 1
    rw [e1, e2]
    exact Heap.get?_push_size _ rfl
  · have e : b = (s.heap.push { cls := .type "range", data := .fields #[.int lo t, .int hi u, .int 1 v] }).objs.size := by simpa using hb
    subst e
    exact I1.fpOk (Nat.le_refl _) (I1.hok.fresh (Nat.le_refl _))
def iRng1 (ta : TA) : TI := fun σ H R => ta σ H fun vs H1 => ∃ j : Int, vs = [.int j] ∧ -(2 ^ 62) ≤ j ∧ j < 2 ^ 62 ∧ R (Itr 0 j.toNat) H1
def iRng2 (ta : TA) : TI := fun σ H R => ta σ H fun vs H1 => ∃ i j : Int, vs = [.int i, .int j] ∧ (-(2 ^ 62) ≤ i ∧ i < 2 ^ 62 ∧ -(2 ^ 62) ≤ j ∧ j < 2 ^ 62) ∧ R (Itr i (j - i).toNat) H1
theorem pi_range1 {a : Expr} {ta : TA} {p pos : Pos} (hg : Gl X "range") (hm : X.mg "range" = none) (ha : PA X [a] ta) (hs : starEach [a] X.env = [(false, eval a X.env)] := by rfl) : PI X tg (.Call (.Name "range" p) [a] [] pos) (iRng1 ta) := by
  intro pins s σ H R I h
  refine Call_ (ld_blt I hg hm boot_range (PyProof.Rows.callWith_type1 (thn (ha pos pins s σ H _ I h) fun us s1 ⟨vs, H1, I1, r1, q1⟩ => ?_) hs rfl))
  obtain ⟨j, e, q1, q2, q⟩ := q1
  subst e
  cases r1 with
  | cons r rr =>
    cases rr
    obtain ⟨t, rfl⟩ := r
    exact call_range_1 (range_it I1 (by omega) (by omega) q1 q2 (by simpa using q))
theorem pi_range2 {a b : Expr} {ta : TA} {p pos : Pos} (hg : Gl X "range") (hm : X.mg "range" = none) (ha : PA X [a, b] ta) (hs : starEach [a, b] X.env = [(false, eval a X.env), (false, eval b X.env)] := by rfl) (hs2 : starEach [b] X.env = [(false, eval b X.env)] := by rfl) :
    PI X tg (.Call (.Name "range" p) [a, b] [] pos) (iRng2 ta) := by
  intro pins s σ H R I h
  refine Call_ (ld_blt I hg hm boot_range (PyProof.Rows.callWith_type1 (thn (ha pos pins s σ H _ I h) fun us s1 ⟨vs, H1, I1, r1, q1⟩ => ?_) (by rw [hs, hs2]) (by rw [hs2]; rfl)))
  obtain ⟨i, j, e, ⟨q1, q2, q3, q4⟩, q⟩ := q1
  subst e
  cases r1 with
  | cons r rr =>
    cases rr with
    | cons r' rr =>
      cases rr
      obtain ⟨t, rfl⟩ := r
      obtain ⟨t', rfl⟩ := r'
      exact call_range_2 (range_it I1 q1 q2 q3 q4 q)
def tFor (wi : TI) (g : TG) (tb : TS) : TS := fun D σ H => wi σ H fun J H1 => ∃ W : Nat → Nat → St → Hp → Prop, (∃ m, W 0 m σ H1) ∧ ∀ i m σ H, W i m σ H →
  (J.stop i H ∧ D.nx σ H) ∨ (J.go i H ∧ ∃ N : St → Hp → Prop, (∀ σ' H', N σ' H' → ∃ m', m' < m ∧ W (i + 1) m' σ' H') ∧ ∀ x H', J.yld i H x H' → g x σ H' fun σ2 H2 => tb { D with nx := N, ct := N, bk := D.nx } σ2 H2)
def pinsAt (fp : List Addr) (h : Heap) : List (Addr × Obj) := fp.filterMap fun b => (h.get? b).map fun o => (b, o)
theorem mem_pinsAt {fp : List Addr} {h : Heap} {b : Addr} {o : Obj} (hb : b ∈ fp) (e : h.get? b = some o) : (b, o) ∈ pinsAt fp h := List.mem_filterMap.mpr ⟨b, hb, by rw [e]; rfl⟩
theorem of_pinsAt {fp : List Addr} {h : Heap} {p : Addr × Obj} (hp : p ∈ pinsAt fp h) : p.1 ∈ fp ∧ h.get? p.1 = some p.2 := by
  obtain ⟨b, hb, e⟩ := List.mem_filterMap.mp hp
  cases q : h.get? b with
  | none => rw [q] at e; cases e
  | some o =>
    rw [q] at e
    have e' : (b, o) = p := Option.some.inj e
    subst e'
    exact ⟨hb, q⟩
theorem Inv.pinned {pins : List (Addr × Obj)} {σ : St} {H : Hp} {s : Shared} {fp : List Addr} (I : Inv X pins σ H s) (hf : ∀ b ∈ fp, FpOk X pins H b) (ho : ∀ b ∈ fp, ∃ o, s.heap.get? b = some o ∧ ∀ v, o.data ≠ .cell v) : Inv X (pins ++ pinsAt fp s.heap) σ H s :=
  I.pins_of fun p hp => (List.mem_append.mp hp).elim (fun z => I.pin p (List.mem_append_right _ z)) fun z => by
    obtain ⟨hb, e⟩ := of_pinsAt z
    obtain ⟨f0, f1, f2, _⟩ := hf p.1 hb
    obtain ⟨o, e', d⟩ := ho p.1 hb
    rw [e] at e'; cases e'
    exact ⟨e, f0, f1, f2, d⟩
theorem Inv.unpinned {pins pl : List (Addr × Obj)} {σ : St} {H : Hp} {s : Shared} (I : Inv X (pins ++ pl) σ H s) : Inv X pins σ H s := I.pins_of fun p hp => I.pin p (List.mem_append_right _ (List.mem_append_left _ hp))
theorem ps_for {iter : Expr} {body : List Stmt} {wi : TI} {g : TG} {tb : TS} {pos : Pos} (hp : PassesOwn (model X.prog X.w) X.A X.env X.xe) (hc : X.calm = true) (hi : PI X tg iter wi) (hg : PG X tg g) (hb : PSs X body tb)
    (hs : ∀ x, foldedSetIterable iter X.env x = pure x := by intro _; rfl) : PS X (.For tg iter body [] pos) (tFor wi g tb) := by
  intro pins s σ H D I h
  refine wpAny_For (thn (hi pins s σ H _ I h) fun v s1 h1 => thn h1 fun itv s2 h2 => ?_) hs
  obtain ⟨it, fp, tn, J, H2, e, I2, T, st2, f2, W, ⟨m0, w0⟩, turn⟩ := h2
  subst e
  have stat : ∀ {H' : Hp}, (∀ b ∈ fp, H' b = none) → ∀ b ∈ fp, FpOk X pins H' b := fun hn b hb => ⟨hn b hb, (f2 b hb).2⟩
  refine codeAny_forLoop_any (fun n s' => ∃ i σ' H', Inv X pins σ' H' s' ∧ tn i s'.heap ∧ (∀ b ∈ fp, H' b = none) ∧ W i n σ' H') ?_ m0 ⟨0, σ, H2, I2, st2, fun b hb => (f2 b hb).1, w0⟩
  rintro n s3 ⟨i, σ3, H3, I3, st3, fr3, w3⟩
  rcases turn i n σ3 H3 w3 with ⟨stop, qn⟩ | ⟨go, N, hN, step⟩
  · refine wpAny_passesOwn hp (thn (T.done X rfl rfl rfl hc i pins s3 σ3 H3 X.xe I3 (stat fr3) st3 stop) fun r s4 ⟨hr, I4⟩ => ?_)
    subst hr
    exact wpAny_execs_nil ⟨σ3, H3, I4, qn⟩
  · refine wpAny_passesOwn hp (thn (T.item X rfl rfl rfl hc i pins s3 σ3 H3 X.xe I3 (stat fr3) st3 go) fun r s4 ⟨u, hr, h4⟩ => ?_)
    subst hr
    refine wpAny_passesOwn hp (thn h4 fun _ s5 ⟨x, H5, I5, r5, y5, st5, fr5⟩ => ?_)
    have I5' := I5.pinned (stat fr5) (T.obj _ _ st5)
    refine wpAny_passesOwn hp (thn (hg _ s5 σ3 H5 x u _ I5' r5 (step x H5 y5)) fun _ s6 ⟨σ6, H6, I6, q6⟩ => ?_)
    refine wpAny_passesOwn hp (thn (hb _ s6 σ6 H6 _ I6 q6) fun f s7 q7 => ?_)
    have again : ∀ {σ7 : St} {H7 : Hp}, Inv X (pins ++ pinsAt fp s5.heap) σ7 H7 s7 → N σ7 H7 → ∃ m, m < n ∧ ∃ i σ' H', Inv X pins σ' H' s7 ∧ tn i s7.heap ∧ (∀ b ∈ fp, H' b = none) ∧ W i m σ' H' := fun {σ7 H7} I7 n7 => by
      obtain ⟨m', hm, w7⟩ := hN σ7 H7 n7
      refine ⟨m', hm, i + 1, σ7, H7, I7.unpinned, T.keep _ _ _ st5 fun b hb o e => (I7.pin (b, o) (List.mem_append_right _ (List.mem_append_right _ (mem_pinsAt hb e)))).1, fun b hb => ?_, w7⟩
      obtain ⟨o, e, d⟩ := T.obj _ _ st5 b hb
      exact (I7.pin (b, o) (List.mem_append_right _ (List.mem_append_right _ (mem_pinsAt hb e)))).2.1
    cases f with
    | next => obtain ⟨σ7, H7, I7, n7⟩ := q7; exact again I7 n7
    | cont => obtain ⟨σ7, H7, I7, n7⟩ := q7; exact again I7 n7
    | brk => obtain ⟨σ7, H7, I7, q7⟩ := q7; exact ⟨σ7, H7, I7.unpinned, q7⟩
    | ret v => obtain ⟨x7, σ7, H7, I7, r7, q7⟩ := q7; exact ⟨x7, σ7, H7, I7.unpinned, r7, q7⟩
end
theorem for_list {K : PySem.W.Frag} {a : Addr} {xs : List V} {g : TG} {tb : TS} {D : Ends} {σ : St} {H : Hp} (Pv : Nat → St → Hp → Prop) (h0 : Pv 0 σ H) (hl : ∀ i σ H, i ≤ xs.length → Pv i σ H → SqL K H a xs)
    (hs : ∀ i x σ H, xs[i]? = some x → Pv i σ H → g x σ H fun σ2 H2 => tb { D with nx := Pv (i + 1), ct := Pv (i + 1), bk := D.nx } σ2 H2) (hd : ∀ σ H, Pv xs.length σ H → D.nx σ H) :
    ∃ W : Nat → Nat → St → Hp → Prop, (∃ m, W 0 m σ H) ∧ ∀ i m σ H, W i m σ H →
      ((Itl K a).stop i H ∧ D.nx σ H) ∨ ((Itl K a).go i H ∧ ∃ N : St → Hp → Prop, (∀ σ' H', N σ' H' → ∃ m', m' < m ∧ W (i + 1) m' σ' H') ∧ ∀ x H', (Itl K a).yld i H x H' → g x σ H' fun σ2 H2 => tb { D with nx := N, ct := N, bk := D.nx } σ2 H2) := by
  refine ⟨fun i m σ H => m = xs.length - i ∧ i ≤ xs.length ∧ Pv i σ H, ⟨xs.length, by simp, Nat.zero_le _, h0⟩, ?_⟩
  rintro i m σ H ⟨rfl, hi, p⟩
  have q := hl i σ H hi p
  by_cases hlt : i < xs.length
  · refine .inr ⟨⟨xs, xs[i], q, by simp [hlt]⟩, Pv (i + 1), fun σ' H' p' => ⟨xs.length - (i + 1), by omega, rfl, hlt, p'⟩, fun x H' y => ?_⟩
    obtain ⟨e, y⟩ := y
    subst e
    exact hs i x σ _ (y xs q) p
  · have e : i = xs.length := by omega
    subst e
    exact .inl ⟨⟨xs, q, Nat.le_refl _⟩, hd σ H p⟩
theorem for_range {lo : Int} {n : Nat} {g : TG} {tb : TS} {D : Ends} {σ : St} {H : Hp} (Pv : Nat → St → Hp → Prop) (h0 : Pv 0 σ H)
    (hs : ∀ i σ H, i < n → Pv i σ H → g (.int (lo + i)) σ H fun σ2 H2 => tb { D with nx := Pv (i + 1), ct := Pv (i + 1), bk := D.nx } σ2 H2) (hd : ∀ σ H, Pv n σ H → D.nx σ H) :
    ∃ W : Nat → Nat → St → Hp → Prop, (∃ m, W 0 m σ H) ∧ ∀ i m σ H, W i m σ H →
      ((Itr lo n).stop i H ∧ D.nx σ H) ∨ ((Itr lo n).go i H ∧ ∃ N : St → Hp → Prop, (∀ σ' H', N σ' H' → ∃ m', m' < m ∧ W (i + 1) m' σ' H') ∧ ∀ x H', (Itr lo n).yld i H x H' → g x σ H' fun σ2 H2 => tb { D with nx := N, ct := N, bk := D.nx } σ2 H2) := by
  refine ⟨fun i m σ H => m = n - i ∧ i ≤ n ∧ Pv i σ H, ⟨n, by simp, Nat.zero_le _, h0⟩, ?_⟩
  rintro i m σ H ⟨rfl, hi, p⟩
  by_cases hlt : i < n
  · refine .inr ⟨hlt, Pv (i + 1), fun σ' H' p' => ⟨n - (i + 1), by omega, rfl, hlt, p'⟩, fun x H' y => ?_⟩
    obtain ⟨e, y⟩ := y
    subst e y
    exact hs i σ _ hlt p
  · have e : i = n := by omega
    subst e
    exact .inl ⟨Nat.le_refl _, hd σ H p⟩
end L2
namespace L2
open PySem PySem.Spec PyProof.Rows
abbrev R2 := V → V → Hp → VK → Prop
def OpR (X : Cx) (f : Value → Value → Sem Value) (r : R2) : Prop :=
  ∀ (pins : List (Addr × Obj)) (s : Shared) (σ : St) (H : Hp) (x y : V) (v u : Value) (Q : VK), Inv X pins σ H s → RelV x v → RelV y u → r x y H Q →
    wpAny (model X.prog X.w) X.A (f v u) (EP X pins σ Q) X.xe s
def UnR (X : Cx) (f : Value → Sem Value) (r : V → Hp → VK → Prop) : Prop :=
  ∀ (pins : List (Addr × Obj)) (s : Shared) (σ : St) (H : Hp) (x : V) (v : Value) (Q : VK), Inv X pins σ H s → RelV x v → r x H Q →
    wpAny (model X.prog X.w) X.A (f v) (EP X pins σ Q) X.xe s
def CallR (X : Cx) (f : Value) (r : List V → Hp → VK → Prop) : Prop :=
  ∀ (pins : List (Addr × Obj)) (s : Shared) (σ : St) (H : Hp) (xs : List V) (us : List Value) (Q : VK), Inv X pins σ H s → Vals xs us → r xs H Q →
    wpAny (model X.prog X.w) X.A (call f us) (EP X pins σ Q) X.xe s
def tOp (r : R2) (ta tb : TE) : TE := fun σ H Q => ta σ H fun x H1 => tb σ H1 fun y H2 => r x y H2 Q
def tUn (r : V → Hp → VK → Prop) (ta : TE) : TE := fun σ H Q => ta σ H fun x H1 => r x H1 Q
def rI (C : Int → Int → Prop) (g : Int → Int → V) : R2 := fun x y H Q => ∃ i j, x = .int i ∧ y = .int j ∧ C i j ∧ Q (g i j) H
def rI0 (g : Int → Int → V) : R2 := fun x y H Q => ∃ i j, x = .int i ∧ y = .int j ∧ Q (g i j) H
def rU (g : Int → V) : V → Hp → VK → Prop := fun x H Q => ∃ i, x = .int i ∧ Q (g i) H
section
variable {X : Cx} {a b c : Expr} {ta tb tc : TE} {pos : Pos}
theorem binT (ha : PE X a ta) (hb : PE X b tb) {pins : List (Addr × Obj)} {s : Shared} {σ : St} {H : Hp} {R : V → V → Hp → Prop} (I : Inv X pins σ H s)
    (h : ta σ H fun x H1 => tb σ H1 fun y H2 => R x y H2) {Q : Value → Shared → Prop} {f : Value → Value → Sem Value}
    (hf : ∀ v u s2 x y H2, Inv X pins σ H2 s2 → RelV x v → RelV y u → R x y H2 → wpAny (model X.prog X.w) X.A (f v u) Q X.xe s2) :
    wpAny (model X.prog X.w) X.A (eval a X.env) (fun v s₁ => wpAny (model X.prog X.w) X.A (eval b X.env) (fun u s₂ => wpAny (model X.prog X.w) X.A (f v u) Q X.xe s₂) X.xe s₁) X.xe s := by
  refine thn (ha pins s σ H _ I h) fun v s1 ⟨x, H1, I1, r1, q1⟩ => ?_
  refine thn (hb pins s1 σ H1 _ I1 q1) fun u s2 ⟨y, H2, I2, r2, q2⟩ => ?_
  exact hf v u s2 x y H2 I2 r1 r2 q2
theorem pe_op {op : Operator} {r : R2} (ho : OpR X (binaryOp op) r) (ha : PE X a ta) (hb : PE X b tb) : PE X (.BinOp a op b pos) (tOp r ta tb) := by
  intro pins s σ H Q I h
  exact wpAny_BinOp (binT ha hb I h fun v u s2 x y H2 I2 rx ry q => ho pins s2 σ H2 x y v u Q I2 rx ry q)
theorem pe_un {op : UnaryOp} {r : V → Hp → VK → Prop} (ho : UnR X (unaryOp op) r) (ha : PE X a ta) : PE X (.UnaryOp op a pos) (tUn r ta) := by
  intro pins s σ H Q I h
  exact UnaryOp_ (thn (ha pins s σ H _ I h) fun v s1 ⟨x, H1, I1, r1, q1⟩ => ho pins s1 σ H1 x v Q I1 r1 q1)
theorem opI {f : Value → Value → Sem Value} {C : Int → Int → Prop} {g : Int → Int → Int}
    (rule : ∀ (i j : Int) (t u : Tok) (s : Shared) (Q : Value → Shared → Prop) (E : Value → Shared → Prop), C i j → Q (.int (g i j) s.toks) { s with toks := s.toks + 1 } → wpAny (model X.prog X.w) X.A (f (.int i t) (.int j u)) Q E s) :
    OpR X f (rI C fun i j => .int (g i j)) := by
  intro pins s σ H x y v u Q I rx ry h
  obtain ⟨i, j, rfl, rfl, hc, q⟩ := h
  obtain ⟨t, rfl⟩ := rx
  obtain ⟨t', rfl⟩ := ry
  exact rule i j t t' s _ _ hc ⟨.int (g i j), H, I.tok _, ⟨_, rfl⟩, q⟩
theorem opI0 {f : Value → Value → Sem Value} {g : Int → Int → Int}
    (rule : ∀ (i j : Int) (t u : Tok) (s : Shared) (Q : Value → Shared → Prop) (E : Value → Shared → Prop), Q (.int (g i j) s.toks) { s with toks := s.toks + 1 } → wpAny (model X.prog X.w) X.A (f (.int i t) (.int j u)) Q E s) :
    OpR X f (rI0 fun i j => .int (g i j)) := by
  intro pins s σ H x y v u Q I rx ry h
  obtain ⟨i, j, rfl, rfl, q⟩ := h
  obtain ⟨t, rfl⟩ := rx
  obtain ⟨t', rfl⟩ := ry
  exact rule i j t t' s _ _ ⟨.int (g i j), H, I.tok _, ⟨_, rfl⟩, q⟩
theorem opB0 {f : Value → Value → Sem Value} {g : Int → Int → Bool}
    (rule : ∀ (i j : Int) (t u : Tok) (s : Shared) (Q : Value → Shared → Prop) (E : Value → Shared → Prop), Q (.bool (g i j)) s → wpAny (model X.prog X.w) X.A (f (.int i t) (.int j u)) Q E s) :
    OpR X f (rI0 fun i j => .bl (g i j)) := by
  intro pins s σ H x y v u Q I rx ry h
  obtain ⟨i, j, rfl, rfl, q⟩ := h
  obtain ⟨t, rfl⟩ := rx
  obtain ⟨t', rfl⟩ := ry
  exact rule i j t t' s _ _ ⟨.bl (g i j), H, I, rfl, q⟩
def CPow (i j : Int) : Prop := 0 ≤ j ∧ j ≤ 1000000 ∧ i.natAbs < 2 ^ 64
def CMul (i j : Int) : Prop := (-(2 ^ 64) < i ∧ i < 2 ^ 64) ∨ (-(2 ^ 64) < j ∧ j < 2 ^ 64)
theorem CMul.ok {i j : Int} (h : CMul i j) : IntMulOk i j := by
  rcases h with ⟨h1, h2⟩ | ⟨h1, h2⟩
  · exact .of_left (intBits_le_64 h1 h2)
  · exact .of_right (intBits_le_64 h1 h2)
theorem op_add : OpR X (binaryOp .Add) (rI0 fun i j => .int (i + j)) := opI0 fun _ _ _ _ _ _ _ q => add_int q
theorem op_sub : OpR X (binaryOp .Sub) (rI0 fun i j => .int (i - j)) := opI0 fun _ _ _ _ _ _ _ q => sub_int q
theorem op_mul : OpR X (binaryOp .Mult) (rI CMul fun i j => .int (i * j)) := opI fun _ _ _ _ _ _ _ hc q => mul_int q hc.ok
theorem op_mod : OpR X (binaryOp .Mod) (rI (fun _ j => 0 < j) fun i j => .int (i % j)) := opI fun i j _ _ _ _ _ hc q => by
  have h1 : (0 : Int) < j := hc
  exact mod_int' (by omega) (by rw [Int.fmod_eq_emod_of_nonneg i (by omega)]; exact q)
theorem op_pow : OpR X (binaryOp .Pow) (rI CPow fun i j => .int (i ^ j.toNat)) := opI fun _ _ _ _ _ _ _ hc q => pow_int_small hc.1 hc.2.1 hc.2.2 q
theorem unI {f : Value → Sem Value} {g : Int → Int}
    (rule : ∀ (i : Int) (t : Tok) (s : Shared) (Q : Value → Shared → Prop) (E : Value → Shared → Prop), Q (.int (g i) s.toks) { s with toks := s.toks + 1 } → wpAny (model X.prog X.w) X.A (f (.int i t)) Q E s) :
    UnR X f (rU fun i => .int (g i)) := by
  intro pins s σ H x v Q I rx h
  obtain ⟨i, rfl, q⟩ := h
  obtain ⟨t, rfl⟩ := rx
  exact rule i t s _ _ ⟨.int (g i), H, I.tok _, ⟨_, rfl⟩, q⟩
theorem un_neg : UnR X (unaryOp .USub) (rU fun i => .int (-i)) := unI fun _ _ _ _ _ q => neg_int q
end
def scal : V → V → Bool
  | .non, .non => true | .non, .int _ => true | .int _, .non => true | .non, .bl _ => true | .bl _, .non => true | .non, .str _ => true | .str _, .non => true
  | .int _, .int _ => true | .bl _, .bl _ => true | .str _, .str _ => true | .byt _, .byt _ => true
  | .int _, .str _ => true | .str _, .int _ => true | .bl _, .str _ => true | .str _, .bl _ => true
  | _, _ => false
def rEq : R2 := fun x y H Q => scal x y = true ∧ Q (.bl (decide (x = y))) H
def rNe : R2 := fun x y H Q => scal x y = true ∧ Q (.bl (!decide (x = y))) H
theorem dec_int {i j : Int} : decide (V.int i = V.int j) = (i == j) := by
  rw [Bool.eq_iff_iff]
  simp
theorem dec_bl {i j : Bool} : decide (V.bl i = V.bl j) = (i == j) := by
  rw [Bool.eq_iff_iff]
  simp
theorem dec_str {i j : Str} : decide (V.str i = V.str j) = (i == j) := by
  rw [Bool.eq_iff_iff]
  simp
theorem dec_byt {i j : Array UInt8} : decide (V.byt i = V.byt j) = (i.toList == j.toList) := by
  rw [Bool.eq_iff_iff]
  cases i
  cases j
  simp
section
variable {X : Cx} {a b c : Expr} {ta tb tc : TE} {pos : Pos}
theorem fin_bl {pins : List (Addr × Obj)} {σ : St} {H : Hp} {s : Shared} {Q : VK} {k k' : Bool} (I : Inv X pins σ H s) (q : Q (.bl k) H) (e : k = k') : EP X pins σ Q (.bool k') s := by
  subst e
  exact ⟨.bl k, H, I, rfl, q⟩
theorem op_eq : OpR X (compareOp .Eq) rEq := by
  intro pins s σ H x y v u Q I rx ry h
  obtain ⟨hs, q⟩ := h
  cases x with
  | non =>
    cases rx
    cases y with
    | non => cases ry; exact PySem.EqNone.eq_none_none (fin_bl I q (by simp))
    | bl j => cases ry; exact PySem.EqNone.eq_none_bool (fin_bl I q (by simp))
    | int j => obtain ⟨t', rfl⟩ := ry; exact PySem.EqNone.eq_none_int (fin_bl I q (by simp))
    | str j => obtain ⟨t', rfl⟩ := ry; exact PySem.EqNone.eq_none_str (fin_bl I q (by simp))
    | _ => exact absurd (show false = true from hs) Bool.false_ne_true
  | bl i =>
    cases rx
    cases y with
    | non => cases ry; exact PySem.EqNone.eq_bool_none (fin_bl I q (by simp))
    | bl j => cases ry; exact eq_bool (fin_bl I q dec_bl)
    | str j => obtain ⟨t', rfl⟩ := ry; exact PySem.EqMixed.eq_bool_str (fin_bl I q (by simp))
    | _ => exact absurd (show false = true from hs) Bool.false_ne_true
  | int i =>
    obtain ⟨t, rfl⟩ := rx
    cases y with
    | non => cases ry; exact PySem.EqNone.eq_int_none (fin_bl I q (by simp))
    | int j => obtain ⟨t', rfl⟩ := ry; exact eq_int (fin_bl I q dec_int)
    | str j => obtain ⟨t', rfl⟩ := ry; exact PySem.EqMixed.eq_int_str (fin_bl I q (by simp))
    | _ => exact absurd (show false = true from hs) Bool.false_ne_true
  | str i =>
    obtain ⟨t, rfl⟩ := rx
    cases y with
    | non => cases ry; exact PySem.EqNone.eq_str_none (fin_bl I q (by simp))
    | bl j => cases ry; exact PySem.EqMixed.eq_str_bool (fin_bl I q (by simp))
    | int j => obtain ⟨t', rfl⟩ := ry; exact PySem.EqMixed.eq_str_int (fin_bl I q (by simp))
    | str j => obtain ⟨t', rfl⟩ := ry; exact eq_str (fin_bl I q dec_str)
    | _ => exact absurd (show false = true from hs) Bool.false_ne_true
  | byt i =>
    obtain ⟨t, rfl⟩ := rx
    cases y with
    | byt j => obtain ⟨t', rfl⟩ := ry; exact PySem.W.eq_bytes (fin_bl I q dec_byt)
    | _ => exact absurd (show false = true from hs) Bool.false_ne_true
  | _ => cases y <;> exact absurd (show false = true from hs) Bool.false_ne_true
theorem op_ne : OpR X (compareOp .NotEq) rNe := by
  intro pins s σ H x y v u Q I rx ry h
  obtain ⟨hs, q⟩ := h
  cases x with
  | non =>
    cases rx
    cases y with
    | non => cases ry; exact PySem.EqNone.ne_none_none (fin_bl I q (by simp))
    | bl j => cases ry; exact PySem.EqNone.ne_none_bool (fin_bl I q (by simp))
    | int j => obtain ⟨t', rfl⟩ := ry; exact PySem.EqNone.ne_none_int (fin_bl I q (by simp))
    | str j => obtain ⟨t', rfl⟩ := ry; exact PySem.EqNone.ne_none_str (fin_bl I q (by simp))
    | _ => exact absurd (show false = true from hs) Bool.false_ne_true
  | bl i =>
    cases rx
    cases y with
    | non => cases ry; exact PySem.EqNone.ne_bool_none (fin_bl I q (by simp))
    | bl j => cases ry; exact ne_bool (fin_bl I q (congrArg not dec_bl))
    | str j => obtain ⟨t', rfl⟩ := ry; exact PySem.EqMixed.ne_bool_str (fin_bl I q (by simp))
    | _ => exact absurd (show false = true from hs) Bool.false_ne_true
  | int i =>
    obtain ⟨t, rfl⟩ := rx
    cases y with
    | non => cases ry; exact PySem.EqNone.ne_int_none (fin_bl I q (by simp))
    | int j => obtain ⟨t', rfl⟩ := ry; exact ne_int (fin_bl I q (congrArg not dec_int))
    | str j => obtain ⟨t', rfl⟩ := ry; exact PySem.EqMixed.ne_int_str (fin_bl I q (by simp))
    | _ => exact absurd (show false = true from hs) Bool.false_ne_true
  | str i =>
    obtain ⟨t, rfl⟩ := rx
    cases y with
    | non => cases ry; exact PySem.EqNone.ne_str_none (fin_bl I q (by simp))
    | bl j => cases ry; exact PySem.EqMixed.ne_str_bool (fin_bl I q (by simp))
    | int j => obtain ⟨t', rfl⟩ := ry; exact PySem.EqMixed.ne_str_int (fin_bl I q (by simp))
    | str j => obtain ⟨t', rfl⟩ := ry; exact ne_str (fin_bl I q (congrArg not dec_str))
    | _ => exact absurd (show false = true from hs) Bool.false_ne_true
  | byt i =>
    obtain ⟨t, rfl⟩ := rx
    cases y with
    | byt j => obtain ⟨t', rfl⟩ := ry; exact PySem.W.ne_bytes (fin_bl I q (congrArg not dec_byt))
    | _ => exact absurd (show false = true from hs) Bool.false_ne_true
  | _ => cases y <;> exact absurd (show false = true from hs) Bool.false_ne_true
theorem op_lt : OpR X (compareOp .Lt) (rI0 fun i j => .bl (decide (i < j))) := opB0 fun _ _ _ _ _ _ _ q => lt_int q
theorem op_gt : OpR X (compareOp .Gt) (rI0 fun i j => .bl (decide (j < i))) := opB0 fun _ _ _ _ _ _ _ q => gt_int q
theorem op_ge : OpR X (compareOp .GtE) (rI0 fun i j => .bl (decide (j ≤ i))) := opB0 fun _ _ _ _ _ _ _ q => ge_int q
theorem nomark (b : Expr) {op : CmpOp} (h : op ≠ .In := by decide) (h2 : op ≠ .NotIn := by decide) : behindInMarks op b = false := by
  have e1 : (op == CmpOp.In) = false := by cases op <;> first | rfl | exact absurd rfl h
  have e2 : (op == CmpOp.NotIn) = false := by cases op <;> first | rfl | exact absurd rfl h2
  cases b <;> simp [behindInMarks, e1, e2]
theorem pe_cmpR {op : CmpOp} {r : R2} (ho : OpR X (compareOp op) r) (ha : PE X a ta) (hb : PE X b tb) (hm : behindInMarks op b = false) : PE X (.Compare a [op] [b] pos) (tOp r ta tb) := by
  intro pins s σ H Q I h
  exact wpAny_Compare1 (binT ha hb I h fun v u s2 x y H2 I2 rx ry q => ho pins s2 σ H2 x y v u Q I2 rx ry q) hm
def tTest (t : TE) : TT := fun σ H Q => t σ H fun x H' => ∃ k, x = .bl k ∧ Q k H'
theorem pt_cmpR {op : CmpOp} {r : R2} (ho : OpR X (compareOp op) r) (ha : PE X a ta) (hb : PE X b tb) (hm : behindInMarks op b = false) : PT X (.Compare a [op] [b] pos) (tTest (tOp r ta tb)) := by
  intro pins s σ H Q I h
  refine wpAny_isTrue_Compare1 (thn (ha pins s σ H _ I h) fun v s1 ⟨x, H1, I1, r1, q1⟩ => thn (hb pins s1 σ H1 _ I1 q1) fun u s2 ⟨y, H2, I2, r2, q2⟩ =>
    thn (ho pins s2 σ H2 x y v u _ I2 r1 r2 q2) fun c s3 ⟨z, H3, I3, r3, k, e, q3⟩ => ?_) hm
  subst e
  cases r3
  exact wpAny_truthy_bool ⟨H3, I3, q3⟩
theorem line63 : (sizeLine : Nat) < 2 ^ 63 := by rw [sizeLine_eq]; decide
theorem vals1 {x : V} {us : List Value} (r : Vals [x] us) : ∃ u, us = [u] ∧ RelV x u := by
  cases r with
  | cons r1 r2 => cases r2; exact ⟨_, rfl, r1⟩
theorem vals2 {x y : V} {us : List Value} (r : Vals [x, y] us) : ∃ u w', us = [u, w'] ∧ RelV x u ∧ RelV y w' := by
  cases r with
  | cons r1 r2 =>
    cases r2 with
    | cons r3 r4 => cases r4; exact ⟨_, _, rfl, r1, r3⟩
theorem call_abs : CallR X (.builtin "abs") (fun xs H Q => ∃ i, xs = [.int i] ∧ Q (.int (if i < 0 then -i else i)) H) := by
  intro pins s σ H xs us Q I r h
  obtain ⟨i, rfl, q⟩ := h
  obtain ⟨u, rfl, t, rfl⟩ := vals1 r
  exact call_abs_int fun u tk => ⟨.int (if i < 0 then -i else i), H, I.tok _, ⟨_, rfl⟩, q⟩
theorem call_max2 (hc : X.calm = true) : CallR X (.builtin "max") (fun xs H Q => ∃ i j, xs = [.int i, .int j] ∧ Q (.int (if j > i then j else i)) H) := by
  intro pins s σ H xs us Q I r h
  obtain ⟨i, j, rfl, q⟩ := h
  obtain ⟨u, w', rfl, ⟨t, rfl⟩, ⟨t', rfl⟩⟩ := vals2 r
  refine max_two_ints (I.ok.hd hc) fun h' tk k => ⟨_, H, I.kept k, ?_, q⟩
  by_cases hj : j > i
  · rw [if_pos hj, if_pos hj]; exact ⟨_, rfl⟩
  · rw [if_neg hj, if_neg hj]; exact ⟨_, rfl⟩
theorem call_min2 (hc : X.calm = true) : CallR X (.builtin "min") (fun xs H Q => ∃ i j, xs = [.int i, .int j] ∧ Q (.int (if j < i then j else i)) H) := by
  intro pins s σ H xs us Q I r h
  obtain ⟨i, j, rfl, q⟩ := h
  obtain ⟨u, w', rfl, ⟨t, rfl⟩, ⟨t', rfl⟩⟩ := vals2 r
  refine min_two_ints (I.ok.hd hc) fun h' tk k => ⟨_, H, I.kept k, ?_, q⟩
  by_cases hj : j < i
  · rw [if_pos hj, if_pos hj]; exact ⟨_, rfl⟩
  · rw [if_neg hj, if_neg hj]; exact ⟨_, rfl⟩
def LenV (K : PySem.W.Frag) (x : V) (H : Hp) (n : Nat) : Prop :=
  match x with
  | .str y => y.length ≤ sizeLine ∧ n = y.length
  | .byt y => y.size ≤ sizeLine ∧ n = y.size
  | .ref p => (∃ xs, SqL K H p xs ∧ n = xs.length) ∨ ∃ xs, SqT K H p xs ∧ n = xs.length
  | _ => False
theorem call_len : CallR X (.builtin "len") (fun xs H Q => ∃ x n, xs = [x] ∧ LenV X.K x H n ∧ Q (.int n) H) := by
  intro pins s σ H xs us Q I r h
  obtain ⟨x, n, rfl, e, q⟩ := h
  obtain ⟨u, rfl, rx⟩ := vals1 r
  have hl := line63
  have hs : sizeLine = 16777216 := sizeLine_eq
  cases x with
  | str y =>
    obtain ⟨t, rfl⟩ := rx
    obtain ⟨hy, e'⟩ : y.length ≤ sizeLine ∧ n = y.length := e
    subst e'
    exact len_str (by omega) ⟨.int _, H, I.tok _, ⟨_, rfl⟩, q⟩
  | byt y =>
    obtain ⟨t, rfl⟩ := rx
    obtain ⟨hy, e'⟩ : y.size ≤ sizeLine ∧ n = y.size := e
    subst e'
    exact PySem.W.len_bytes (by omega) ⟨.int _, H, I.tok _, ⟨_, rfl⟩, q⟩
  | ref p =>
    cases rx
    have e' : (∃ xs, SqL X.K H p xs ∧ n = xs.length) ∨ ∃ xs, SqT X.K H p xs ∧ n = xs.length := e
    rcases e' with ⟨xs, hx, e'⟩ | ⟨xs, hx, e'⟩
    · subst e'
      obtain ⟨its, r', pl, hz⟩ := I.list hx
      have hlen := r'.length
      exact Calls.call_len_list pl.isList (by simp only [List.size_toArray]; omega) ⟨.int xs.length, H, I.tok _, ⟨_, by simp only [List.size_toArray]; rw [hlen]⟩, q⟩
    · subst e'
      obtain ⟨its, r', pl, hz⟩ := I.tuple hx
      have hlen := r'.length
      exact len_tuple pl (by simp only [List.size_toArray]; omega) ⟨.int xs.length, H, I.tok _, ⟨_, by simp only [List.size_toArray]; rw [hlen]⟩, q⟩
  | _ => exact (show False from e).elim
end
end L2
namespace L2
open PySem PySem.Spec PyProof.Rows
structure ObjM (h : Heap) (x dx C : Addr) (mA : Str → Option Value) : Prop where
  obj : h.get? x = some (PySem.W.instObj C dx)
  ns : h.Ns1 dx mA
  ne : dx ≠ x
theorem lookIn_ns {h : Heap} {dx : Addr} {mA : Str → Option Value} (n : h.Ns1 dx mA) : ∃ od, h.get? dx = some od ∧ ∀ name, PySem.W.lookIn name od = some (mA name) := by
  obtain ⟨o, es, ep, ho, hd, hk, _, hm⟩ := n
  refine ⟨o, ho, fun name => ?_⟩
  have e := hm name
  unfold nsFind findBy at e
  rw [← Array.find?_toList] at e
  unfold PySem.W.lookIn
  rw [hd]
  dsimp only
  split
  · rename_i y q
    rw [q] at e
    exact congrArg some e
  · rename_i q
    rw [q] at e
    have a : es.toList.any (·.refKey) = false := by
      rw [List.any_eq_false]
      intro y hy
      obtain ⟨z, t, hkey⟩ := hk y (Array.mem_toList_iff.mp hy)
      simp [DictEntry.refKey, hkey]
    have a' : ¬ es.toList.any (·.refKey) = true := by rw [a]; exact Bool.false_ne_true
    rw [if_neg a']
    exact congrArg some e
theorem ObjM.look {h : Heap} {x dx C : Addr} {mA : Str → Option Value} (I : ObjM h x dx C mA) : ∃ od, PySem.W.InstAt h x (PySem.W.instObj C dx) C (some od) ∧ ∀ name, PySem.W.lookIn name od = some (mA name) :=
  let ⟨od, ho, hl⟩ := lookIn_ns I.ns
  ⟨od, ⟨I.obj, rfl, rfl, ho⟩, hl⟩
section
variable {prog : Program} {w : World} {A : Around} {E : Value → Shared → Prop} {s : Shared} {K : PySem.W.Frag} {x dx C f : Addr} {mA : Str → Option Value} {name : Str} {v : Value}
end
theorem RelO.some_of {v : V} {o : Option Value} (r : RelO (some v) o) : ∃ u, o = some u ∧ RelV v u := by
  cases o with
  | none => exact (show False from r).elim
  | some u => exact ⟨u, rfl, r⟩
theorem RelO.none_of {o : Option Value} (r : RelO none o) : o = none := by
  cases o with
  | none => rfl
  | some u => exact (show False from r).elim
section
variable {P : Program} {w : World} {H H' : Hp} {h h' : Heap} {a C dx : Addr} {fs fs' : List (Str × V)}
theorem ins_get (hok : HOk P w H h) (e : H a = some (.ins C dx fs)) : ∃ mA, ObjM h a dx C mA ∧ (∀ f, RelO (fs.lookup f) (mA f)) ∧ PySem.Within mA (fs.map (·.1)) ∧ fs.length ≤ 1000 ∧ H dx = some (.own a) := by
  obtain ⟨d, z, ne, ob, mA, n, r, q⟩ := (show ObjOk P w H h a (.ins C dx fs) from hok a _ e)
  exact ⟨mA, ⟨ob, n, ne⟩, r, q, z, d⟩
end
structure Cls (K : PySem.W.Frag) (C : Addr) : Prop where
  pg : PySem.W.plainGet K C Str.empty = true
  hd : PySem.W.hasDictIn K C = true
  po : PySem.W.plainOver K C = true
  sa : PySem.W.findIn K (.ref C) "__setattr__" = some (some (.builtin "object.__setattr__"))
theorem Cls.get {K : PySem.W.Frag} {C : Addr} (c : Cls K C) (f : Str) : PySem.W.plainGet K C f = true := c.pg
structure Con (K : PySem.W.Frag) (C : Addr) (f : Str) (v : V) (u : Value) : Prop where
  at_ : PySem.W.findIn K (.ref C) f = some (some u)
  rel : RelV v u
  get : PySem.W.specialIn K u "__get__" = some none
  cp : PySem.W.copiedNames.contains f = false
structure Meth (K : PySem.W.Frag) (C : Addr) (m : Str) (f : Addr) : Prop where
  at_ : PySem.W.findIn K (.ref C) m = some (some (.ref f))
  fn : PySem.W.isFn K (.ref f) = true
  kp : PySem.W.keepIn K (.ref f) = true
section
variable {X : Cx} {pins : List (Addr × Obj)} {σ : St} {H : Hp} {s : Shared} {a C dx : Addr} {fs : List (Str × V)} {f : Str} {v : V} {A : Around} {E : Value → Shared → Prop}
theorem Inv.made (I : Inv X pins σ H s) : Inv X pins σ (upd (upd H s.heap.objs.size (.own (s.heap.objs.size + 1))) (s.heap.objs.size + 1) (.ins C s.heap.objs.size []))
    { s with heap := (s.heap.push PySem.W.emptyDict).push (PySem.W.instObj C s.heap.objs.size) } := by
  have e1 : (s.heap.push PySem.W.emptyDict).get? s.heap.objs.size = some PySem.W.emptyDict := Heap.get?_push_size s.heap rfl
  have e2 : ((s.heap.push PySem.W.emptyDict).push (PySem.W.instObj C s.heap.objs.size)).get? (s.heap.objs.size + 1) = some (PySem.W.instObj C s.heap.objs.size) := by
    have := Heap.get?_push_size (s.heap.push PySem.W.emptyDict) (o := PySem.W.instObj C s.heap.objs.size) rfl
    rwa [Heap.size_push] at this
  have e3 : (s.heap.push PySem.W.emptyDict).Ns s.heap.objs.size (fun _ => none) := ⟨PySem.W.emptyDict, #[], _, e1, rfl, (fun e he => absurd he (by simp)), fun _ => rfl⟩
  have I1 := I.laid (a := s.heap.objs.size) (o := .own (s.heap.objs.size + 1)) (h' := s.heap.push PySem.W.emptyDict) (t' := s.toks) (fun b u q => Heap.get?_push_of_some _ q) (Nat.le_refl _) ⟨_, e1⟩
  refine I1.laid (a := s.heap.objs.size + 1) (o := .ins C s.heap.objs.size []) (t' := s.toks) (fun b u q => Heap.get?_push_of_some _ q) (Nat.le_of_eq (Heap.size_push _ _)) ?_
  have ne : s.heap.objs.size ≠ s.heap.objs.size + 1 := Nat.ne_of_lt (Nat.lt_succ_self _)
  refine ⟨by rw [upd_ne ne, upd_same], Nat.zero_le _, ne, e2, fun _ => none, (Heap.Ns1.of_empty e3).at fun o q => Heap.get?_push_of_some _ q, fun _ => True.intro, fun y hy => absurd rfl hy⟩
end
section
variable {X : Cx} {o e value : Expr} {f : Str} {pos pos' tpos : Pos} {ta tv : TE}
end
section
variable {X : Cx} {pins : List (Addr × Obj)} {σ : St} {H : Hp} {s : Shared} {A : Around} {E : Value → Shared → Prop} {Q : Value → Shared → Prop} {c : Value} {b : Bool}
inductive TyOf (K : PySem.W.Frag) (H : Hp) : V → Value → Prop where
  | non : TyOf K H .non (.type "NoneType")
  | bl (x : Bool) : TyOf K H (.bl x) (.type "bool")
  | int (i : Int) : TyOf K H (.int i) (.type "int")
  | str (x : Str) : TyOf K H (.str x) (.type "str")
  | flt (x : UInt64) : TyOf K H (.flt x) (.type "float")
  | lst {a : Addr} {xs : List V} (e : H a = some (.lst xs)) : TyOf K H (.ref a) (.type "list")
  | frz {a : Addr} {o : Obj} {xs : List V} (e : H a = some (.frz o (.lst xs))) : TyOf K H (.ref a) (.type "list")
  | tup {a : Addr} {xs : List V} (e : H a = some (.tup xs)) : TyOf K H (.ref a) (.type "tuple")
  | dK {a : Addr} {kvs : List (Key × V)} (e : H a = some (.dK kvs)) : TyOf K H (.ref a) (.type "dict")
  | dT {a : Addr} {kvs : List (List Key × V)} (e : H a = some (.dT kvs)) : TyOf K H (.ref a) (.type "dict")
  | ins {a C dx : Addr} {fs : List (Str × V)} (e : H a = some (.ins C dx fs)) (cl : Cls K C) (ha : PySem.W.findIn K (.ref C) "__class__" = some (some (.builtin "object.__class__")))
      (hn : PySem.W.specialIn K (.builtin "object.__class__") "__get__" = some (some (.builtin "getset_descriptor.__get__"))) (htk : PySem.W.takesIn K (.builtin "object.__class__") = some true)
      (hm : PySem.W.mroIn K C (.type "object") = some true) : TyOf K H (.ref a) (.ref C)
theorem isinst_ok {x : V} {u t : Value} (I : Inv X pins σ H s) (rx : RelV x u) (ty : TyOf X.K H x t) (e : PySem.W.kitOne X.K t c = some b) (h : ∀ tk, Q (.bool b) { s with toks := tk }) :
    wpAny (model X.prog X.w) A (call (.builtin "isinstance") [u, c]) Q E s := by
  cases ty with
  | non => cases (show u = Value.none from rx); exact PySem.W.kia_one PySem.W.kitx_none I.kIn True.intro e (fun z => nomatch z) h
  | bl y => cases (show u = Value.bool y from rx); exact PySem.W.kia_one PySem.W.kitx_bool I.kIn True.intro e (fun z => nomatch z) h
  | int i => obtain ⟨t, q⟩ := (show ∃ t, u = Value.int i t from rx); cases q; exact PySem.W.kia_one PySem.W.kitx_int I.kIn True.intro e (fun z => nomatch z) h
  | str y => obtain ⟨t, q⟩ := (show ∃ t, u = Value.str y t from rx); cases q; exact PySem.W.kia_one PySem.W.kitx_str I.kIn True.intro e (fun z => nomatch z) h
  | flt y => obtain ⟨t, q⟩ := (show ∃ t, u = Value.float y t from rx); cases q; exact PySem.W.kia_one PySem.W.kitx_float I.kIn True.intro e (fun z => nomatch z) h
  | @lst a xs ea =>
    cases (show u = Value.ref a from rx)
    obtain ⟨_, _, n, _, h1⟩ := (show ObjOk X.prog X.w H s.heap a (.lst xs) from I.hok a _ ea)
    exact PySem.W.kia_one PySem.W.kitx_list I.kIn ⟨_, h1, rfl⟩ e (fun z => nomatch z) h
  | @frz a ob xs ea =>
    cases (show u = Value.ref a from rx)
    obtain ⟨_, _, _, n, _, h1⟩ := (show ObjOk X.prog X.w H s.heap a (.frz ob (.lst xs)) from I.hok a _ ea)
    exact PySem.W.kia_one PySem.W.kitx_list I.kIn ⟨_, h1, rfl⟩ e (fun z => nomatch z) h
  | @tup a xs ea =>
    cases (show u = Value.ref a from rx)
    obtain ⟨_, _, _, p⟩ := (show ObjOk X.prog X.w H s.heap a (.tup xs) from I.hok a _ ea)
    obtain ⟨o, h1, h2, _⟩ := p
    exact PySem.W.kia_one PySem.W.kitx_tuple I.kIn ⟨o, h1, h2⟩ e (fun z => nomatch z) h
  | @dK a kvs ea =>
    cases (show u = Value.ref a from rx)
    obtain ⟨_, _, vs, _, p⟩ := (show ObjOk X.prog X.w H s.heap a (.dK kvs) from I.hok a _ ea)
    obtain ⟨o, es, ep, h1, h2, _⟩ := p
    exact PySem.W.kia_one PySem.W.kitx_dict I.kIn ⟨o, h1, h2.1⟩ e (fun z => nomatch z) h
  | @dT a kvs ea =>
    cases (show u = Value.ref a from rx)
    obtain ⟨_, _, xs, _, o, es, ep, h1, h2, _⟩ := (show ObjOk X.prog X.w H s.heap a (.dT kvs) from I.hok a _ ea)
    exact PySem.W.kia_one PySem.W.kitx_dict I.kIn ⟨o, h1, h2.1⟩ e (fun z => nomatch z) h
  | @ins a C dx fs ea cl ha hn htk hm =>
    cases (show u = Value.ref a from rx)
    obtain ⟨mA, O, _⟩ := ins_get I.hok ea
    obtain ⟨od, J, _⟩ := O.look
    exact PySem.W.kia_one (PySem.W.kitx_own (cl.get _) cl.hd ha hn htk hm) I.kIn J e (fun z => nomatch z) h
end
end L2
namespace L2
open PySem PySem.Spec PyProof.Rows
structure Room (k : Nat) (A : Around) : Prop where
  hd : A.handled = none
  dp : A.depth + 3 * k + 5 < recursionLimit
  un : A.units + 16 * k + 200 < cLine
  gd : A.guards = some []
theorem Room.mono {j k : Nat} {A : Around} (r : Room k A) (h : j ≤ k) : Room j A := ⟨r.hd, by have := r.dp; omega, by have := r.un; omega, r.gd⟩
theorem Room.deeper {k : Nat} {A : Around} (r : Room (k + 1) A) (env : Env) : Room k (A.deeper env) :=
  ⟨r.hd, by have := r.dp; show A.depth + 1 + 3 * k + 5 < _; omega, by have := r.un; show A.units + 3 + 16 * k + 200 < _; omega, r.gd⟩
theorem Room.in1 {k : Nat} {A : Around} (r : Room (k + 1) A) : Room k A.in1 :=
  ⟨r.hd, by have := r.dp; show A.depth + 3 * k + 5 < _; omega, by have := r.un; show A.units + 1 + 16 * k + 200 < _; omega, r.gd⟩
theorem Room.depth {k : Nat} {A : Around} (r : Room k A) : A.depth < recursionLimit := by have := r.dp; omega
theorem Room.units {k : Nat} {A : Around} (r : Room k A) : A.units + 64 < cLine := by have := r.un; omega
def tNil : TA := fun _ H Q => Q [] H
def tCons (ta : TE) (tr : TA) : TA := fun σ H Q => ta σ H fun x H1 => tr σ H1 fun xs H2 => Q (x :: xs) H2
section
variable {X : Cx} {e : Expr} {es : List Expr} {te : TE} {t : TA} {pos : Pos}
theorem pa_nil : PA X [] tNil := fun _ _ _ _ H Q I h => Calls.spliced_nil ⟨[], H, I, .nil, h⟩
theorem pa_cons (ha : PE X e te) (hr : PA X es t) (hs : starEach (e :: es) X.env = (false, eval e X.env) :: starEach es X.env := by rfl) : PA X (e :: es) (tCons te t) := by
  intro pos pins s σ H Q I h
  rw [hs]
  show wpAny _ _ (spliced ((false, eval e X.env) :: backTo pos (starEach es X.env))) _ _ s
  refine Calls.spliced_cons (thn (ha pins s σ H _ I h) fun u s1 ⟨x, H1, I1, r1, q1⟩ => ?_)
  exact thn (hr pos pins s1 σ H1 _ I1 q1) fun us s2 ⟨xs, H2, I2, r2, q2⟩ => ⟨x :: xs, H2, I2, .cons r1 r2, q2⟩
def tTup (t : TA) : TE := fun σ H Q => t σ H fun xs H1 => xs.length ≤ sizeLine ∧ ∀ p, H1 p = none → Q (.ref p) (upd H1 p (.tup xs))
def tLst (t : TA) : TE := fun σ H Q => t σ H fun xs H1 => xs.length ≤ sizeLine ∧ ∀ p, H1 p = none → Q (.ref p) (upd H1 p (.lst xs))
theorem pe_tup {x1} (h : PA X es t) : PE X (.Tuple es x1 pos) (tTup t) := by
  intro pins s σ H Q I hq
  refine wpAny_Tuple_spliced (thn (h pos pins s σ H _ I hq) fun us s1 ⟨xs, H1, I1, r, z, q⟩ => ⟨by rw [← r.length]; exact z, ?_⟩)
  have hf : H1 s1.heap.objs.size = none := I1.hok.fresh (Nat.le_refl _)
  refine ⟨.ref s1.heap.objs.size, upd H1 s1.heap.objs.size (.tup xs), I1.laid (t' := s1.toks) (fun b u e => Heap.get?_push_of_some _ e) (Nat.le_refl _) ?_, rfl, q _ hf⟩
  exact ⟨z, us, r, ⟨_, Heap.get?_push_size _ rfl, rfl, _, rfl⟩⟩
theorem pe_lst (h : PA X es t) : PE X (.List es pos) (tLst t) := by
  intro pins s σ H Q I hq
  refine wpAny_List_spliced (thn (h pos pins s σ H _ I hq) fun us s1 ⟨xs, H1, I1, r, z, q⟩ => ⟨by rw [← r.length]; exact z, ?_⟩)
  have hf : H1 s1.heap.objs.size = none := I1.hok.fresh (Nat.le_refl _)
  refine ⟨.ref s1.heap.objs.size, upd H1 s1.heap.objs.size (.lst xs), I1.laid (t' := s1.toks) (fun b u e => Heap.get?_push_of_some _ e) (Nat.le_refl _) ?_, rfl, q _ hf⟩
  exact ⟨z, us, 0, r, Heap.get?_push_size _ rfl⟩
end
abbrev Sp := List V → Hp → VK → XK → Prop
abbrev CXT := List Env → Hp → Shared → XK → Value → Shared → Prop
structure Env0 (P : Program) (w : World) (K : PySem.W.Frag) (mg : Str → Option Value) (base : Heap) (A : Around) (outer : List Env) (s : Shared) (H : Hp) : Prop where
  frames : A.frames = some outer
  mod : Mod K mg base
  bs : ∀ b o, base.get? b = some o → s.heap.get? b = some o ∧ H b = none
  bsz : base.objs.size ≤ s.heap.objs.size
  funs : s.heap.FunFrames base outer
  frf : ∀ b ∈ frs outer, H b = none
  hok : HOk P w H s.heap
  bare : AllBare s.gens
def CE (outer : List Env) (P : Program) (w : World) (H : Hp) (s : Shared) (Q : VK) (u : Value) (s' : Shared) : Prop :=
  ∃ v H', s'.os = s.os ∧ AllBare s'.gens ∧ Un (frs outer) [] H H' s.heap s'.heap ∧ HOk P w H' s'.heap ∧ RelV v u ∧ Q v H'
def CR (CX : CXT) (outer : List Env) (P : Program) (w : World) (H : Hp) (s : Shared) (Q : VK) (E : XK) (r : Result) (s' : Shared) : Prop :=
  match r with
  | .ok (.ret u) => CE outer P w H s Q u s'
  | .ok _ => False
  | .error e => CX outer H s E e s'
structure FnOk (P : Program) (w : World) (K : PySem.W.Frag) (mg : Str → Option Value) (base : Heap) (CX : CXT) (k : Nat) (f : Addr) (fd : FuncData) (ps : List Str) (sp : Sp) : Prop where
  len : ∀ vs H Q E, sp vs H Q E → vs.length = ps.length
  run : ∀ (A : Around) (outer : List Env) (s : Shared) (H : Hp) (args : Args) (us : List Value) (vs : List V) (Q : VK) (E : XK), Room k A → Env0 P w K mg base A outer s H → BindsTo s fd args (ps.zip us) → Vals vs us → sp vs H Q E →
    codeAny (model P w) A (.call (.ref f) args) (CR CX outer P w H s Q E) s
theorem FnOk.mono {P : Program} {w : World} {K : PySem.W.Frag} {mg : Str → Option Value} {base : Heap} {CX : CXT} {j k : Nat} {f : Addr} {fd : FuncData} {ps : List Str} {sp : Sp} (F : FnOk P w K mg base CX j f fd ps sp) (h : j ≤ k) :
    FnOk P w K mg base CX k f fd ps sp := ⟨F.len, fun A outer s H args us vs Q E hr => F.run A outer s H args us vs Q E (hr.mono h)⟩
theorem FnOk.imp {P : Program} {w : World} {K : PySem.W.Frag} {mg : Str → Option Value} {base : Heap} {CX : CXT} {k : Nat} {f : Addr} {fd : FuncData} {ps : List Str} {sp sp' : Sp} (F : FnOk P w K mg base CX k f fd ps sp)
    (h : ∀ vs H Q E, sp' vs H Q E → sp vs H Q E) : FnOk P w K mg base CX k f fd ps sp' :=
  ⟨fun vs H Q E q => F.len vs H Q E (h _ _ _ _ q), fun A outer s H args us vs Q E hr he hb hv hs => F.run A outer s H args us vs Q E hr he hb hv (h _ _ _ _ hs)⟩
theorem Env0.in1 {P : Program} {w : World} {K : PySem.W.Frag} {mg : Str → Option Value} {base : Heap} {A : Around} {outer : List Env} {s : Shared} {H : Hp} (e : Env0 P w K mg base A outer s H) :
    Env0 P w K mg base A.in1 outer s H := ⟨e.frames, e.mod, e.bs, e.bsz, e.funs, e.frf, e.hok, e.bare⟩
section
variable {X : Cx} {pins : List (Addr × Obj)} {σ : St} {H : Hp} {s s' : Shared}
theorem Inv.env0 (I : Inv X pins σ H s) : Env0 X.prog X.w X.K X.mg X.base X.A X.stack s H :=
  ⟨I.ok.frames, I.ok.mod, I.bs, Nat.le_trans I.ok.bsz I.sz, I.stack, I.stkFree, I.hok, I.bare⟩
theorem Inv.after {Q : VK} {u : Value} (I : Inv X pins σ H s) (h : CE X.stack X.prog X.w H s Q u s') : EP X pins σ Q u s' := by
  obtain ⟨v, H', os, bare, un, hok, r, q⟩ := h
  obtain ⟨hh, g, d, t, os'⟩ := s'
  obtain rfl : os' = s.os := os
  exact ⟨v, H', I.call (h' := hh) (g' := g) (d' := d) (t' := t) (ch := []) un hok bare (fun b z => absurd z (by simp)), r, q⟩
end
def tCall (sp : Sp) (dvs : List V) (E : XK) (t : TA) : TE := fun σ H Q => t σ H fun vs H1 => sp (vs ++ dvs) H1 Q E
def Binds (K : PySem.W.Frag) (fd : FuncData) (ps : List Str) (ds : List Value) : Prop :=
  ∀ (s : Shared) (us : List Value), K.In s.heap → (us ++ ds).length = ps.length → BindsTo s fd ⟨us, []⟩ (ps.zip (us ++ ds))
theorem Binds.all {K : PySem.W.Frag} {fd : FuncData} {ps : List Str} (h : ∀ us : List Value, us.length = ps.length → bindArgs fd ⟨us, []⟩ = pure (ps.zip us)) : Binds K fd ps [] := fun s us _ hl => by
  rw [List.append_nil] at hl ⊢
  exact .of_eq (h us hl)
def Passes (CX : CXT) (X : Cx) (E : XK) : Prop := ∀ (pins : List (Addr × Obj)) (σ : St) (H : Hp) (s : Shared) (e : Value) (s' : Shared), Inv X pins σ H s → CX X.stack H s E e s' → X.xe e s'
section
variable {X : Cx} {CX : CXT} {k : Nat} {f C : Addr} {fd : FuncData} {ps : List Str} {sp : Sp} {dvs : List V} {ds : List Value} {E : XK} {x m : Str} {p pos apos : Pos} {e o : Expr} {es : List Expr} {ta : TE} {t : TA}
theorem run_fn {pins : List (Addr × Obj)} {σ : St} {H : Hp} {s : Shared} {Q : VK} {us : List Value} {vs : List V} (F : FnOk X.prog X.w X.K X.mg X.base CX k f fd ps sp) (hr : Room k X.A) (hb : Binds X.K fd ps ds) (hd : Vals dvs ds) (hx : Passes CX X E)
    (I : Inv X pins σ H s) (r : Vals vs us) (h : sp (vs ++ dvs) H Q E) : wpAny (model X.prog X.w) X.A (call (.ref f) us) (EP X pins σ Q) X.xe s := by
  have r2 : Vals (vs ++ dvs) (us ++ ds) := r.append hd
  have hl : (us ++ ds).length = ps.length := by rw [← r2.length]; exact F.len _ _ _ _ h
  refine wpAny_call (codeAny_mono (F.run X.A X.stack s H ⟨us, []⟩ (us ++ ds) (vs ++ dvs) Q E hr I.env0 (hb s us I.kIn hl) r2 h) fun r s' hq => ?_)
  cases r with
  | error e => exact hx pins σ H s e s' I hq
  | ok fl =>
    cases fl with
    | ret u => exact I.after hq
    | next => exact False.elim hq
    | brk => exact False.elim hq
    | cont => exact False.elim hq
theorem pe_call (F : FnOk X.prog X.w X.K X.mg X.base CX k f fd ps sp) (hr : Room k X.A) (hg : Gl X x) (hm : X.mg x = some (.ref f)) (hk : PySem.W.keepIn X.K (.ref f) = true) (hb : Binds X.K fd ps ds) (hd : Vals dvs ds) (hx : Passes CX X E)
    (ha : PA X (e :: es) t) (hdb : (x == ("__debug__" : Str)) = false := by decide) (he : starEach (e :: es) X.env = (false, eval e X.env) :: starEach es X.env := by rfl) (hpl : (backTo pos (starEach es X.env)).any (·.1) = false := by rfl) :
    PE X (.Call (.Name x p) (e :: es) [] pos) (tCall sp dvs E t) := by
  intro pins s σ H Q I h
  refine wpAny_Call_Name_kw (ld_glob I hg hm ?_ hdb)
  refine PySem.W.callWith_K (h₀ := X.base) I.ok.mod.kin hk (thn (ha pos pins s σ H _ I h) fun us s1 ⟨vs, H1, I1, r, q⟩ => ⟨I1.kIn, ?_⟩) he hpl
  exact run_fn F hr hb hd hx I1 r q
structure Mk (K : PySem.W.Frag) (C f : Addr) : Prop where
  makes : PySem.W.makesIn K C = true
  init : PySem.W.findIn K (.ref C) "__init__" = some (some (.ref f))
  fn : PySem.W.isFn K (.ref f) = true
  kp : PySem.W.keepIn K (.ref C) = true
end
section
variable {X : Cx} {CX : CXT} {k : Nat} {f C : Addr} {fd : FuncData} {ps ks : List Str} {sp : Sp} {E : XK} {x m : Str} {p pos apos kpos : Pos} {e o : Expr} {es : List Expr} {kws : List Keyword} {te ta : TE} {t tk : TA} {nm : Option Str}
structure KBinds (K : PySem.W.Frag) (fd : FuncData) (ps ks : List Str) (g : List Value → List Value → List Value) (gV : List V → List V → List V) : Prop where
  to : ∀ (s : Shared) (us ws : List Value), K.In s.heap → (g us ws).length = ps.length → BindsTo s fd ⟨us, ks.zip ws⟩ (ps.zip (g us ws))
  rel : ∀ {vs : List V} {us : List Value} {zs : List V} {ws : List Value}, Vals vs us → Vals zs ws → Vals (gV vs zs) (g us ws)
variable {g : List Value → List Value → List Value} {gV : List V → List V → List V}
end
structure FnScope (N P : List Str) (sc : Scope) : Prop where
  kind : sc.kind = .function
  co : sc.isCoroutine = false
  gen : sc.isGenerator = false
  nd : N.Nodup
  pre : N.take P.length = P
  par : ∀ x ∈ P, sc.names.lookup x = some .local ∨ sc.names.lookup x = some .cell
  nofree : ∀ y ∈ sc.names, y.2 ≠ .free
theorem bindL_out {kindOf : Str → Option NameKind} {x : Str} : ∀ {binds : List (Str × Value)} {m : Str → Option Value}, (∀ v, (x, v) ∉ binds) → bindL kindOf binds m x = m x
  | [], _, _ => rfl
  | (n, v) :: r, m, h => by
    unfold bindL
    rw [bindL_out fun w hw => h w (List.mem_cons_of_mem _ hw)]
    split
    · have : x ≠ n := by rintro rfl; exact h v List.mem_cons_self
      simp [this]
    · rfl
theorem bindC_out {kindOf : Str → Option NameKind} {x : Str} : ∀ {binds : List (Str × Value)} {m : Str → Option Value}, (∀ v, (x, v) ∉ binds) → bindC kindOf binds m x = m x
  | [], _, _ => rfl
  | (n, v) :: r, m, h => by
    unfold bindC
    rw [bindC_out fun w hw => h w (List.mem_cons_of_mem _ hw)]
    split
    · rfl
    · have : x ≠ n := by rintro rfl; exact h v List.mem_cons_self
      simp [this]
theorem bindL_get {kindOf : Str → Option NameKind} {x : Str} {v : Value} : ∀ {P : List Str} {vs : List Value} {i : Nat} {m : Str → Option Value}, P.Nodup → P[i]? = some x → vs[i]? = some v → kindOf x = some .local →
    bindL kindOf (P.zip vs) m x = some v
  | [], _, _, _, _, h, _, _ => by simp at h
  | _ :: _, [], _, _, _, _, h, _ => by simp at h
  | p :: P, w :: vs, 0, m, nd, h1, h2, hk => by
    simp at h1 h2; subst h1; subst h2
    show bindL kindOf ((p, w) :: P.zip vs) m p = _
    unfold bindL
    rw [bindL_out fun v hv => (List.nodup_cons.mp nd).1 (List.of_mem_zip hv).1, if_pos hk]
    simp
  | p :: P, w :: vs, i + 1, m, nd, h1, h2, hk => by
    show bindL kindOf ((p, w) :: P.zip vs) m x = _
    unfold bindL
    exact bindL_get (i := i) (List.nodup_cons.mp nd).2 (by simpa using h1) (by simpa using h2) hk
theorem bindC_get {kindOf : Str → Option NameKind} {x : Str} {v : Value} : ∀ {P : List Str} {vs : List Value} {i : Nat} {m : Str → Option Value}, P.Nodup → P[i]? = some x → vs[i]? = some v → kindOf x ≠ some .local →
    bindC kindOf (P.zip vs) m x = some v
  | [], _, _, _, _, h, _, _ => by simp at h
  | _ :: _, [], _, _, _, _, h, _ => by simp at h
  | p :: P, w :: vs, 0, m, nd, h1, h2, hk => by
    simp at h1 h2; subst h1; subst h2
    show bindC kindOf ((p, w) :: P.zip vs) m p = _
    unfold bindC
    rw [bindC_out fun v hv => (List.nodup_cons.mp nd).1 (List.of_mem_zip hv).1, if_neg hk]
    simp
  | p :: P, w :: vs, i + 1, m, nd, h1, h2, hk => by
    show bindC kindOf ((p, w) :: P.zip vs) m x = _
    unfold bindC
    exact bindC_get (i := i) (List.nodup_cons.mp nd).2 (by simpa using h1) (by simpa using h2) hk
def start (N : List Str) (vs : List V) : St := vs.map some ++ List.replicate (N.length - vs.length) none
def cxOf (CX : CXT) (P : Program) (w : World) (K : PySem.W.Frag) (mg : Str → Option Value) (base : Heap) (N : List Str) (qual : Str) (scope : Scope) (f : Addr) (cd : Value) (A : Around) (outer : List Env) (s : Shared) (H : Hp) (E : XK) : Cx where
  prog := P
  w := w
  K := K
  mg := mg
  base := base
  A := A.deeper (envOfC qual scope s.heap.objs.size f cd)
  N := N
  s₀ := s
  H₀ := H
  env := envOfC qual scope s.heap.objs.size f cd
  outer := outer
  stack := envOfC qual scope s.heap.objs.size f cd :: outer
  ex := []
  calm := true
  fn := fun _ => true
  pn := []
  xe := fun e s' => wpAny (model P w) (A.deeper (envOfC qual scope s.heap.objs.size f cd)) (leaving (envOfC qual scope s.heap.objs.size f cd) e) (fun _ s'' => CX outer H s E e s'') (fun e' s'' => CX outer H s E e' s'') s'
theorem cell_has {sc : Scope} {n : Nat} {x : Str} (h : sc.names.lookup x = some .cell) : ∃ c, (cellsFrom n sc.names []).lookup x = some c := by
  have q := PySem.W.cellsFrom_some sc.names n [] (.inl h)
  exact Option.isSome_iff_exists.mp q
theorem inv_start {CX : CXT} {P : Program} {w : World} {K : PySem.W.Frag} {mg : Str → Option Value} {base : Heap} {N ps : List Str} {qual : Str} {scope : Scope} {f : Addr} {cd : Value} {A : Around} {outer : List Env} {s s1 : Shared} {H : Hp} {E : XK} {us : List Value} {vs : List V}
    (S : FnScope N ps scope) (hd : A.handled = none) (e0 : Env0 P w K mg base A outer s H) (hl : vs.length = ps.length) (r : Vals vs us)
    (x : InCallC s s.heap.objs.size (bindL (envOfC qual scope s.heap.objs.size f cd).kindOf (ps.zip us) fun _ => none) (cellsFrom (s.heap.objs.size + 1) scope.names []) (bindC (envOfC qual scope s.heap.objs.size f cd).kindOf (ps.zip us) fun _ => none) s1) :
    Inv (cxOf CX P w K mg base N qual scope f cd A outer s H E) [] (start N vs) H s1 := by
  have hpl : ps.length ≤ N.length := by have := congrArg List.length S.pre; rw [List.length_take] at this; omega
  obtain ⟨h1, tk, rfl, hk⟩ := x.done
  have noA : ∀ b : Addr, b ∉ (cxOf CX P w K mg base N qual scope f cd A outer s H E).ex := fun b z => absurd (show b ∈ ([] : List Addr) from z) (by simp)
  refine ⟨⟨e0.mod, S.kind, rfl, rfl, Nat.le_refl _, fun y z c h1 h2 => ?_, fun y hy => ?_, fun y c _ h => ?_, fun _ => hd, Around.frames_deeper e0.frames, .inr ⟨rfl, rfl⟩, fun b z => absurd z (noA b), e0.bs, e0.bsz, fun b _ _ => noA b, fun b z => absurd z (noA b), e0.funs, e0.frf⟩,
    rfl, e0.bare, Un.kept hk, ⟨_, x.toInCall.ns, fun i y v h1 h2 h3 => ?_⟩, fun y c h => ⟨_, x.cell y c h⟩, e0.hok.fresh (Nat.le_refl _), fun y c h => ?_, fun p hp => absurd (show p ∈ ([] : List (Addr × Obj)) from hp) (by simp), e0.hok.kept hk, ?_⟩
  · exact name_of_addr x.apart (PySem.mem_of_lookup h1) (PySem.mem_of_lookup h2)
  · have hy : scope.names.lookup y = some .cell ∨ scope.names.lookup y = some .free := hy
    rcases hy with hy | hy
    · exact cell_has hy
    · exact absurd rfl (S.nofree _ (PySem.mem_of_lookup hy))
  · exact Nat.le_of_lt (x.above y c (PySem.mem_of_lookup h))
  · have hi : i < vs.length := by
      unfold start at h2
      by_cases hi : i < vs.length
      · exact hi
      · rw [List.getElem?_append_right (by simpa using hi)] at h2
        rw [List.getElem?_replicate] at h2
        split at h2 <;> cases h2
    have ha : vs[i]? = some v := by
      unfold start at h2
      rw [List.getElem?_append_left (by simpa using hi), List.getElem?_map] at h2
      cases e : vs[i]? with
      | none => rw [e] at h2; cases h2
      | some a => rw [e] at h2; cases h2; rfl
    obtain ⟨u, hu, rv⟩ := r.get ha
    have hp : ps[i]? = some y := by
      rw [← S.pre, List.getElem?_take_of_lt (by omega)]; exact h1
    have ndP : ps.Nodup := by rw [← S.pre]; exact S.nd.sublist (List.take_sublist _ _)
    refine ⟨u, rv, ?_⟩
    rcases S.par y (List.mem_of_getElem? hp) with k | k
    · exact .inl ⟨k, bindL_get ndP hp hu k⟩
    · obtain ⟨c, e⟩ := cell_has (n := s.heap.objs.size + 1) k
      refine .inr ⟨.inl k, c, e, ?_⟩
      have q := x.cell y c e
      rw [bindC_get ndP hp hu (by show scope.names.lookup y ≠ _; rw [k]; decide)] at q
      exact q
  · exact e0.hok.fresh (Nat.le_of_lt (x.above y c (PySem.mem_of_lookup h)))
  · unfold start
    show _ = N.length
    rw [List.length_append, List.length_map, List.length_replicate]
    omega
theorem fn_of {CX : CXT} {P : Program} {w : World} {K : PySem.W.Frag} {mg : Str → Option Value} {base : Heap} {k : Nat} {f : Addr} {name qual : Str} {params : Arguments} {body : List Stmt} {scope : Scope} {dV kV doc pm cdv ct oc : Value} {an od : Option Addr}
    {osl : Array (Option Value)} {N ps : List Str} {sp : Sp} (lk : K.lookup f = some ⟨oc, od, .func (PySem.W.fnOf name qual params body scope dV kV doc pm an cdv ct), osl⟩) (hcd : PySem.W.codeIn K cdv qual = true) (S : FnScope N ps scope)
    (len : ∀ vs H Q E, sp vs H Q E → vs.length = ps.length)
    (hbody : ∀ (A : Around) (outer : List Env) (s : Shared) (H : Hp) (vs : List V) (Q : VK) (E : XK), Room k (A.deeper (envOfC qual scope s.heap.objs.size f cdv)) → sp vs H Q E →
      ∃ t, PSs (cxOf CX P w K mg base N qual scope f cdv A outer s H E) body t ∧ t { nx := fun _ H' => Q .non H', rt := Q } (start N vs) H) :
    FnOk P w K mg base CX (k + 1) f (PySem.W.fnOf name qual params body scope dV kV doc pm an cdv ct) ps sp := by
  refine ⟨len, fun A outer s H args us vs Q E hr e0 hb r hsp => ?_⟩
  have hl := len _ _ _ _ hsp
  have KX : K.In s.heap := e0.mod.kin.keeps fun b o e => (e0.bs b o e).1
  have lim : s.heap.NoLimit := e0.mod.nolimit.keeps fun b o e => (e0.bs b o e).1
  have hkind : ∀ y ∈ ps.zip us, scope.names.lookup y.1 = some .local ∨ (scope.names.lookup y.1 = some .cell ∧ ((cellsFrom (s.heap.objs.size + 1) scope.names []).lookup y.1).isSome = true) := fun ⟨n, v⟩ hy => by
    rcases S.par n (List.of_mem_zip hy).1 with q | q
    · exact .inl q
    · exact .inr ⟨q, PySem.W.cellsFrom_some _ _ _ (.inl q)⟩
  refine codeAny_call_function hr.depth (KX _ _ lk) rfl S.co S.gen rfl (PySem.W.codeRec_of KX hcd) (hb _ _ _ _ ?_)
  refine wpAny_newFunctionEnv_cells S.kind hkind fun env he s1 x => ?_
  subst he
  refine ⟨lim.keeps x.toInCall.keep, codeAny_func ?_⟩
  obtain ⟨t, ht, hq⟩ := hbody A outer s H vs Q E (hr.deeper _) hsp
  have I : Inv (cxOf CX P w K mg base N qual scope f cdv A outer s H E) [] (start N vs) H s1 := inv_start S hr.hd e0 hl r x
  refine wpAny_mono (ht [] s1 (start N vs) H _ I hq) (fun fl s' hs => ?_) fun e s' hs => hs
  have fin : ∀ {σ' : St} {H' : Hp} {v : V} {u : Value}, Inv (cxOf CX P w K mg base N qual scope f cdv A outer s H E) [] σ' H' s' → RelV v u → Q v H' → CE outer P w H s Q u s' :=
    fun {σ' H' v u} J rv q => ⟨v, H', J.os, J.bare, J.base, J.hok, rv, q⟩
  cases fl with
  | ret u =>
    obtain ⟨v, σ', H', J, rv, q⟩ := hs
    exact fin J rv q
  | next =>
    obtain ⟨σ', H', J, q⟩ := hs
    exact fin (v := V.non) (u := Value.none) J rfl q
  | brk =>
    obtain ⟨_, _, _, q⟩ := hs
    exact False.elim q
  | cont =>
    obtain ⟨_, _, _, q⟩ := hs
    exact False.elim q
end L2
namespace L2
open PySem PySem.Spec PyProof.Rows
section
variable {X : Cx} {x : Str} {p pos : Pos} {e : Expr} {es : List Expr} {t : TA} {id T : String} {r : List V → Hp → VK → Prop}
def tCB (r : List V → Hp → VK → Prop) (t : TA) : TE := fun σ H Q => t σ H fun vs H1 => r vs H1 Q
theorem pe_callB (hc : CallR X (.builtin id) r) (hg : Gl X x) (hm : X.mg x = none) (hv : bootBuiltins x = some (.builtin id)) (ha : PA X (e :: es) t) (hn : x ≠ "__name__" := by decide) (hdb : (x == ("__debug__" : Str)) = false := by decide)
    (he : starEach (e :: es) X.env = (false, eval e X.env) :: starEach es X.env := by rfl) (hpl : (backTo pos (starEach es X.env)).any (·.1) = false := by rfl) : PE X (.Call (.Name x p) (e :: es) [] pos) (tCB r t) := by
  intro pins s σ H Q I h
  refine wpAny_Call_Name_kw (ld_blt I hg hm hv ?_ hn hdb)
  exact PyProof.Rows.callWith_builtin1 (thn (ha pos pins s σ H _ I h) fun us s1 ⟨vs, H1, I1, r1, q1⟩ => hc pins s1 σ H1 vs us Q I1 r1 q1) he hpl
theorem pe_callTy (hc : CallR X (.type T) r) (hg : Gl X x) (hm : X.mg x = none) (hv : bootBuiltins x = some (.type T)) (ha : PA X (e :: es) t) (hn : x ≠ "__name__" := by decide) (hdb : (x == ("__debug__" : Str)) = false := by decide)
    (he : starEach (e :: es) X.env = (false, eval e X.env) :: starEach es X.env := by rfl) (hpl : (backTo pos (starEach es X.env)).any (·.1) = false := by rfl) : PE X (.Call (.Name x p) (e :: es) [] pos) (tCB r t) := by
  intro pins s σ H Q I h
  refine wpAny_Call_Name_kw (ld_blt I hg hm hv ?_ hn hdb)
  exact PyProof.Rows.callWith_type1 (thn (ha pos pins s σ H _ I h) fun us s1 ⟨vs, H1, I1, r1, q1⟩ => hc pins s1 σ H1 vs us Q I1 r1 q1) he hpl
end
end L2
namespace HT
open PySem PyProof.Rows
def lexLt : List Int → List Int → Bool
  | [], [] => false
  | [], _ :: _ => true
  | _ :: _, [] => false
  | x :: xs, y :: ys => if x = y then lexLt xs ys else decide (x < y)
theorem lexLt_cons (x y : Int) (xs ys : List Int) : lexLt (x :: xs) (y :: ys) = if x = y then lexLt xs ys else decide (x < y) := rfl
theorem lexLt_nil_nil : lexLt [] [] = false := rfl
theorem lexLt_nil_cons (y : Int) (ys : List Int) : lexLt [] (y :: ys) = true := rfl
theorem lexLt_cons_nil (x : Int) (xs : List Int) : lexLt (x :: xs) [] = false := rfl
theorem eqAt_int (A : Around) (s : Shared) (a : Int) (t : Tok) (c : Int) (u : Tok) : ∃ e, SeqAt.EqAt A s (.int a t) (.int c u) e ∧ (e = true ↔ a = c) :=
  ⟨(a == c), SeqAt.EqAt.int_int a t c u, by simp⟩
theorem rcLt_int (A : Around) (s : Shared) (a : Int) (t : Tok) (c : Int) (u : Tok) (prog : Program) (w : World) (E : Value → Shared → Prop) (Q : Value → Shared → Prop) (h : Q (.bool (decide (a < c))) s) :
    wpAny (model prog w) A (richCompare .Lt (.int a t) (.int c u)) Q E s :=
  (PyProof.Rows.lt_int h : wpAny (model prog w) A (compareOp .Lt (.int a t) (.int c u)) Q E s)
section
open PySem.SeqAt
open PySem.AutoSeq1 (wpAny_loadPart')
open PySem.MeetsSeq PySem.MeetsSeq2 PySem.MeetsSeq3
theorem tuple_lt_ints (l b : Addr) (items items2 : Array Value) (n n2 : Nat) (dd dd2 : Option Addr) (sl sl2 : Array (Option Value)) (ns ms : List Int) (hi : IntsAre items.toList ns) (hj : IntsAre items2.toList ms) :
    Meets (Builtin.«tuple.__lt__» ⟨[.ref l, .ref b], []⟩)
      (fun _ R s => s.heap.get? l = some { cls := .type "tuple", dict := dd, data := .seq items n, slots := sl } ∧ s.heap.get? b = some { cls := .type "tuple", dict := dd2, data := .seq items2 n2, slots := sl2 } ∧
        R (.ok (.ret (.bool (lexLt ns ms)))) s) :=
  .of_wp fun prog w A R s h => by
    obtain ⟨hp, g, d, tk, os⟩ := s; obtain ⟨hl, hb, h⟩ := h
    have f2 := AutoSeq1.sub_tuple_tuple
    have z1 : items.size = ns.length := by rw [← hi.length]; simp
    have z2 : items2.size = ms.length := by rw [← hj.length]; simp
    wp_walk using wpAny_loadPart' hl, wpAny_loadPart' hb, wpAny_forIn_list _ (fun rest b s' => b.1 = none ∧ s' = ⟨hp, g, d, tk, os⟩ ∧ ∃ (vs ws : List Value) (ns' ms' : List Int), rest = vs.zip ws ∧
      IntsAre vs ns' ∧ IntsAre ws ms' ∧ ns'.length + items2.size = ms'.length + items.size ∧ R (.ok (.ret (.bool (lexLt ns' ms')))) ⟨hp, g, d, tk, os⟩) _
    case turn =>
      rintro ⟨y, x⟩ rest b s' ⟨hb', rfl, vs, ws, ns', ms', hz, hvi, hwi, hlen, hR⟩
      cases hvi with
      | nil => rw [List.zip_nil_left] at hz; cases hz
      | cons a t hvi' =>
        cases hwi with
        | nil => rw [List.zip_nil_right] at hz; cases hz
        | cons c u hwi' =>
          rw [List.zip_cons_cons] at hz
          injection hz with hyx hrest
          injection hyx with hy hx
          subst hy hx
          rw [lexLt_cons] at hR
          simp only [List.length_cons] at hlen
          obtain ⟨e, he, hiff⟩ := eqAt_int A.in1 ⟨hp, g, d, tk, os⟩ a t c u
          refine wpAny_bind (he prog w _ _ ?_)
          cases e with
          | true =>
            rw [if_pos (hiff.mp rfl)] at hR
            wp_walk
            exact ⟨rfl, rfl, _, _, _, _, hrest, hvi', hwi', by omega, hR⟩
          | false =>
            rw [if_neg (fun q => absurd (hiff.mpr q) Bool.false_ne_true)] at hR
            have hri := rcLt_int A.in1 ⟨hp, g, d, tk, os⟩ a t c u prog w
            wp_walk using hri
            exact ⟨_, rfl, by simpa using hR⟩
    case fin =>
      rintro ⟨b1, b2⟩ s' ⟨hb', rfl, vs, ws, ns', ms', hz, hvi, hwi, hlen, hR⟩
      simp only at hb'
      subst hb'
      have hv : lexLt ns' ms' = decide (items.size < items2.size) := by
        cases hvi with
        | nil =>
          cases hwi with
          | nil =>
            simp only [List.length_nil] at hlen
            rw [lexLt_nil_nil]
            exact (decide_eq_false (by omega)).symm
          | cons c u hw =>
            simp only [List.length_nil, List.length_cons] at hlen
            rw [lexLt_nil_cons]
            exact (decide_eq_true (by omega)).symm
        | cons a t hv =>
          cases hwi with
          | nil =>
            simp only [List.length_nil, List.length_cons] at hlen
            rw [lexLt_cons_nil]
            exact (decide_eq_false (by omega)).symm
          | cons c u hw =>
            rw [List.zip_cons_cons] at hz
            cases hz
      rw [hv] at hR
      wp_walk
      exact ⟨_, rfl, by simpa [Builtin.Tuple.tupleCompareSizes] using hR⟩
    case h =>
      exact ⟨rfl, rfl, items.toList, items2.toList, ns, ms, rfl, hi, hj, by omega, h⟩
end
section
variable {prog : Program} {w : World} {A : Around} {E : Value → Shared → Prop} {s : Shared}
theorem lt_tupInts {l b : Addr} {items items2 : Array Value} {ns ms : List Int} {Q : Value → Shared → Prop} (hl : IsTup s.heap l items) (hb : IsTup s.heap b items2) (hi : IntsAre items.toList ns) (hj : IntsAre items2.toList ms)
    (hu : A.units < cLine) (h : Q (.bool (lexLt ns ms)) s) : wpAny (model prog w) A (compareOp .Lt (.ref l) (.ref b)) Q E s := by
  obtain ⟨⟨cls, dd, data, sl⟩, ho, hc, n, hd⟩ := id hl
  obtain ⟨⟨cls2, dd2, data2, sl2⟩, ho2, hc2, n2, hd2⟩ := id hb
  simp only at hc hd hc2 hd2
  subst hc hd hc2 hd2
  exact richCompare_meets_room (op := .Lt) ⟨_, ho, rfl⟩ ⟨_, ho2, rfl⟩ PySem.F.slot_tuple_lt PySem.F.entry_tuple_lt (PySem.F.args_tuple_lt_2 _ _) (tuple_lt_ints l b items items2 n n2 dd dd2 sl sl2 ns ms hi hj)
    ⟨ho, ho2, show Value.bool (lexLt ns ms) ≠ Value.notImplemented ∧ Q (.bool (lexLt ns ms)) s from ⟨(fun x => nomatch x), h⟩⟩ hu
def sIx (n d : Nat) : Option Int → Nat
  | none => d
  | some v => if v < 0 then (v + (n : Int)).toNat else min v.toNat n
end
end HT
namespace L2
open PySem PySem.Spec PyProof.Rows
abbrev TO := St → Hp → (Option Int → Hp → Prop) → Prop
def PO (X : Cx) (e : Option Expr) (t : TO) : Prop :=
  ∀ (pins : List (Addr × Obj)) (s : Shared) (σ : St) (H : Hp) (Q : Option Int → Hp → Prop), Inv X pins σ H s → t σ H Q →
    wpAny (model X.prog X.w) X.A (evalPart e X.env) (fun u s' => ∃ o H', Inv X pins σ H' s' ∧ IsPart u o ∧ Q o H') X.xe s
def tPart (t : TE) : TO := fun σ H Q => t σ H fun x H1 => ∃ i, x = .int i ∧ Q (some i) H1
theorem intsAre_of {ns : List Int} : ∀ {us : List Value}, Vals (ns.map V.int) us → IntsAre us ns := by
  induction ns with
  | nil => intro us r; rw [List.map_nil] at r; cases r; exact .nil
  | cons n ns ih =>
    intro us r
    rw [List.map_cons] at r
    cases r with
    | cons r1 r2 =>
      obtain ⟨t, e⟩ := r1
      subst e
      exact .cons n t (ih r2)
section
variable {X : Cx} {e : Expr} {te : TE} {lo hi : Option Expr} {tl th : TO} {pos p2 : Pos}
theorem po_some (h : PE X e te) : PO X (some e) (tPart te) := by
  intro pins s σ H Q I hw
  rw [evalPart_some]
  refine thn (h pins s σ H _ I hw) fun u s1 ⟨x, H1, I1, r1, q1⟩ => ?_
  obtain ⟨i, rfl, q⟩ := q1
  obtain ⟨t, rfl⟩ := r1
  exact ⟨some i, H1, I1, .int i t, q⟩
def SlR (X : Cx) (r : V → Option Int → Option Int → Hp → VK → Prop) : Prop :=
  ∀ (pins : List (Addr × Obj)) (s : Shared) (σ : St) (H : Hp) (x : V) (v vl vu : Value) (lo hi : Option Int) (sl : Addr) (Q : VK), Inv X pins σ H s → RelV x v → s.heap.IsSliceOf sl vl vu .none → IsPart vl lo → IsPart vu hi → r x lo hi H Q →
    ∃ T id, typeLookup (.type T) "__getitem__" = pure (some (.builtin id)) ∧ s.TypeIs v T ∧ wpAny (model X.prog X.w) X.A (getItem v (.ref sl)) (EP X pins σ Q) X.xe s
def tSl (r : V → Option Int → Option Int → Hp → VK → Prop) (te : TE) (tl th : TO) : TE := fun σ H Q => te σ H fun x H1 => tl σ H1 fun l H2 => th σ H2 fun u H3 => r x l u H3 Q
theorem pe_slice {r : V → Option Int → Option Int → Hp → VK → Prop} (hr : SlR X r) (he : PE X e te) (hl : PO X lo tl) (hu : PO X hi th) : PE X (.Subscript e (.Slice lo hi none p2) pos) (tSl r te tl th) := by
  intro pins s σ H Q I h
  refine Subscript_ (thn (he pins s σ H _ I h) fun v s1 ⟨x, H1, I1, r1, q1⟩ => ?_)
  refine wpAny_Slice (thn (hl pins s1 σ H1 _ I1 q1) fun vl s2 ⟨l, H2, I2, pl, q2⟩ => thn (hu pins s2 σ H2 _ I2 q2) fun vu s3 ⟨u, H3, I3, pu, q3⟩ => ?_)
  rw [evalPart_none]
  refine wpAny_pure ?_
  have I4 : Inv X pins σ H3 { s3 with heap := s3.heap.push { cls := .type "slice", data := .fields #[vl, vu, .none] } } := I3.kept (t' := s3.toks) fun b ob q => Heap.get?_push_of_some _ q
  obtain ⟨T, id, hT, ht, hg⟩ := hr pins { s3 with heap := s3.heap.push { cls := .type "slice", data := .fields #[vl, vu, .none] } } σ H3 x v vl vu l u s3.heap.objs.size Q I4 r1 (Heap.IsSliceOf.new ..) pl pu q3
  show wpAny (model X.prog X.w) X.A (subscriptTail e (.Slice lo hi none p2) v (.ref s3.heap.objs.size)) (EP X pins σ Q) X.xe { s3 with heap := s3.heap.push { cls := .type "slice", data := .fields #[vl, vu, .none] } }
  exact tail_any (ops := [.ref s3.heap.objs.size, v]) ht hT hg (by with_unfolding_all rfl)
def cutV (xs : List V) (lo hi : Option Int) : List V := (xs.drop (HT.sIx xs.length 0 lo)).take (HT.sIx xs.length xs.length hi - HT.sIx xs.length 0 lo)
theorem cutV_length (xs : List V) (lo hi : Option Int) : (cutV xs lo hi).length ≤ xs.length := by
  unfold cutV
  rw [List.length_take, List.length_drop]
  omega
def rLtT (K : PySem.W.Frag) : R2 := fun x y H Q => ∃ a b ns ms, x = .ref a ∧ y = .ref b ∧ SqT K H a (ns.map V.int) ∧ SqT K H b (ms.map V.int) ∧ Q (.bl (HT.lexLt ns ms)) H
theorem op_ltT (hu : X.A.units < cLine) : OpR X (compareOp .Lt) (rLtT X.K) := by
  intro pins s σ H x y v u Q I rx ry h
  obtain ⟨a, b, ns, ms, rfl, rfl, ha, hb, q⟩ := h
  cases rx
  cases ry
  obtain ⟨its, r1, p1, _⟩ := I.tuple ha
  obtain ⟨its2, r2, p2, _⟩ := I.tuple hb
  have i1 : IntsAre its.toArray.toList ns := intsAre_of r1
  have i2 : IntsAre its2.toArray.toList ms := intsAre_of r2
  exact HT.lt_tupInts p1 p2 i1 i2 hu ⟨.bl (HT.lexLt ns ms), H, I, rfl, q⟩
end
end L2
namespace L2
open PySem PySem.Spec PyProof.Rows
def ixN (n : Nat) (i : Int) : Option Nat := if 0 ≤ i then (if i < n then some i.toNat else none) else if -(n : Int) ≤ i then some (i + n).toNat else none
def atI {α : Type} (xs : List α) (i : Int) : Option α := (ixN xs.length i).bind fun j => xs[j]?
theorem ixN_seq {n : Nat} {i : Int} {j : Nat} (h : ixN n i = some j) : seqIndex? i n = some j ∧ j < n ∧ -(n : Int) ≤ i ∧ i < n := by
  unfold ixN at h
  by_cases h0 : 0 ≤ i
  · rw [if_pos h0] at h
    by_cases h1 : i < n
    · rw [if_pos h1] at h
      have e : i.toNat = j := Option.some.inj h
      exact ⟨by rw [seqIndex_of h0 h1, e], by omega, by omega, h1⟩
    · rw [if_neg h1] at h; cases h
  · rw [if_neg h0] at h
    by_cases h1 : -(n : Int) ≤ i
    · rw [if_pos h1] at h
      have e : (i + n).toNat = j := Option.some.inj h
      exact ⟨by rw [seqIndex_neg (by omega) h1, e], by omega, h1, by omega⟩
    · rw [if_neg h1] at h; cases h
theorem atI_get {α : Type} {xs : List α} {i : Int} {v : α} (h : atI xs i = some v) : ∃ j, seqIndex? i xs.length = some j ∧ xs[j]? = some v ∧ j < xs.length ∧ -(xs.length : Int) ≤ i ∧ i < xs.length := by
  unfold atI at h
  cases e : ixN xs.length i with
  | none => rw [e] at h; cases h
  | some j =>
    rw [e] at h
    obtain ⟨h1, h2, h3, h4⟩ := ixN_seq e
    exact ⟨j, h1, h, h2, h3, h4⟩
theorem atI_nat {α : Type} {xs : List α} {j : Nat} {v : α} (h : xs[j]? = some v) : atI xs (j : Int) = some v := by
  have hj : j < xs.length := (List.getElem?_eq_some_iff.mp h).1
  have e : ixN xs.length (j : Int) = some j := by
    unfold ixN
    rw [if_pos (by omega), if_pos (by omega)]; simp
  unfold atI; rw [e]; exact h
theorem atI_last {α : Type} (xs : List α) (v : α) : atI (xs ++ [v]) (-1) = some v := by
  have hl : (xs ++ [v]).length = xs.length + 1 := by simp
  have e : ixN (xs ++ [v]).length (-1) = some xs.length := by
    unfold ixN
    rw [hl, if_neg (by decide), if_pos (by omega)]
    congr 1
    omega
  unfold atI
  rw [e]
  show (xs ++ [v])[xs.length]? = some v
  simp
def PlainIx (b : Expr) : Prop := ∀ o i, subscripted b false o i = operate [o, i] (getItem o i)
def IxR (X : Cx) (r : R2) : Prop :=
  ∀ (value slice : Expr) (pins : List (Addr × Obj)) (s : Shared) (σ : St) (H : Hp) (x y : V) (v u : Value) (Q : VK), Inv X pins σ H s → RelV x v → RelV y u → r x y H Q →
    subscripted slice false v u = operate [v, u] (getItem v u) → wpAny (model X.prog X.w) X.A (subscriptTail value slice v u) (EP X pins σ Q) X.xe s
def MtR (X : Cx) (id : String) (r : V → List V → Hp → VK → Prop) : Prop :=
  ∀ (pins : List (Addr × Obj)) (s : Shared) (σ : St) (H : Hp) (x : V) (xs : List V) (v : Value) (us : List Value) (Q : VK), Inv X pins σ H s → RelV x v → Vals xs us → r x xs H Q →
    wpAny (model X.prog X.w) X.A (call (.builtin id) (v :: us)) (EP X pins σ Q) X.xe s
section
variable {X : Cx} {a b : Expr} {ta tb : TE} {pos : Pos}
theorem pe_ix {r : R2} (hr : IxR X r) (ha : PE X a ta) (hb : PE X b tb) (hs : PlainIx b) : PE X (.Subscript a b pos) (tOp r ta tb) := by
  intro pins s σ H Q I h
  exact Subscript_ (binT ha hb I h fun v u s2 x y H2 I2 rx ry q => hr a b pins s2 σ H2 x y v u Q I2 rx ry q (hs _ _))
def rIxL (K : PySem.W.Frag) : R2 := fun x y H Q => ∃ p xs i v, x = .ref p ∧ y = .int i ∧ SqL K H p xs ∧ atI xs i = some v ∧ Q v H
def rIxT (K : PySem.W.Frag) : R2 := fun x y H Q => ∃ p xs i v, x = .ref p ∧ y = .int i ∧ SqT K H p xs ∧ atI xs i = some v ∧ Q v H
theorem ix_list : IxR X (rIxL X.K) := by
  intro value slice pins s σ H x y v u Q I rx ry h hs
  obtain ⟨p, xs, i, z, rfl, rfl, hq, he, q⟩ := h
  cases rx
  obtain ⟨t, rfl⟩ := ry
  obtain ⟨its, r, pl, hz⟩ := I.list hq
  obtain ⟨j, h1, h2, h3, h4, h5⟩ := atI_get he
  obtain ⟨w, ew, rw'⟩ := r.get h2
  have hl := r.length
  have hn := line63
  have fin : EP X pins σ Q w s := ⟨z, H, I, rw', q⟩
  by_cases h0 : 0 ≤ i
  · have hj : i.toNat = j := by
      rw [seqIndex_of h0 h5] at h1
      exact Option.some.inj h1
    exact item_listR pl.isList h0 (by omega) (by rw [hj]; simpa using ew) fin hs
  · have hj : (i + (its.toArray.size : Int)).toNat = j := by
      rw [seqIndex_neg (by omega) h4] at h1
      rw [List.size_toArray, ← hl]
      exact Option.some.inj h1
    exact subscriptTail_builtinR (x := w) pl.isList.typeIs slot_list_getitem.lookup
      (wpAny_getItem_list_neg (Q := fun r s' => r = w ∧ EP X pins σ Q r s') pl.isList (by omega) (by rw [List.size_toArray] <;> omega) (by omega) (by rw [hj]; simpa using ew) ⟨rfl, fin⟩) hs
theorem ix_tup : IxR X (rIxT X.K) := by
  intro value slice pins s σ H x y v u Q I rx ry h hs
  obtain ⟨p, xs, i, z, rfl, rfl, hq, he, q⟩ := h
  cases rx
  obtain ⟨t, rfl⟩ := ry
  obtain ⟨its, r, pl, hz⟩ := I.tuple hq
  obtain ⟨j, h1, h2, h3, h4, h5⟩ := atI_get he
  obtain ⟨w, ew, rw'⟩ := r.get h2
  have hl := r.length
  have hn := line63
  have fin : EP X pins σ Q w s := ⟨z, H, I, rw', q⟩
  exact subscriptTail_builtinR (x := w) pl.typeIs slot_tuple_getitem.lookup
    (getItem_tuple (j := j) (Q := fun r s' => r = w ∧ EP X pins σ Q r s') pl (by omega) (by omega) (by rw [List.size_toArray, ← hl]; exact h1) (by simpa using ew) ⟨rfl, fin⟩) hs
theorem mapSeq_set (its : List Value) (n j : Nat) (u : Value) : Obj.mapSeq (·.setIfInBounds j u) { cls := .type "list", data := .seq its.toArray n } = { cls := .type "list", data := .seq (its.set j u).toArray n } := by
  simp [Obj.mapSeq]
theorem Inv.lst {pins : List (Addr × Obj)} {σ : St} {H : Hp} {s : Shared} {p : Addr} {xs : List V} (I : Inv X pins σ H s) (h : H p = some (.lst xs)) :
    ∃ (its : List Value) (n : Nat), Vals xs its ∧ s.heap.get? p = some { cls := .type "list", data := .seq its.toArray n } ∧ xs.length ≤ sizeLine := by
  obtain ⟨z, its, n, r, e⟩ := I.hok p _ h
  exact ⟨its, n, r, e, z⟩
theorem Inv.lstUpd {pins : List (Addr × Obj)} {σ : St} {H : Hp} {s : Shared} {p : Addr} {xs ys : List V} {its its' : List Value} {n n' : Nat} {f : Obj → Obj} (I : Inv X pins σ H s) (h : H p = some (.lst xs))
    (ho : s.heap.get? p = some { cls := .type "list", data := .seq its.toArray n }) (hf : f { cls := .type "list", data := .seq its.toArray n } = { cls := .type "list", data := .seq its'.toArray n' }) (r : Vals ys its') (hz : ys.length ≤ sizeLine) (t : Nat) :
    Inv X pins σ (upd H p (.lst ys)) { s with heap := s.heap.update p f, toks := t } := by
  have e : (s.heap.update p f).get? p = some { cls := .type "list", data := .seq its'.toArray n' } := by
    rw [Heap.get?_update_self f ho (by rw [hf] <;> rfl), hf]
  refine I.write (x := p) (e := p) (by rw [h]; trivial) (.inl rfl) (fun b u hb q => (Heap.get?_update_other _ _ (Ne.symm hb)).trans q) ⟨_, e⟩ ?_
  exact ⟨hz, its', n', r, e⟩
def rSetL : V → V → V → Hp → (Hp → Prop) → Prop := fun o i v H Q => ∃ p xs k j, o = .ref p ∧ i = .int k ∧ H p = some (.lst xs) ∧ ixN xs.length k = some j ∧ Q (upd H p (.lst (xs.set j v)))
theorem set_list : PSet X rSetL := by
  intro pins s σ H o i v ov iv u Q I ro ri rv h
  obtain ⟨p, xs, k, j, rfl, rfl, hp, hj, q⟩ := h
  cases ro
  obtain ⟨t, rfl⟩ := ri
  obtain ⟨its, n, r, ho, hz⟩ := I.lst hp
  obtain ⟨h1, h2, h3, h4⟩ := ixN_seq hj
  have hl := r.length
  have hn := line63
  have I' : Inv X pins σ (upd H p (.lst (xs.set j v))) { s with heap := s.heap.update p (Obj.mapSeq (·.setIfInBounds j u)) } :=
    I.lstUpd hp ho (mapSeq_set its n j u) (r.set rv j) (by rw [List.length_set]; exact hz) s.toks
  by_cases h0 : 0 ≤ k
  · have hk : k.toNat = j := by
      rw [seqIndex_of h0 h4] at h1
      exact Option.some.inj h1
    exact PySem.W.ki_setAt ho h0 (by omega) (by rw [List.size_toArray, ← hl]; exact h4) (by rw [hk]; exact ⟨_, I', q⟩)
  · have hk : (k + (its.toArray.size : Int)).toNat = j := by
      rw [seqIndex_neg (by omega) h3] at h1
      rw [List.size_toArray, ← hl]
      exact Option.some.inj h1
    exact PySem.W.ki_setBack ho (by omega) (by rw [List.size_toArray, ← hl]; exact h3) (by omega) (by rw [hk]; exact ⟨_, I', q⟩)
theorem slice_bounds (lo hi : Option Int) (n : Nat) : (sliceBounds lo hi none n).1 = ((HT.sIx n 0 lo : Nat) : Int) ∧ (sliceBounds lo hi none n).2.1 = ((HT.sIx n n hi : Nat) : Int) ∧ (sliceBounds lo hi none n).2.2 = 1 := by
  refine ⟨?_, ?_, rfl⟩
  · cases lo with
    | none => simp [sliceBounds, HT.sIx]
    | some i =>
      simp only [sliceBounds, HT.sIx, Option.getD_none, show (1 : Int) > 0 by decide, if_true]
      by_cases h : i < 0
      · simp only [h, if_true] <;> omega
      · simp only [h, if_false] <;> omega
  · cases hi with
    | none => simp [sliceBounds, HT.sIx]
    | some i =>
      simp only [sliceBounds, HT.sIx, Option.getD_none, show (1 : Int) > 0 by decide, if_true]
      by_cases h : i < 0
      · simp only [h, if_true] <;> omega
      · simp only [h, if_false] <;> omega
theorem slicePick_cut (its : List Value) (lo hi : Option Int) : slicePick its.toArray lo hi none = ((its.drop (HT.sIx its.length 0 lo)).take (HT.sIx its.length its.length hi - HT.sIx its.length 0 lo)).toArray := by
  obtain ⟨h1, h2, h3⟩ := slice_bounds lo hi its.toArray.size
  unfold slicePick
  rw [h1, h2, h3]
  simp only [sliceRange_one, pick_run, List.size_toArray] <;> rfl
def rSlL (K : PySem.W.Frag) : V → Option Int → Option Int → Hp → VK → Prop := fun x lo hi H Q => ∃ a xs, x = .ref a ∧ SqL K H a xs ∧ ∀ p, H p = none → Q (.ref p) (upd H p (.lst (cutV xs lo hi)))
theorem sl_list : SlR X (rSlL X.K) := by
  intro pins s σ H x v vl vu lo hi sl Q I rx hs pl pu h
  obtain ⟨a, xs, rfl, hx, q⟩ := h
  cases rx
  obtain ⟨its, r, ht, hz⟩ := I.list hx
  have hlen := r.length
  refine ⟨"list", _, slot_list_getitem.lookup, ht.isList.typeIs, ?_⟩
  refine wpAny_getItem_list_slice ht.isList hs pl pu .none (by simp) ?_ (by rw [List.size_toArray] <;> omega)
  rw [slicePick_cut, ← hlen]
  refine ⟨.ref s.heap.objs.size, _, I.laid (t' := s.toks) (o := .lst (cutV xs lo hi)) (fun b ob q => Heap.get?_push_of_some _ q) (Nat.le_refl _) ?_, rfl, q _ (I.hok.fresh (Nat.le_refl _))⟩
  exact ⟨Nat.le_trans (cutV_length xs lo hi) hz, _, 0, (r.drop (HT.sIx xs.length 0 lo)).take (HT.sIx xs.length xs.length hi - HT.sIx xs.length 0 lo), Heap.get?_push_size _ rfl⟩
def tyV (K : PySem.W.Frag) (T : String) (x : V) (H : Hp) : Prop := match x with
  | .str _ => T = "str"
  | .int _ => T = "int"
  | .ref p => (T = "list" ∧ ∃ xs, SqL K H p xs) ∨ (T = "tuple" ∧ ∃ o, K.lookup p = some o ∧ o.cls = .type "tuple" ∧ o.dict = none) ∨
      (T = "dict" ∧ ((∃ kvs, H p = some (.dK kvs)) ∨ ∃ kvs, H p = some (.dT kvs))) ∨ (T = "set" ∧ ∃ S n, H p = some (.set S n))
  | _ => False
theorem tyV_is {pins : List (Addr × Obj)} {σ : St} {H : Hp} {s : Shared} {T : String} {x : V} {v : Value} (I : Inv X pins σ H s) (r : RelV x v) (ty : tyV X.K T x H) :
    s.TypeIs v T ∧ ∀ a, v = .ref a → ∃ ob, s.heap.get? a = some ob ∧ ob.dict = none := by
  cases x with
  | str z =>
    obtain ⟨t, rfl⟩ := r
    cases (show T = "str" from ty)
    exact ⟨typeIs_str s z t, fun _ e => nomatch e⟩
  | int i =>
    obtain ⟨t, rfl⟩ := r
    cases (show T = "int" from ty)
    exact ⟨typeIs_int s i t, fun _ e => nomatch e⟩
  | ref p =>
    cases r
    rcases ty with ⟨rfl, xs, hq⟩ | ⟨rfl, o, hk, hc, hd⟩ | ⟨rfl, hk⟩ | ⟨rfl, S, n, hk⟩
    · obtain ⟨its, _, pl, _⟩ := I.list hq
      refine ⟨pl.isList.typeIs, fun a e => ?_⟩
      cases e
      obtain ⟨o, n, e, c, hd, _⟩ := pl
      exact ⟨o, e, hd⟩
    · refine ⟨⟨o, I.kIn p o hk, hc⟩, fun a e => ?_⟩
      cases e
      exact ⟨o, I.kIn _ o hk, hd⟩
    · have z : ∃ o, s.heap.get? p = some o ∧ o.ExactDict := by
        rcases hk with ⟨kvs, hk⟩ | ⟨kvs, hk⟩
        · obtain ⟨_, _, _, _, o, _, _, e, ex, _⟩ := I.hok p _ hk
          exact ⟨o, e, ex⟩
        · obtain ⟨_, _, _, _, o, _, _, e, ex, _⟩ := I.hok p _ hk
          exact ⟨o, e, ex⟩
      obtain ⟨o, e, ex⟩ := z
      refine ⟨⟨o, e, ex.1⟩, fun a e2 => ?_⟩
      cases e2
      exact ⟨o, e, ex.2.1⟩
    · obtain ⟨o, _, _, _, e, ex, _⟩ := I.hok p _ hk
      refine ⟨⟨o, e, ex.1⟩, fun a e2 => ?_⟩
      cases e2
      exact ⟨o, e, ex.2.1⟩
  | _ => exact False.elim ty
def tBM (K : PySem.W.Frag) (T : String) (r : V → List V → Hp → VK → Prop) (to : TE) (t : TA) : TE := fun σ H Q => to σ H fun x H1 => tyV K T x H1 ∧ t σ H1 fun xs H2 => r x xs H2 Q
variable {o e : Expr} {es : List Expr} {to : TE} {t : TA} {name : Str} {apos cpos : Pos} {T id : String} {r : V → List V → Hp → VK → Prop}
theorem pe_bm (pa : PlainAttrs T) (slot : Slot T name id) (hty : typeOf (.builtin id) = pure (.type "method_descriptor")) (hm : MtR X id r) (ho : PE X o to) (ha : PA X (e :: es) t)
    (hbase : attributeBase o name X.env (eval o X.env) = eval o X.env := by rfl)
    (hfew : ((backTo cpos (starEach (e :: es) X.env)).all (fun x => !x.1) && (backToKw cpos (keywordEach [] X.env)).all (fun x => x.1.isSome)
      && decide ((e :: es).length + ([] : List Keyword).length + (if ([] : List Keyword).isEmpty then 0 else 1) < 30)) = true := by rfl)
    (hline : (apos.endLine == cpos.line) = true := by rfl) (hs : starEach (e :: es) X.env = (false, eval e X.env) :: starEach es X.env := by rfl) (hplain : (backTo cpos (starEach es X.env)).any (·.1) = false := by rfl) :
    PE X (.Call (.Attribute o name apos) (e :: es) [] cpos) (tBM X.K T r to t) := by
  intro pins s σ H Q I h
  refine wpAny_Call_method_late hbase hfew hline rfl (thn (ho pins s σ H _ I h) fun v s1 ⟨x, H1, I1, r1, ty, q1⟩ => ?_)
  obtain ⟨h1, h2⟩ := tyV_is I1 r1 ty
  refine ⟨T, id, pa, slot, hty, h1, h2, ?_⟩
  have hA := ha cpos pins s1 σ H1 _ I1 q1
  rw [hs] at hA ⊢
  refine Calls.callWith_builtin (by show (false || (backTo cpos (starEach es X.env)).any (·.1)) = false; rw [hplain] <;> rfl) (Calls.evalArgs_plain ?_)
  exact thn hA fun us s2 ⟨vs, H2, I2, r2, q2⟩ => hm pins s2 σ H2 x vs v us Q I2 r1 r2 q2
end
end L2
namespace L2
open PySem PySem.Spec PyProof.Rows
def MtM (X : Cx) (id : String) (r : V → List V → Hp → VK → Prop) : Prop :=
  ∀ (pins : List (Addr × Obj)) (s : Shared) (σ : St) (H : Hp) (x : V) (xs : List V) (v : Value) (us : List Value) (Q : VK), Inv X pins σ H s → RelV x v → Vals xs us → r x xs H Q →
    wpAny (model X.prog X.w) X.A (call (.builtin id) (v :: us)) (EP X pins σ Q) X.xe s
theorem Vals.one : ∀ {x : V} {us : List Value}, Vals [x] us → ∃ u, us = [u] ∧ RelV x u
  | _, _, .cons r .nil => ⟨_, rfl, r⟩
theorem Vals.two : ∀ {x y : V} {us : List Value}, Vals [x, y] us → ∃ u v, us = [u, v] ∧ RelV x u ∧ RelV y v
  | _, _, _, .cons r (.cons q .nil) => ⟨_, _, rfl, r, q⟩
theorem Vals.zero : ∀ {us : List Value}, Vals [] us → us = []
  | _, .nil => rfl
theorem Vals.reverse {xs : List V} {us : List Value} (h : Vals xs us) : Vals xs.reverse us.reverse := by
  induction h with
  | nil => exact .nil
  | cons r t ih => rw [List.reverse_cons, List.reverse_cons]; exact Vals.append ih (.cons r .nil)
section
variable {X : Cx} {pins : List (Addr × Obj)} {σ : St} {H : Hp} {s : Shared} {l b : Addr} {xs ys zs : List V}
theorem Inv.lset {its its' : List Value} {n : Nat} {f : Array Value → Array Value} {t' : Nat} (I : Inv X pins σ H s) (hH : H l = some (.lst xs))
    (e : s.heap.get? l = some { cls := .type "list", data := .seq its.toArray n }) (hf : f its.toArray = its'.toArray) (hv : Vals ys its') (hz : ys.length ≤ sizeLine) :
    Inv X pins σ (upd H l (.lst ys)) { s with heap := s.heap.update l (Obj.mapSeq f), toks := t' } := by
  have q := PySem.IsL.update e f
  rw [hf] at q
  refine I.write (x := l) (e := l) (by rw [hH]; exact trivial) (.inl rfl) (fun b' u hb hu => (Heap.get?_update_other s.heap (Obj.mapSeq f) (Ne.symm hb)).trans hu) ⟨_, q⟩ ?_
  exact ⟨hz, its', _, hv, q⟩
theorem Inv.lnew {its : List Value} {t' : Nat} (I : Inv X pins σ H s) (hv : Vals ys its) (hz : ys.length ≤ sizeLine) :
    Inv X pins σ (upd H s.heap.objs.size (.lst ys)) { s with heap := s.heap.push { cls := .type "list", data := .seq its.toArray }, toks := t' } :=
  I.laid (fun _ _ q => Heap.get?_push_of_some _ q) (Nat.le_refl _) ⟨hz, its, 0, hv, Heap.get?_push_size _ rfl⟩
theorem Inv.fresh (I : Inv X pins σ H s) : H s.heap.objs.size = none := I.hok.fresh (Nat.le_refl _)
theorem Inv.lstM (I : Inv X pins σ H s) (hH : H l = some (.lst xs)) : xs.length ≤ sizeLine ∧ ∃ (its : List Value) (n : Nat), Vals xs its ∧ xs.length = its.length ∧ s.heap.get? l = some { cls := .type "list", data := .seq its.toArray n } := by
  obtain ⟨z, its, n, r, e⟩ := I.hok l _ hH
  exact ⟨z, its, n, r, r.length, e⟩
theorem notLongL {n : Nat} (h : n ≤ sizeLine) : Builtin.List.listTooLong n = false := by
  unfold Builtin.List.listTooLong
  exact decide_eq_false (by omega)
end
section
variable {X : Cx}
def rAppend : V → List V → Hp → VK → Prop := fun x vs H Q => ∃ l xs y, x = .ref l ∧ vs = [y] ∧ H l = some (.lst xs) ∧ xs.length < sizeLine ∧ Q .non (upd H l (.lst (xs ++ [y])))
theorem mt_append : MtM X "list.append" rAppend := by
  intro pins s σ H x vs v us Q I rx rv h
  obtain ⟨l, xs, y, rfl, rfl, hH, hz, q⟩ := h
  cases rx
  obtain ⟨u, rfl, ru⟩ := rv.one
  obtain ⟨z, its, n, r, hl, e⟩ := I.lstM hH
  refine call_meets F.slot_list_append ⟨_, e, rfl⟩ F.entry_list_append (F.args_list_append_2 _ _) (PySem.list_append l its.toArray n u (by rw [List.size_toArray]; omega)) ⟨e, ?_⟩
  refine ⟨.non, _, I.lset (its' := its ++ [u]) hH e (by simp) (r.append (.cons ru .nil)) ?_, rfl, q⟩
  rw [List.length_append, List.length_singleton]
  omega
def rExtend : V → List V → Hp → VK → Prop := fun x vs H Q => ∃ l b xs zs, x = .ref l ∧ vs = [.ref b] ∧ H l = some (.lst xs) ∧ H b = some (.lst zs) ∧ xs.length + zs.length ≤ sizeLine ∧ Q .non (upd H l (.lst (xs ++ zs)))
theorem mt_extend : MtM X "list.extend" rExtend := by
  intro pins s σ H x vs v us Q I rx rv h
  obtain ⟨l, b, xs, zs, rfl, rfl, hH, hB, hz, q⟩ := h
  cases rx
  obtain ⟨u, rfl, ru⟩ := rv.one
  cases ru
  obtain ⟨z, its, n, r, hl, e⟩ := I.lstM hH
  obtain ⟨z2, its2, n2, r2, hl2, e2⟩ := I.lstM hB
  have hsz : its.toArray.size + its2.toArray.size ≤ sizeLine := by rw [List.size_toArray, List.size_toArray]; omega
  have hlong : ¬ (!its.toArray.isEmpty && Builtin.List.listTooLong (its.toArray.size + its2.toArray.size)) = true := by
    rw [notLongL hsz, Bool.and_false]
    exact Bool.false_ne_true
  refine call_meets F.slot_list_extend ⟨_, e, rfl⟩ F.entry_list_extend (F.args_list_extend_2 _ _)
    (AutoSeq1.list_extend_list_list_0 l its.toArray n b its2.toArray n2 hlong (by rw [List.size_toArray]; omega) (by omega)) ⟨e, e2, ?_⟩
  refine ⟨.non, _, I.lset (its' := its ++ its2) hH e (by simp) (r.append r2) ?_, rfl, q⟩
  rw [List.length_append]
  omega
end
section
variable {prog : Program} {w : World} {A : Around} {E : Value → Shared → Prop} {s : Shared}
theorem bounds_run {a c n : Nat} (hac : a ≤ c) (hc : c ≤ n) : sliceBounds (some (a : Int)) (some (c : Int)) none n = ((a : Int), (c : Int), 1) := by
  simp only [sliceBounds, Option.getD_none]
  have h1 : ¬ ((a : Int) < 0) := by omega
  have h2 : ¬ ((c : Int) < 0) := by omega
  simp only [h1, h2, if_false, show (1 : Int) > 0 by decide, if_true]
  congr 1
  · omega
  · congr 1; omega
set_option maxRecDepth 100000 in
theorem setItem_slice {l b sl : Addr} {items new : Array Value} {n n2 : Nat} {vl vu : Value} {a c : Nat} {Q : Unit → Shared → Prop}
    (e : s.heap.get? l = some { cls := .type "list", data := .seq items n }) (e2 : s.heap.get? b = some { cls := .type "list", data := .seq new n2 }) (hne : l ≠ b)
    (hs : s.heap.IsSliceOf sl vl vu .none) (pl : IsPart vl (some (a : Int))) (pu : IsPart vu (some (c : Int))) (hac : a ≤ c) (hc : c ≤ items.size)
    (hsz : items.size + new.size ≤ sizeLine) (h : Q () { s with heap := s.heap.update l (Obj.mapSeq fun xs => xs.extract 0 a ++ new ++ xs.extract c xs.size) }) :
    wpAny (model prog w) A (setItem (.ref l) (.ref sl) (.ref b)) Q E s := by
  have hl : s.heap.IsList l items := PySem.IsL.isList e
  have hb : s.heap.IsList b new := PySem.IsL.isList e2
  obtain ⟨os, hos, hcs, hds⟩ := id hs
  have hTs : s.TypeIs (.ref sl) "slice" := ⟨os, hos, hcs⟩
  have hstep : ¬ ((rawPart none == rawInt 0) = true) := Bool.false_ne_true
  have hsame : Builtin.List.listSameRef (.ref l) (.ref b) = false := by
    unfold Builtin.List.listSameRef
    exact beq_eq_false_iff_ne.mpr hne
  have hmax : (max (a : Int) (c : Int)).toNat = c := by omega
  have hz' : ((fun xs : Array Value => xs.extract 0 a ++ new ++ xs.extract c xs.size) items).size ≤ sizeLine + 1 := by
    simp only [Array.size_append, Array.size_extract]
    omega
  unfold setItem
  try with_reducible refine wpAny_holding ?_
  first | refine wpAny_bind (wpAny_pure ?_) | skip
  refine wpAny_bind (wpAny_sequenceKey hl.typeIs (by decide) ?_)
  refine wpAny_bind (wpAny_callSpecial?_slot (name := Str.ofString "__setitem__") hl.typeIs slot_list_setitem
    (wpAny_call_entry slot_list_setitem hl.typeIs entry_list_setitem ?_ (args_list_setitem _ _ _)))
  show wpAny _ _ (Builtin.List.listSubscript? (.ref sl) >>= _) _ _ s
  refine wpAny_bind ?_
  unfold Builtin.List.listSubscript?
  refine wpAny_bind (wpAny_specialOf hTs slice_no_index ?_)
  simp only [Option.isNone_none, if_true]
  refine wpAny_pure ?_
  show wpAny _ _ (typeOf (.ref sl) >>= _) _ _ s
  refine wpAny_bind (wpAny_typeOf hTs ?_)
  first
    | rw [if_neg (by decide)]
    | refine PySem.W.KFB.if_not (by decide) ?_
  rw [listSliceParts_eq]
  refine wpAny_bind (wpAny_bind (wpAny_field hos hds (x := .none) rfl (wpAny_bind (wpAny_listPart .none ?_))))
  rw [if_neg hstep]
  refine wpAny_bind (wpAny_field hos hds (x := vl) rfl (wpAny_bind (wpAny_listPart pl ?_)))
  refine wpAny_bind (wpAny_field hos hds (x := vu) rfl (wpAny_bind (wpAny_listPart pu (wpAny_pure ?_))))
  first
    | simp only [hsame, Bool.false_eq_true, if_false]
    | refine PySem.W.KFB.if_not hsame ?_
    | (dsimp only
       rw [if_neg (by rw [hsame]; exact Bool.false_ne_true)])
  refine wpAny_bind (m := Builtin.List.listAllItems (.ref b) "must assign iterable to extended slice") ?_
  unfold Builtin.List.listAllItems
  refine wpAny_bind (wpAny_typeOf hb.typeIs ?_)
  first
    | refine PySem.W.KFB.if_so (by decide) ?_
    | rw [if_pos (by decide)]
    | simp only [beq_self_eq_true, Bool.true_or, if_true]
  unfold Builtin.List.listItems
  refine wpAny_bind (wpAny_seqItems e2 rfl (wpAny_pure ?_))
  refine wpAny_bind (wpAny_bind (wpAny_seqItems e rfl (wpAny_pure ?_)))
  refine wpAny_bind (wpAny_of_eq ((sliceIndices_raw (some (a : Int)) (some (c : Int)) none items.size (by simp)).trans (congrArg (pure : Int × Int × Int → Sem (Int × Int × Int)) (bounds_run hac hc))) ?_)
  show wpAny _ _ (if ((1 : Int) == 1) = true then _ else _) _ _ s
  rw [if_pos (by decide)]
  refine wpAny_bind (wpAny_rule ?_)
  first
    | simp only [notLongL hsz, Bool.false_eq_true, if_false]
    | refine PySem.W.KFB.if_not (notLongL hsz) ?_
  first | refine wpAny_bind (wpAny_pure ?_) | skip
  show wpAny _ _ (updateSeq l (fun xs => xs.extract 0 ((a : Int)).toNat ++ new ++ xs.extract (max (a : Int) (c : Int)).toNat xs.size) >>= _) _ _ s
  rw [hmax, Int.toNat_natCast]
  refine wpAny_bind (wpAny_updateSeq (hz := Nat.le_trans (Nat.le_add_right _ _) hsz) (_hz' := hz') e rfl ?_)
  refine wpAny_bind (wpAny_letGo ?_)
  first
    | exact wpAny_bind (wpAny_pure (wpAny_pure ⟨.none, rfl, wpAny_pure h⟩))
    | exact wpAny_pure ⟨.none, rfl, wpAny_pure h⟩
end
section
variable {X : Cx}
end
end L2
namespace L2
open PySem PySem.Spec PyProof.Rows
section
variable {κ : Type} [DecidableEq κ]
def valV (kvs : List (κ × V)) (k : κ) : Option V := (kvs.find? fun kv => decide (kv.1 = k)).map (·.2)
def putK (kvs : List (κ × V)) (k : κ) (v : V) : List (κ × V) :=
  if (kvs.any fun kv => decide (kv.1 = k)) = true then kvs.map (fun kv => if kv.1 = k then (kv.1, v) else kv) else kvs ++ [(k, v)]
def dropK (kvs : List (κ × V)) (k : κ) : List (κ × V) := kvs.filter fun kv => decide (kv.1 ≠ k)
theorem valV_pos {p : κ × V} {r : List (κ × V)} {k : κ} (e : p.1 = k) : valV (p :: r) k = some p.2 := by simp [valV, List.find?_cons, e]
theorem valV_neg {p : κ × V} {r : List (κ × V)} {k : κ} (e : ¬ p.1 = k) : valV (p :: r) k = valV r k := by simp [valV, List.find?_cons, e]
theorem valV_any (k : κ) : ∀ kvs : List (κ × V), (kvs.any fun kv => decide (kv.1 = k)) = (valV kvs k).isSome
  | [] => rfl
  | p :: r => by
    rw [List.any_cons]
    by_cases e : p.1 = k
    · simp only [valV_pos e, decide_eq_true e, Bool.true_or, Option.isSome_some]
    · rw [valV_neg e, decide_eq_false e, Bool.false_or]; exact valV_any k r
theorem length_putK (kvs : List (κ × V)) (k : κ) (v : V) : (putK kvs k v).length ≤ kvs.length + 1 := by
  unfold putK
  split
  · rw [List.length_map]; omega
  · rw [List.length_append, List.length_cons, List.length_nil]; omega
theorem putK_new {kvs : List (κ × V)} {k : κ} (v : V) (h : valV kvs k = none) : putK kvs k v = kvs ++ [(k, v)] := by
  unfold putK
  rw [valV_any, h]
  exact if_neg (by decide)
theorem RelO.isSome_eq {o : Option V} {u : Option Value} (r : RelO o u) : o.isSome = u.isSome := by
  cases o with
  | none => cases u with
    | none => rfl
    | some _ => exact (show False from r).elim
  | some _ => cases u with
    | none => exact (show False from r).elim
    | some _ => rfl
theorem RelO.getD {o : Option V} {u : Option Value} {d : V} {d' : Value} (r : RelO o u) (rd : RelV d d') : RelV (o.getD d) (u.getD d') := by
  cases o with
  | none => cases u with
    | none => exact rd
    | some _ => exact (show False from r).elim
  | some _ => cases u with
    | none => exact (show False from r).elim
    | some _ => exact r
theorem KV.val {kvs : List (κ × V)} {vs : List (κ × Value)} (r : KV kvs vs) (k : κ) : RelO (valV kvs k) (valueAt vs k) := by
  unfold KV at r
  induction r with
  | nil => exact True.intro
  | @cons p q ps qs h t ih =>
    obtain ⟨h1, h2⟩ := h
    by_cases e : p.1 = k
    · have e' : q.1 = k := h1.symm.trans e
      have b : valueAt (q :: qs) k = some q.2 := by simp [valueAt, List.find?_cons, e']
      rw [valV_pos e, b]; exact h2
    · have e' : ¬ q.1 = k := fun z => e (h1.trans z)
      have b : valueAt (q :: qs) k = valueAt qs k := by simp [valueAt, List.find?_cons, e']
      rw [valV_neg e, b]; exact ih
theorem KV.any {kvs : List (κ × V)} {vs : List (κ × Value)} (r : KV kvs vs) (k : κ) : (kvs.any fun kv => decide (kv.1 = k)) = vs.any fun kv => decide (kv.1 = k) := by
  unfold KV at r
  induction r with
  | nil => rfl
  | cons h t ih => rw [List.any_cons, List.any_cons, ih, h.1]
theorem KV.repl {kvs : List (κ × V)} {vs : List (κ × Value)} (r : KV kvs vs) (k : κ) {y : V} {u : Value} (ry : RelV y u) :
    KV (kvs.map fun kv => if kv.1 = k then (kv.1, y) else kv) (vs.map fun kv => if kv.1 = k then (kv.1, u) else kv) := by
  unfold KV at r ⊢
  induction r with
  | nil => exact .nil
  | @cons p q ps qs h t ih =>
    rw [List.map_cons, List.map_cons]
    refine .cons ?_ ih
    obtain ⟨h1, h2⟩ := h
    by_cases e : p.1 = k
    · rw [if_pos e, if_pos (h1.symm.trans e)]; exact ⟨h1, ry⟩
    · rw [if_neg e, if_neg (fun z => e (h1.trans z))]; exact ⟨h1, h2⟩
theorem KV.put {kvs : List (κ × V)} {vs : List (κ × Value)} (r : KV kvs vs) (k : κ) {y : V} {u : Value} (ry : RelV y u) : KV (putK kvs k y) (stored vs k u) := by
  unfold putK stored
  rw [r.any k]
  by_cases e : (vs.any fun kv => decide (kv.1 = k)) = true
  · rw [if_pos e, if_pos e]; exact r.repl k ry
  · rw [if_neg e, if_neg e]; exact Paired.snoc r ⟨rfl, ry⟩
theorem KV.drop {kvs : List (κ × V)} {vs : List (κ × Value)} (r : KV kvs vs) (k : κ) : KV (dropK kvs k) (without vs k) := by
  unfold KV at r ⊢
  unfold dropK without
  induction r with
  | nil => exact .nil
  | @cons p q ps qs h t ih =>
    obtain ⟨h1, h2⟩ := h
    rw [List.filter_cons, List.filter_cons]
    by_cases e : p.1 = k
    · have a : ¬ decide (p.1 ≠ k) = true := by simp [e]
      have b : ¬ decide (q.1 ≠ k) = true := by simp [h1.symm.trans e]
      rw [if_neg a, if_neg b]; exact ih
    · have e' : ¬ q.1 = k := fun z => e (h1.trans z)
      have a : decide (p.1 ≠ k) = true := by simp [e]
      have b : decide (q.1 ≠ k) = true := by simp [e']
      rw [if_pos a, if_pos b]; exact .cons ⟨h1, h2⟩ ih
theorem KV.length {kvs : List (κ × V)} {vs : List (κ × Value)} (r : KV kvs vs) : kvs.length = vs.length := Paired.length r
end
theorem kV_is {P : Program} {w : World} {k : Key} {u : Value} (r : RelV (kV k) u) : (mixKind P w).is k u = true := by
  cases k with
  | inl i => obtain ⟨t, e⟩ := (show ∃ t, u = Value.int i t from r); subst e; exact mixKind_int P w i t
  | inr x => obtain ⟨t, e⟩ := (show ∃ t, u = Value.str x t from r); subst e; exact mixKind_str P w x t
theorem items_are {P : Program} {w : World} : ∀ {ks : List Key} {us : List Value}, Vals (ks.map kV) us → ItemsAre (mixKind P w) ks us
  | [], _, r => by rw [List.map_nil] at r; cases r; exact .nil
  | k :: ks, _, r => by
    rw [List.map_cons] at r
    cases r with
    | cons h t => exact .cons (kV_is h) (items_are t)
abbrev KT (H : Hp) : List (List Key × V) → List (List Key × Addr × Value) → Prop := Paired fun p q => p.1 = q.1 ∧ H q.2.1 = some (.tup (p.1.map kV)) ∧ RelV p.2 q.2.2
theorem KT.val {H : Hp} {kvs : List (List Key × V)} {xs : List (List Key × Addr × Value)} (r : KT H kvs xs) (k : List Key) : RelO (valV kvs k) ((atKey xs k).map (·.2)) := by
  induction r with
  | nil => exact True.intro
  | @cons p q ps qs h t ih =>
    obtain ⟨h1, _, h2⟩ := h
    by_cases e : p.1 = k
    · have e' : q.1 = k := h1.symm.trans e
      have b : atKey (q :: qs) k = some q.2 := by simp [atKey, List.find?_cons, e']
      rw [valV_pos e, b]; exact h2
    · have e' : ¬ q.1 = k := fun z => e (h1.trans z)
      have b : atKey (q :: qs) k = atKey qs k := by simp [atKey, List.find?_cons, e']
      rw [valV_neg e, b]; exact ih
theorem KT.repl {H : Hp} {kvs : List (List Key × V)} {xs : List (List Key × Addr × Value)} (r : KT H kvs xs) (k : List Key) {y : V} {u : Value} (ry : RelV y u) :
    KT H (kvs.map fun kv => if kv.1 = k then (kv.1, y) else kv) (xs.map (putAt k u)) := by
  induction r with
  | nil => exact .nil
  | @cons p q ps qs h t ih =>
    rw [List.map_cons, List.map_cons]
    refine .cons ?_ ih
    obtain ⟨h1, h2, h3⟩ := h
    unfold putAt
    by_cases e : p.1 = k
    · rw [if_pos e, if_pos (h1.symm.trans e)]; exact ⟨h1, h2, ry⟩
    · rw [if_neg e, if_neg (fun z => e (h1.trans z))]; exact ⟨h1, h2, h3⟩
theorem KT.put {H : Hp} {kvs : List (List Key × V)} {xs : List (List Key × Addr × Value)} (r : KT H kvs xs) (k : List Key) {b : Addr} {y : V} {u : Value} (hb : H b = some (.tup (k.map kV))) (ry : RelV y u) :
    KT H (putK kvs k y) (storedH xs k b u) := by
  have e : (kvs.any fun kv => decide (kv.1 = k)) = (atKey xs k).isSome := by
    rw [valV_any, (r.val k).isSome_eq, Option.isSome_map]
  unfold putK storedH
  rw [e]
  by_cases q : (atKey xs k).isSome = true
  · rw [if_pos q, if_pos q]; exact r.repl k ry
  · rw [if_neg q, if_neg q]; exact Paired.snoc r ⟨rfl, hb, ry⟩
theorem KT.keeps {H H' : Hp} {kvs : List (List Key × V)} {xs : List (List Key × Addr × Value)} (r : KT H kvs xs) (ht : ∀ b ys, H b = some (.tup ys) → H' b = some (.tup ys)) : KT H' kvs xs :=
  Paired.mapP r fun _ _ z => ⟨z.1, ht _ _ z.2.1, z.2.2⟩
section
variable {P : Program} {w : World} {H : Hp} {h : Heap} {a : Addr}
theorem rd_of {u : HO} (ok : HOk P w H h) (e : Rd H a u) : ObjOk P w H h a u := e.ok ok
theorem dk_rd {kvs : List (Key × V)} (ok : HOk P w H h) (e : Rd H a (.dK kvs)) : kvs.length ≤ sizeLine ∧ (a == sysModules) = false ∧ ∃ vs, KV kvs vs ∧ h.DictOf (mixKind P w) a vs :=
  show ObjOk P w H h a (.dK kvs) from rd_of ok e
theorem dk_of {kvs : List (Key × V)} (ok : HOk P w H h) (e : H a = some (.dK kvs)) : kvs.length ≤ sizeLine ∧ (a == sysModules) = false ∧ ∃ vs, KV kvs vs ∧ h.DictOf (mixKind P w) a vs := dk_rd ok (.inl e)
theorem key_of {ks : List Key} (ok : HOk P w H h) (e : H a = some (.tup (ks.map kV))) : (tupleKind (mixKind P w)).is h ks a := by
  obtain ⟨_, its, r, o, h1, h2, n, h3⟩ := (show ObjOk P w H h a (.tup (ks.map kV)) from ok a _ e)
  exact ⟨o, its.toArray, n, h1, h2, h3, by simpa using items_are r⟩
theorem dt_rd {kvs : List (List Key × V)} (ok : HOk P w H h) (e : Rd H a (.dT kvs)) : kvs.length ≤ sizeLine ∧ (a == sysModules) = false ∧
    ∃ xs, KT H kvs xs ∧ h.DictOfH (tupleKind (mixKind P w)) a xs := by
  obtain ⟨z, y, xs, r, o, es, ep, h1, h2, h3, h4, h5⟩ := (show ObjOk P w H h a (.dT kvs) from rd_of ok e)
  refine ⟨z, y, xs, r, o, es, ep, h1, h2, h3, h4, fun x hx => ?_, h5⟩
  have all : ∀ {l : List (List Key × V)} {m : List (List Key × Addr × Value)}, KT H l m → ∀ x ∈ m, (tupleKind (mixKind P w)).is h x.1 x.2.1 := by
    intro l m q
    induction q with
    | nil => intro x hx; exact nomatch hx
    | @cons p q ps qs hq t ih =>
      intro x hx
      rcases List.mem_cons.mp hx with e | hx
      · subst e
        exact key_of ok (by rw [← hq.1]; exact hq.2.1)
      · exact ih x hx
  exact all r x hx
theorem dt_of {kvs : List (List Key × V)} (ok : HOk P w H h) (e : H a = some (.dT kvs)) : kvs.length ≤ sizeLine ∧ (a == sysModules) = false ∧
    ∃ xs, KT H kvs xs ∧ h.DictOfH (tupleKind (mixKind P w)) a xs := dt_rd ok (.inl e)
end
def DGet (H : Hp) (a : Addr) (y : V) (r : Option V) : Prop :=
  (∃ kvs k, Rd H a (.dK kvs) ∧ y = kV k ∧ r = valV kvs k) ∨ ∃ kvs k b, Rd H a (.dT kvs) ∧ y = .ref b ∧ H b = some (.tup (k.map kV)) ∧ r = valV kvs k
def DPut (H : Hp) (a : Addr) (y v : V) (H' : Hp) : Prop :=
  (∃ kvs k, H a = some (.dK kvs) ∧ y = kV k ∧ kvs.length < sizeLine ∧ H' = upd H a (.dK (putK kvs k v))) ∨
  ∃ kvs k b, H a = some (.dT kvs) ∧ y = .ref b ∧ H b = some (.tup (k.map kV)) ∧ kvs.length < sizeLine ∧ H' = upd H a (.dT (putK kvs k v))
theorem DGet.k {H : Hp} {a : Addr} {kvs : List (Key × V)} {k : Key} (e : H a = some (.dK kvs)) : DGet H a (kV k) (valV kvs k) := .inl ⟨kvs, k, .inl e, rfl, rfl⟩
theorem DGet.t {H : Hp} {a b : Addr} {kvs : List (List Key × V)} {k : List Key} (e : H a = some (.dT kvs)) (eb : H b = some (.tup (k.map kV))) : DGet H a (.ref b) (valV kvs k) := .inr ⟨kvs, k, b, .inl e, rfl, eb, rfl⟩
theorem DPut.k {H : Hp} {a : Addr} {kvs : List (Key × V)} {k : Key} {v : V} (e : H a = some (.dK kvs)) (hl : kvs.length < sizeLine) : DPut H a (kV k) v (upd H a (.dK (putK kvs k v))) := .inl ⟨kvs, k, e, rfl, hl, rfl⟩
theorem DPut.t {H : Hp} {a b : Addr} {kvs : List (List Key × V)} {k : List Key} {v : V} (e : H a = some (.dT kvs)) (eb : H b = some (.tup (k.map kV))) (hl : kvs.length < sizeLine) :
    DPut H a (.ref b) v (upd H a (.dT (putK kvs k v))) := .inr ⟨kvs, k, b, e, rfl, eb, hl, rfl⟩
section
variable {X : Cx} {pins : List (Addr × Obj)} {σ : St} {H : Hp} {s : Shared} {a : Addr} {y v : V} {u r : Value} {o : Option V} {A : Around} {E : Value → Shared → Prop}
theorem Inv.big (I : Inv X pins σ H s) : sysModules < s.heap.objs.size := by
  have h : mainGlobals < s.heap.objs.size := (I.mod.glob.keeps I.bk).lt
  exact Nat.lt_trans (by decide) h
theorem d_getItem {Q : Value → Shared → Prop} (hu : A.units + 1 < cLine) (I : Inv X pins σ H s) (g : DGet H a y (some v)) (ry : RelV y u) (h : ∀ w' s', Inv X pins σ H s' → RelV v w' → Q w' s') :
    wpAny (model X.prog X.w) A (getItem (.ref a) u) Q E s := by
  rcases g with ⟨kvs, k, e, ey, l⟩ | ⟨kvs, k, b, e, ey, eb, l⟩
  · subst ey
    obtain ⟨z, hd, vs, rel, dd⟩ := dk_rd I.hok e
    obtain ⟨w', hw, rw'⟩ := RelO.some_of (v := v) (o := valueAt vs k) (by rw [l]; exact rel.val k)
    exact wpAny_getItem_of (kV_is ry) dd.mapOf hw (h w' _ (I.tok _) rw')
  · subst ey
    cases (show u = Value.ref b from ry)
    obtain ⟨z, hd, xs, rel, dd⟩ := dt_rd I.hok e
    obtain ⟨w', hw, rw'⟩ := RelO.some_of (v := v) (o := (atKey xs k).map (·.2)) (by rw [l]; exact rel.val k)
    obtain ⟨p, hp, hp2⟩ := Option.map_eq_some_iff.mp hw
    refine wpAny_getItem_heap (tupleKind_room_in1 hu) (key_of I.hok eb) dd hp ?_
    rw [hp2]
    exact h w' _ (I.tok _) rw'
theorem d_in {Q : Value → Shared → Prop} (hu : A.units + 1 < cLine) (I : Inv X pins σ H s) (g : DGet H a y o) (ry : RelV y u) (h : ∀ s', Inv X pins σ H s' → Q (.bool o.isSome) s') :
    wpAny (model X.prog X.w) A (compareOp .In u (.ref a)) Q E s := by
  rcases g with ⟨kvs, k, e, ey, l⟩ | ⟨kvs, k, b, e, ey, eb, l⟩
  · subst ey
    obtain ⟨z, hd, vs, rel, dd⟩ := dk_rd I.hok e
    refine wpAny_in_of (kV_is ry) hd dd.mapOf ?_
    rw [← (rel.val k).isSome_eq, ← l]
    exact h _ (I.tok _)
  · subst ey
    cases (show u = Value.ref b from ry)
    obtain ⟨z, hd, xs, rel, dd⟩ := dt_rd I.hok e
    refine wpAny_in_heap (tupleKind_room_in1 hu) (key_of I.hok eb) hd dd ?_
    have q := (rel.val k).isSome_eq
    rw [Option.isSome_map] at q
    rw [← q, ← l]
    exact h _ (I.tok _)
theorem d_write {h' : Heap} {t' : Nat} {ob : HO} (I : Inv X pins σ H s) (mu : Mut (H a)) (hs : Heap.SameBut a s.heap h') (he : ∃ q, h'.get? a = some q) (new : ObjOk X.prog X.w (upd H a ob) h' a ob) :
    Inv X pins σ (upd H a ob) { s with heap := h', toks := t' } :=
  I.write (x := a) (e := a) mu (.inl rfl) (fun b q hb z => (hs.2 b hb).trans z) he new
theorem dk_new {P : Program} {w : World} {H' : Hp} {h' : Heap} {kvs : List (Key × V)} {vs : List (Key × Value)} (z : kvs.length ≤ sizeLine) (hd : (a == sysModules) = false) (rel : KV kvs vs) (dd : h'.DictOf (mixKind P w) a vs) :
    ObjOk P w H' h' a (.dK kvs) := ⟨z, hd, vs, rel, dd⟩
theorem d_setItem {H' : Hp} {Q : Unit → Shared → Prop} (hu : A.units + 1 < cLine) (I : Inv X pins σ H s) (g : DPut H a y v H') (ry : RelV y u) (rv : RelV v r) (h : ∀ s', Inv X pins σ H' s' → Q () s') :
    wpAny (model X.prog X.w) A (setItem (.ref a) u r) Q E s := by
  rcases g with ⟨kvs, k, e, ey, l, eH⟩ | ⟨kvs, k, b, e, ey, eb, l, eH⟩
  · subst ey eH
    obtain ⟨z, hd, vs, rel, dd⟩ := dk_of I.hok e
    have hz : vs.length ≤ sizeLine := by rw [← rel.length]; exact z
    have hl : (putK kvs k v).length ≤ sizeLine := by have := length_putK kvs k v; omega
    refine wpAny_setItem_pairs (hsz := hz) (kV_is ry) dd fun h' dd' hs => h _ ?_
    have he : ∃ q, h'.get? a = some q := let ⟨q, _, _, hq, _⟩ := dd'; ⟨q, hq⟩
    exact d_write I (by rw [e]; exact True.intro) hs he (dk_new hl hd (rel.put k rv) dd')
  · subst ey eH
    cases (show u = Value.ref b from ry)
    obtain ⟨z, hd, xs, rel, dd⟩ := dt_of I.hok e
    have hz : xs.length ≤ sizeLine := by rw [← Paired.length rel]; exact z
    have hl : (putK kvs k v).length ≤ sizeLine := by have := length_putK kvs k v; omega
    refine wpAny_setItem_heap (hsz := hz) (tupleKind_room_in1 hu) (key_of I.hok eb) dd fun h' dd' hs => h _ ?_
    obtain ⟨q, es, ep, hq, h2, h3, h4, _, h5⟩ := dd'
    refine d_write I (by rw [e]; exact True.intro) hs ⟨q, hq⟩ ⟨hl, hd, _, (rel.put k eb rv).keeps fun c ys ec => ?_, q, es, ep, hq, h2, h3, h4, h5⟩
    rw [upd_ne (ne_of ec e (fun z => nomatch z))]
    exact ec
end
section
variable {X : Cx} {pins : List (Addr × Obj)} {σ : St} {H : Hp} {s : Shared} {a : Addr} {kvs : List (Key × V)} {k : Key} {u : Value} {A : Around} {E : Value → Shared → Prop}
theorem d_len {Q : Value → Shared → Prop} (I : Inv X pins σ H s) (e : Rd H a (.dK kvs)) (h : ∀ t s', Inv X pins σ H s' → Q (.int kvs.length t) s') : wpAny (model X.prog X.w) A (call (.builtin "len") [.ref a]) Q E s := by
  obtain ⟨z, hd, vs, rel, dd⟩ := dk_rd I.hok e
  refine call_len_dict hd dd (by rw [← rel.length]; rw [sizeLine_eq] at z; omega) ?_
  rw [← rel.length]
  exact h _ _ (I.tok _)
end
def NoSl (i : Expr) : Prop := ∀ ov iv, subscripted i false ov iv = operate [ov, iv] (getItem ov iv)
theorem subD_of {prog : Program} {w : World} {A : Around} {E : Value → Shared → Prop} {s : Shared} {env : Env} {value slice : Expr} {pos : Pos} {T id : String} {Q : Value → Shared → Prop}
    (hl : typeLookup (.type T) "__getitem__" = pure (some (.builtin id))) (hs : NoSl slice)
    (h : wpAny (model prog w) A (eval value env) (fun o s₁ => wpAny (model prog w) A (eval slice env) (fun i s₂ => s₂.TypeIs o T ∧ wpAny (model prog w) A (getItem o i) Q E s₂) E s₁) E s) :
    wpAny (model prog w) A (eval (.Subscript value slice pos) env) Q E s := by
  refine Subscript_ (wpAny_mono h (fun o s₁ h₁ => wpAny_mono h₁ (fun i s₂ h₂ => ?_) fun _ _ x => x) fun _ _ x => x)
  obtain ⟨hT, h₂⟩ := h₂
  unfold subscriptTail
  refine wpAny_bind ?_
  rw [getitemInPython_of_ne hT.not_modules]
  refine wpAny_bind (wpAny_specialOf hT hl ?_)
  have fin : wpAny (model prog w) A (subscripted slice false o i) (fun r s₃ => wpAny (model prog w) A (letTemporaryGo value o r >>= fun _ => pure r) Q E s₃) E s₂ := by
    rw [hs o i]
    exact wpAny_operating (wpAny_mono h₂ (fun r s₃ h₃ => wpAny_bind (wpAny_letTemporaryGo (wpAny_pure h₃))) fun _ _ x => x)
  first
    | exact wpAny_pure (wpAny_bind fin)
    | exact wpAny_bind (wpAny_pure (wpAny_bind fin))
    | exact wpAny_bind fin
theorem dict_typeIs {X : Cx} {pins : List (Addr × Obj)} {σ : St} {H : Hp} {s : Shared} {a : Addr} {y : V} {o : Option V} (I : Inv X pins σ H s) (g : DGet H a y o) : s.TypeIs (.ref a) "dict" := by
  rcases g with ⟨kvs, k, e, _, _⟩ | ⟨kvs, k, b, e, _, _, _⟩
  · obtain ⟨_, _, vs, _, dd⟩ := dk_rd I.hok e
    exact dd.typeIs
  · obtain ⟨_, _, xs, _, dd⟩ := dt_rd I.hok e
    exact dd.typeIs
def tDGet (td ty : TE) : TE := fun σ H Q => td σ H fun x H1 => ty σ H1 fun y H2 => ∃ a v, x = .ref a ∧ DGet H2 a y (some v) ∧ Q v H2
def tDIn (ty td : TE) : TE := fun σ H Q => ty σ H fun y H1 => td σ H1 fun x H2 => ∃ a o, x = .ref a ∧ DGet H2 a y o ∧ Q (.bl o.isSome) H2
def sDPut (td ty tv : TE) : TS := fun D σ H => tv σ H fun v H1 => td σ H1 fun x H2 => ty σ H2 fun y H3 => ∃ a H4, x = .ref a ∧ DPut H3 a y v H4 ∧ D.nx σ H4
section
variable {X : Cx} {o i e value : Expr} {pos pos' tpos : Pos} {td ty tv : TE}
theorem pe_dget (hu : X.A.units + 1 < cLine) (ho : PE X o td) (hi : PE X i ty) (hs : NoSl i) : PE X (.Subscript o i pos) (tDGet td ty) := by
  intro pins s σ H Q I h
  refine subD_of PySem.F.slot_dict_getitem.lookup hs (thn (ho pins s σ H _ I h) fun u s1 ⟨x, H1, I1, rx, q1⟩ => thn (hi pins s1 σ H1 _ I1 q1) fun iv s2 ⟨y, H2, I2, ry, a, v, ex, g, q2⟩ => ?_)
  subst ex
  obtain rfl : u = Value.ref a := rx
  exact ⟨dict_typeIs I2 g, d_getItem hu I2 g ry fun w' s3 I3 rw' => ⟨v, H2, I3, rw', q2⟩⟩
theorem pc_din (hu : X.A.units + 1 < cLine) (hi : PE X i ty) (ho : PE X o td) : PC X .In i o (tDIn ty td) := by
  intro pins s σ H Q I h
  refine thn (hi pins s σ H _ I h) fun iv s1 ⟨y, H1, I1, ry, q1⟩ => thn (ho pins s1 σ H1 _ I1 q1) fun u s2 ⟨x, H2, I2, rx, a, ov, ex, g, q2⟩ => ?_
  subst ex
  obtain rfl : u = Value.ref a := rx
  exact d_in hu I2 g ry fun s3 I3 => ⟨.bl ov.isSome, H2, I3, rfl, q2⟩
theorem ps_dput (hu : X.A.units + 1 < cLine) (ho : PE X o td) (hi : PE X i ty) (hv : PE X value tv) (hs : swapsWith value (some (.Subscript o i pos')) pos.line X.env = pure false) :
    PS X (.Assign [.Subscript o i pos'] value pos) (sDPut td ty tv) := by
  intro pins s σ H D I h
  refine wpAny_Assign_Subscript (thn (hv pins s σ H _ I h) fun r s1 ⟨v, H1, I1, rv, q1⟩ => thn (ho pins s1 σ H1 _ I1 q1) fun u s2 ⟨x, H2, I2, rx, q2⟩ => thn (hi pins s2 σ H2 _ I2 q2) fun iv s3 ⟨y, H3, I3, ry, a, H4, ex, g, q3⟩ => ?_) hs
  subst ex
  obtain rfl : u = Value.ref a := rx
  exact d_setItem hu I3 g ry rv fun s4 I4 => ⟨σ, H4, I4, q3⟩
end
theorem dt_empty {P : Program} {w : World} {H : Hp} (h : Heap) (hb : sysModules < h.objs.size) : ObjOk P w H (h.push { cls := .type "dict", data := .dict #[] }) h.objs.size (.dT []) :=
  ⟨Nat.zero_le _, beq_eq_false_iff_ne.mpr (Ne.symm (Nat.ne_of_lt hb)), [], .nil, _, #[], 0, Heap.get?_push_size _ rfl, ⟨rfl, rfl, rfl⟩, rfl, rfl, List.nodup_nil⟩
def tDNewT : TE := fun _ H Q => ∀ p, H p = none → Q (.ref p) (upd H p (.dT []))
section
variable {X : Cx} {pos : Pos}
theorem pe_dnewT : PE X (.Dict [] [] pos) tDNewT := fun pins s σ H Q I h =>
  wpAny_Dict_empty ⟨.ref s.heap.objs.size, _, I.laid (a := s.heap.objs.size) (o := .dT []) (t' := s.toks) (fun _ _ q => Heap.get?_push_of_some _ q) (Nat.le_refl _) (dt_empty s.heap I.big), rfl, h _ (I.hok.fresh (Nat.le_refl _))⟩
end
def mergeK (kvs more : List (Key × V)) : List (Key × V) := more.foldl (fun acc kv => putK acc kv.1 kv.2) kvs
theorem KV.merge : ∀ {more : List (Key × V)} {rs : List (Key × Value)} {kvs : List (Key × V)} {vs : List (Key × Value)}, KV more rs → KV kvs vs → KV (mergeK kvs more) (merged vs rs) := by
  intro more rs kvs vs r
  unfold KV at r
  induction r generalizing kvs vs with
  | nil => intro q; exact q
  | @cons p q ps qs h t ih =>
    intro r0
    have e : KV (putK kvs p.1 p.2) (stored vs q.1 q.2) := by
      have := r0.put p.1 h.2
      rw [← h.1]; exact this
    exact ih e
structure M1 (X : Cx) (o : Expr) (m : Str) (apos : Pos) (e : Expr) (cpos : Pos) : Prop where
  base : attributeBase o m X.env (eval o X.env) = eval o X.env
  few : ((backTo cpos (starEach [e] X.env)).all (fun x => !x.1) && (backToKw cpos (keywordEach [] X.env)).all (fun x => x.1.isSome)
    && decide (([e] : List Expr).length + ([] : List Keyword).length + (if ([] : List Keyword).isEmpty then 0 else 1) < 30)) = true
  line : (apos.endLine == cpos.line) = true
  trees : backTo cpos (starEach [e] X.env) = [(false, eval e X.env)]
structure M2 (X : Cx) (o : Expr) (m : Str) (apos : Pos) (e f : Expr) (cpos : Pos) : Prop where
  base : attributeBase o m X.env (eval o X.env) = eval o X.env
  few : ((backTo cpos (starEach [e, f] X.env)).all (fun x => !x.1) && (backToKw cpos (keywordEach [] X.env)).all (fun x => x.1.isSome)
    && decide (([e, f] : List Expr).length + ([] : List Keyword).length + (if ([] : List Keyword).isEmpty then 0 else 1) < 30)) = true
  line : (apos.endLine == cpos.line) = true
  trees : backTo cpos (starEach [e, f] X.env) = [(false, eval e X.env), (false, eval f X.env)]
section
variable {X : Cx} {pins : List (Addr × Obj)} {σ : St} {H : Hp} {s : Shared} {a : Addr} {y d : V} {u r : Value} {o : Option V} {A : Around} {E : Value → Shared → Prop}
end
section
variable {X : Cx} {o e f : Expr} {apos cpos : Pos} {td ty tx : TE}
end
section
variable {X : Cx} {pins : List (Addr × Obj)} {σ : St} {H : Hp} {s : Shared} {a : Addr} {kvs : List (Key × V)} {A : Around} {E : Value → Shared → Prop}
end
section
variable {X : Cx} {pins : List (Addr × Obj)} {σ : St} {H : Hp} {s : Shared} {a : Addr} {y : V} {u : Value} {A : Around} {E : Value → Shared → Prop}
end
end L2
namespace Att
open PySem PySem.W PySem.Calls PyProof.Rows
theorem ints_of_wellAll {P : Params} {h : Heap} : ∀ (ns : List Int) (vs : List Value), WellAll P h vs (ns.map WData.int) → IntsAre vs ns := by
  intro ns
  induction ns with
  | nil =>
    intro vs w
    rw [List.map_nil] at w
    cases w
    exact .nil
  | cons n ns ih =>
    intro vs w
    rw [List.map_cons] at w
    cases w with
    | cons a b =>
      cases a
      exact .cons _ _ (ih _ b)
theorem script_of {l : OpenLaw} {n : Nat} (hn : l.most = some n) {P : Params} {h : Heap} {args : List WData} {vals : List Value}
    (hpre : l.row.toRowW.claim.pre args = true) (hwl : WellAll P h vals args) :
    ∃ a vs ns, vals = [Value.ref a] ∧ args = [WData.list (ns.map WData.int)] ∧ h.get? a = some { cls := .type "list", data := .seq vs.toArray } ∧ IntsAre vs ns ∧ ns.length ≤ n := by
  have hsh : WShape.hasAll [] args [.list .int] = true := (pre_splitW hpre).1
  have hc : l.pre.holds [] { args := args } = true := (pre_splitW hpre).2
  obtain ⟨d, r, rfl, h1, h2⟩ := hasAllW_cons hsh
  obtain rfl := hasAllW_nil h2
  obtain ⟨xs, rfl, h3⟩ := hasW_list h1
  obtain ⟨ns, rfl⟩ := items_int h3
  have hlen : ns.length ≤ n := by
    unfold OpenLaw.pre at hc
    have h4 : (WTm.not (.lt (.lit (.int (n : Int))) (.len (.arg 0)))).holds [] { args := [.list (ns.map .int)] } = true := by
      have h4 := (holds_andW hc).1
      rw [hn] at h4
      exact h4
    have h5 := condW_of h4 (w_not (w_lt w_lit (w_len_list (w_arg rfl))))
    rw [List.length_map] at h5
    refine Nat.le_of_not_lt fun q => ?_
    have q' : (n : Int) < ((ns.length : Nat) : Int) := by omega
    first
      | (rw [decide_eq_true q'] at h5; exact absurd h5 (by decide))
      | (simp at h5; omega)
  cases hwl with
  | cons w1 w2 =>
    cases w2
    cases w1 with
    | list ho hall => exact ⟨_, _, ns, rfl, rfl, ho, ints_of_wellAll ns _ hall, hlen⟩
theorem post_true (l : OpenLaw) (args : List WData) : l.row.toRowW.claim.post args (.bool true) args = true :=
  postW_of (r := l.row.toRowW) (X := (true == true))
    (show WShape.has [] (.bool true) .bool = true by first | rfl | decide | simp [WShape.has, WShape.arms, WShape.armsAll])
    (show (WTm.eq .res (.lit (.bool true))).value [] { args := args, res := some (.bool true), after := args } = some (.bool (true == true)) from w_eq_bool (w_res rfl) w_lit) rfl
theorem attach_call {l : OpenLaw} {n : Nat} {q : Program} {loose : List Str} {XP : (Str → Option Value) → Heap → Prop} {YP : World → Heap → Prop} {d : DefRec}
    (hn : l.most = some n) (hdf : d.params.defaults = [])
    (call : ∀ (w : World) (s₀ s₁ : Shared) (mg mb : Str → Option Value) (fa : Addr) (o : Obj) (pm cd doc : Value) (a : Addr) (vs : List Value) (ns : List Int),
      Ground q loose [] XP w s₀ mg mb s₁.heap → YP w s₁.heap →
      s₁.heap.get? fa = some o → o.data = .func (docDef d.name d.params d.body d.scope pm cd doc) → s₁.heap.CodeRec cd d.name → mg d.name = some (.ref fa) →
      s₁.heap.get? a = some { cls := .type "list", data := .seq vs.toArray } → IntsAre vs ns → ns.length ≤ n → s₁.gens = #[] →
      codeAny (model l.prog w) callerA (.call (.ref fa) ⟨[.ref a], []⟩) (fun r s' => r = .ok (.ret (.bool true)) ∧ OldK s₁.heap s'.heap ∧ s'.os = s₁.os ∧ AllBare s'.gens) s₁) :
    WalkO q loose XP YP l.row.toRowW d [] (fun f vs => PySem.call f vs) := by
  intro w s₀ s₁ mg mb G Y fa o pm cd doc dV kV ho hd hcd hD hmg hg args vals as hpre hlay hrd hwl hlo
  obtain rfl : dV = .none := Dflts.none hD hdf
  obtain rfl : kV = .none := Dflts.noKw hD
  obtain ⟨a, vs, ns, rfl, rfl, hobj, hints, hlen⟩ := script_of hn hpre hwl
  refine enter_call (codeAny_mono (call w s₀ s₁ mg mb fa o pm cd doc a vs ns G Y ho (fd_plain hd) hcd hmg hobj hints hlen hg) fun r s' hq => ?_)
  obtain ⟨rfl, h2, h3, h4⟩ := hq
  exact ⟨.inl ⟨.bool true, .bool true, [], rfl, fun _ => rfl, .bool true, post_true l _, fun _ => ⟨List.Pairwise.nil, fun _ hm => (nomatch hm)⟩⟩, h2, h3, h4⟩
section
variable {prog : Program} {w : World} {A : Around} {E : Value → Shared → Prop} {s : Shared} {K : Frag}
def noObjs (h : Heap) : Heap := { h with objs := #[] }
theorem noObjs_get (h : Heap) (b : Addr) : (noObjs h).get? b = none := by
  cases e : (noObjs h).get? b with
  | none => rfl
  | some o => exact absurd (Heap.lt_size e) (Nat.not_lt_zero _)
theorem fr_all {h : Heap} {L : Addr} {m : Str → Option Value} (n : h.Ns L m) : Fr (noObjs h) L h m :=
  ⟨n, fun b o e => (by rw [noObjs_get] at e; cases e), Nat.zero_le _⟩
end
end Att
namespace L2
open PySem PySem.Spec PyProof.Rows
theorem vals_ints : ∀ {vs : List Value} {ns : List Int}, IntsAre vs ns → Vals (ns.map V.int) vs
  | _, _, .nil => .nil
  | _, _, .cons n t h => .cons ⟨t, rfl⟩ (vals_ints h)
def Only (H : Hp) : Prop := ∀ b, H b = none ∨ ∃ o xs, H b = some (.frz o (.lst xs))
theorem law_call {P : Program} {w : World} {K : PySem.W.Frag} {mg mb : Str → Option Value} {CX : CXT} {k : Nat} {fa a : Addr} {fd : FuncData} {x : Str} {sp : Sp} {s₁ : Shared} {vs : List Value} {ns : List Int}
    (KX : K.In s₁.heap) (hns : s₁.heap.Ns mainGlobals mg) (hb : s₁.heap.Ns builtinsNs mb) (hbb : ∀ x : Str, x ≠ "__name__" → mb x = bootBuiltins x) (hlim : s₁.heap.NoLimit) (hg : s₁.gens = #[])
    (ha : s₁.heap.get? a = some { cls := .type "list", data := .seq vs.toArray }) (hi : IntsAre vs ns) (hl : ns.length ≤ sizeLine) (hr : Room k callerA)
    (F : ∀ base : Heap, K.In base → base.Ns mainGlobals mg → FnOk P w K mg base CX k fa fd [x] sp) (hbind : ∀ (s : Shared) (u : Value), BindsTo s fd ⟨[u], []⟩ [(x, u)])
    (hsp : ∀ H : Hp, Only H → SqL K H a (ns.map V.int) → sp [.ref a] H (fun v _ => v = .bl true) fun _ _ _ => False)
    (hCX : ∀ H e s', CX [] H s₁ (fun _ _ _ => False) e s' → False) :
    codeAny (model P w) callerA (.call (.ref fa) ⟨[.ref a], []⟩) (fun r s' => r = .ok (.ret (.bool true)) ∧ OldK s₁.heap s'.heap ∧ s'.os = s₁.os ∧ AllBare s'.gens) s₁ := by
  have rv := vals_ints hi
  have lenV := hi.length
  have core : ∀ H : Hp, Only H → SqL K H a (ns.map V.int) → HOk P w H s₁.heap → (∀ b, H b ≠ none → b = a) → (H a ≠ none → K.lookup a = none) →
      codeAny (model P w) callerA (.call (.ref fa) ⟨[.ref a], []⟩) (fun r s' => r = .ok (.ret (.bool true)) ∧ OldK s₁.heap s'.heap ∧ s'.os = s₁.os ∧ AllBare s'.gens) s₁ := by
    intro H hO hS hok hA hK
    have base_of : ∀ {b : Addr} {o : Obj}, s₁.heap.get? b = some o → H b = none → (hidT s₁.heap H).get? b = some o := fun e n => hidT_get e n
    have noA : ∀ {b : Addr} {o : Obj} {es : Array DictEntry} {ep : Nat}, s₁.heap.get? b = some o → o.data = .dict es ep → H b = none := fun {b o es ep} e d => by
      cases q : H b with
      | none => rfl
      | some u =>
        have e' : b = a := hA b (by rw [q]; simp)
        subst e'
        rw [ha] at e; cases e
        have d' : Data.seq vs.toArray _ = Data.dict es ep := d
        cases d'
    have nsK : ∀ {b : Addr} {m : Str → Option Value}, s₁.heap.Ns b m → (hidT s₁.heap H).Ns b m := fun {b m} ⟨o, es, ep, e, d, r⟩ => ⟨o, es, ep, base_of e (noA e d), d, r⟩
    have hKb : K.In (hidT s₁.heap H) := fun b o e => base_of (KX b o e) (by
      cases q : H b with
      | none => rfl
      | some u =>
        have e' : b = a := hA b (by rw [q]; simp)
        subst e'
        rw [hK (by rw [q]; simp)] at e; cases e)
    have hM : Mod K mg (hidT s₁.heap H) := ⟨hKb, nsK hns, ⟨mb, nsK hb, hbb⟩, let ⟨mc, h1, h2⟩ := hlim; ⟨mc, nsK h1, h2⟩⟩
    have e0 : Env0 P w K mg (hidT s₁.heap H) callerA [] s₁ H := ⟨rfl, hM, fun b o e => of_hidT e, Nat.le_of_eq (hidT_size _ _), trivial, fun b hb => absurd (show b ∈ ([] : List Addr) from hb) (by simp), hok, .of_eq hg⟩
    refine codeAny_mono ((F _ hKb (nsK hns)).run callerA [] s₁ H ⟨[.ref a], []⟩ [.ref a] [.ref a] _ _ hr e0 (hbind s₁ (.ref a)) (.cons rfl .nil) (hsp H hO hS)) fun r s' h => ?_
    cases r with
    | error e => exact (hCX H e s' h).elim
    | ok fl =>
      cases fl with
      | next => exact False.elim h
      | brk => exact False.elim h
      | cont => exact False.elim h
      | ret u =>
        obtain ⟨v, H', os, bare, un, hok', r', q⟩ := h
        have q' : v = .bl true := q
        subst q'
        obtain rfl : u = Value.bool true := r'
        refine ⟨rfl, OldK.of_keep fun b o e => ?_, os, bare⟩
        cases q : H b with
        | none => exact un.keep b o e q (by intro z; exact absurd (show b ∈ ([] : List Addr) from z) (by simp)) (by simp)
        | some u =>
          rcases hO b with z | ⟨ob, xs, z⟩
          · rw [q] at z; cases z
          · have z2 := un.frzs b ob _ z
            obtain ⟨e1, _⟩ := hok b _ z
            obtain ⟨e2, _⟩ := hok' b _ z2
            rw [e] at e1; cases e1
            exact e2
  cases hk : K.lookup a with
  | some o =>
    have e := KX a o hk
    rw [ha] at e
    cases e
    refine core (fun _ => none) (fun _ => .inl rfl) (.inr ⟨_, vs.toArray, _, hk, rfl, rfl, rfl, by rw [List.size_toArray, lenV]; exact hl, by simpa using rv⟩) (fun b u z => by have z' : (none : Option HO) = some u := z; cases z') (fun b z => absurd rfl z) fun z => absurd rfl z
  | none =>
    refine core (fun b => if b = a then some (.frz { cls := .type "list", data := .seq vs.toArray } (.lst (ns.map V.int))) else none) (fun b => ?_) (.inl (.inr ⟨{ cls := .type "list", data := .seq vs.toArray }, if_pos rfl⟩)) (fun b u z => ?_) (fun b z => ?_) fun _ => hk
    · by_cases hb : b = a
      · exact .inr ⟨_, _, if_pos hb⟩
      · exact .inl (if_neg hb)
    · by_cases hb : b = a
      · have z' := (if_pos hb).symm.trans z
        cases z'
        subst hb
        exact ⟨ha, by rw [List.length_map]; exact hl, vs, _, rv, ha⟩
      · have z' := (if_neg hb).symm.trans z
        cases z'
    · by_cases hb : b = a
      · exact hb
      · exact absurd (if_neg hb) z
end L2
namespace L2
open PySem PySem.Spec PyProof.Rows
theorem walk_of {l : PySem.W.OpenLaw} {n k : Nat} {q : Program} {loose : List Str} {XP : (Str → Option Value) → Heap → Prop} {YP : World → Heap → Prop} {d : DefRec} {K : Params → PySem.W.Frag} {CX : World → CXT} {sp : World → Sp} {x : Str}
    (hn : l.most = some n) (hn2 : n ≤ sizeLine) (hdf : d.params.defaults = []) (hr : Room k callerA)
    (hY : ∀ (w : World) (h : Heap), YP w h → (K w.params).In h)
    (F : ∀ (w : World) (mg : Str → Option Value) (fa : Addr) (h : Heap), (K w.params).In h → h.Ns mainGlobals mg → mg d.name = some (.ref fa) →
      ∃ fd : FuncData, (∀ (s : Shared) (u : Value), BindsTo s fd ⟨[u], []⟩ [(x, u)]) ∧
        ∀ base : Heap, (K w.params).In base → base.Ns mainGlobals mg → FnOk l.prog w (K w.params) mg base (CX w) k fa fd [x] (sp w))
    (hsp : ∀ (w : World) (H : Hp) (a : Addr) (ns : List Int), ns.length ≤ n → Only H → SqL (K w.params) H a (ns.map V.int) → sp w [.ref a] H (fun v _ => v = .bl true) fun _ _ _ => False)
    (hCX : ∀ (w : World) (H : Hp) (s : Shared) (e : Value) (s' : Shared), CX w [] H s (fun _ _ _ => False) e s' → False) :
    PySem.W.WalkO q loose XP YP l.row.toRowW d [] (fun f vs => PySem.call f vs) := by
  refine Att.attach_call hn hdf fun w s₀ s₁ mg mb fa o pm cd doc a vs ns G Y ho hd hcd hmg hobj hints hlen hg => ?_
  have KX := hY w _ Y
  obtain ⟨fd, hb, hF⟩ := F w mg fa _ KX G.T.g hmg
  exact law_call KX G.T.g G.T.b G.T.builtins G.T.nolimit hg hobj hints (Nat.le_trans hlen hn2) hr hF hb (fun H hO hS => hsp w H a ns hlen hO hS) fun H e s' => hCX w H s₁ e s'
end L2
namespace L2
open PySem PySem.Spec PyProof.Rows
def defArgs (s : Stmt) : Arguments := match s with
  | .FunctionDef _ a _ _ _ _ _ _ _ _ => a
  | _ => { posonlyargs := [], args := [], vararg := none, kwonlyargs := [], kw_defaults := [], kwarg := none, defaults := [] }
def defBody (s : Stmt) : List Stmt := match s with
  | .FunctionDef _ _ b _ _ _ _ _ _ _ => b
  | _ => []
def defScope (s : Stmt) : Scope := match s with
  | .FunctionDef _ _ _ _ _ _ sc _ _ _ => sc
  | _ => { kind := .function, names := [], isGenerator := false, isCoroutine := false }
abbrev CX0 : CXT := fun _ _ _ _ _ _ => False
abbrev E0 : XK := fun _ _ _ => False
theorem pass0 {X : Cx} : Passes CX0 X E0 := fun _ _ _ _ _ _ _ h => h.elim
structure Fun (K : PySem.W.Frag) (x qual : Str) (st : Stmt) (f : Addr) (fd : FuncData) : Prop where
  ex : ∃ (oc : Value) (od : Option Addr) (kV doc pm : Value) (an : Option Addr) (cdv ct : Value) (osl : Array (Option Value)),
    fd = PySem.W.fnOf x qual (defArgs st) (defBody st) (defScope st) .none kV doc pm an cdv ct ∧ K.lookup f = some ⟨oc, od, .func fd, osl⟩ ∧ PySem.W.codeIn K cdv qual = true
  kp : PySem.W.keepIn K (.ref f) = true
section
variable {P : Program} {w : World} {K : PySem.W.Frag} {mg : Str → Option Value} {base : Heap}
theorem Fun.ok {x qual : Str} {st : Stmt} {f : Addr} {fd : FuncData} {N ps : List Str} {k : Nat} {sp : Sp} (F : Fun K x qual st f fd) (S : FnScope N ps (defScope st)) (len : ∀ vs H Q E, sp vs H Q E → vs.length = ps.length)
    (hbody : ∀ (cdv : Value) (A : Around) (outer : List Env) (s : Shared) (H : Hp) (vs : List V) (Q : VK) (E : XK), Room k (A.deeper (envOfC qual (defScope st) s.heap.objs.size f cdv)) → sp vs H Q E →
      ∃ t, PSs (cxOf CX0 P w K mg base N qual (defScope st) f cdv A outer s H E).nox (defBody st) t ∧ t { nx := fun _ H' => Q .non H', rt := Q } (start N vs) H) : FnOk P w K mg base CX0 (k + 1) f fd ps sp := by
  obtain ⟨oc, od, kV, doc, pm, an, cdv, ct, osl, rfl, lk, hcd⟩ := F.ex
  refine fn_of lk hcd S len fun A outer s H vs Q E hr hsp => ?_
  obtain ⟨t, h, q⟩ := hbody cdv A outer s H vs Q E hr hsp
  exact ⟨t, h.nox, q⟩
theorem Fun.binds {x qual : Str} {st : Stmt} {f : Addr} {fd : FuncData} {ps : List Str} (F : Fun K x qual st f fd)
    (h : ∀ (kV doc pm : Value) (an : Option Addr) (cdv ct : Value) (us : List Value), us.length = ps.length → bindArgs (PySem.W.fnOf x qual (defArgs st) (defBody st) (defScope st) .none kV doc pm an cdv ct) ⟨us, []⟩ = pure (ps.zip us)) : Binds K fd ps [] := by
  obtain ⟨oc, od, kV, doc, pm, an, cdv, ct, osl, rfl, lk, hcd⟩ := F.ex
  exact .all (h kV doc pm an cdv ct)
theorem fun_mk {x qual : Str} {st : Stmt} {f : Addr} {oc : Value} {od an : Option Addr} {osl : Array (Option Value)} {kV doc pm cdv ct : Value} (l : K.lookup f = some ⟨oc, od, .func (PySem.W.fnOf x qual (defArgs st) (defBody st) (defScope st) .none kV doc pm an cdv ct), osl⟩)
    (c : PySem.W.codeIn K cdv qual = true) (k : PySem.W.keepIn K (.ref f) = true) : Fun K x qual st f (PySem.W.fnOf x qual (defArgs st) (defBody st) (defScope st) .none kV doc pm an cdv ct) := ⟨⟨oc, od, kV, doc, pm, an, cdv, ct, osl, rfl, l, c⟩, k⟩
end
theorem small1000 {n : Nat} (h : n ≤ 1000) : n < sizeLine := Nat.lt_of_le_of_lt h (by decide)
section
variable {X : Cx}
theorem pv (i : Nat) {x : Str} {pos : Pos} (hN : X.N[i]? = some x := by rfl) (hv : Vis X.env.scope x := by first | exact Or.inl rfl | exact Or.inr (Or.inl rfl) | exact Or.inr (Or.inr rfl)) (hd : (x == ("__debug__" : Str)) = false := by decide)
    (hcd : (x == ("__classdict__" : Str)) = false := by decide) : PE X (.Name x pos) (tVar i) := pe_var hN hv hd hcd
end
theorem iteF {A B : Prop} (h : B) : if false = true then A else B := by
  rw [if_neg Bool.false_ne_true]
  exact h
theorem iteT {A B : Prop} (h : A) : if true = true then A else B := by
  rw [if_pos rfl]
  exact h
def Same (H H' : Hp) : Prop := ∀ b o, H b = some o → H' b = some o
theorem Same.refl (H : Hp) : Same H H := fun _ _ h => h
theorem Same.trans {H H1 H2 : Hp} (a : Same H H1) (b : Same H1 H2) : Same H H2 := fun c o h => b c o (a c o h)
theorem Same.free {H H' : Hp} (e : Same H H') {l : Addr} (h : H' l = Option.none) : H l = Option.none := by
  cases q : H l with
  | none => rfl
  | some o =>
    rw [e l o q] at h
    cases h
theorem Same.seq {K : PySem.W.Frag} {H H' : Hp} {a : Addr} {xs : List V} (e : Same H H') (h : SqL K H a xs) : SqL K H' a xs := by
  rcases h with (h | ⟨o, h⟩) | h
  · exact .inl (.inl (e _ _ h))
  · exact .inl (.inr ⟨o, e _ _ h⟩)
  · exact .inr h
section
variable {κ : Type} [DecidableEq κ]
theorem valV_not {kvs : List (κ × V)} {k : κ} (h : valV kvs k = none) : ¬ k ∈ kvs.map (·.1) := by
  intro m
  obtain ⟨p, hp, e⟩ := List.mem_map.mp m
  have q : (kvs.any fun kv => decide (kv.1 = k)) = true := List.any_eq_true.mpr ⟨p, hp, decide_eq_true e⟩
  rw [valV_any, h] at q
  exact absurd q (by simp)
theorem nd_snoc : ∀ {l : List κ} {k : κ}, l.Nodup → ¬ k ∈ l → (l ++ [k]).Nodup
  | [], k, _, _ => by simp
  | a :: r, k, h, hk => by
    obtain ⟨h1, h2⟩ := List.nodup_cons.mp h
    show (a :: (r ++ [k])).Nodup
    refine List.nodup_cons.mpr ⟨fun m => ?_, nd_snoc h2 fun m => hk (List.mem_cons.mpr (Or.inr m))⟩
    rcases List.mem_append.mp m with q | q
    · exact h1 q
    · exact hk (List.mem_cons.mpr (Or.inl (List.mem_singleton.mp q).symm))
theorem nd_putK {kvs : List (κ × V)} {k : κ} (v : V) (hn : (kvs.map (·.1)).Nodup) (h : valV kvs k = none) : ((putK kvs k v).map (·.1)).Nodup := by
  rw [putK_new v h, List.map_append]
  exact nd_snoc hn (valV_not h)
end
end L2
namespace L2
open PySem PySem.Spec PyProof.Rows
section
variable {X : Cx}
def CDivB (_ j : Int) : Prop := 0 < j ∧ j < 2 ^ 200
theorem noPy {i j : Int} (h : CDivB i j) : Builtin.divisionGoesByPylong i j = false := by
  refine PyProof.noPylong_of_log2 ?_
  obtain ⟨h1, h2⟩ := h
  have h0 : j.natAbs ≠ 0 := by omega
  have h3 : j.natAbs < 2 ^ 200 := by omega
  have := (Nat.log2_lt h0).mpr h3
  omega
theorem op_fdivB : OpR X (binaryOp .FloorDiv) (rI CDivB fun i j => .int (i / j)) := opI fun i j _ _ _ _ _ hc q => by
  have h1 : (0 : Int) < j := hc.1
  exact floordiv_int (by omega) (by rw [Int.fdiv_eq_ediv_of_nonneg i (by omega)]; exact q) (.inl (noPy hc))
inductive ClsV : V → Value → Prop where
  | ty (n : String) : ClsV (.ty n) (.type n)
  | ref (C : Addr) : ClsV (.ref C) (.ref C)
theorem call_isinst : CallR X (.builtin "isinstance") (fun xs H Q => ∃ x y c t b, xs = [x, y] ∧ ClsV y c ∧ TyOf X.K H x t ∧ PySem.W.kitOne X.K t c = some b ∧ Q (.bl b) H) := by
  intro pins s σ H xs us Q I r h
  obtain ⟨x, y, c, t, b, rfl, hy, ty, e, q⟩ := h
  obtain ⟨u, w', rfl, rx, ry⟩ := vals2 r
  cases hy with
  | ty n =>
    cases (show w' = Value.type n from ry)
    exact isinst_ok I rx ty e fun tk => ⟨.bl b, H, I.tok _, rfl, q⟩
  | ref C =>
    cases (show w' = Value.ref C from ry)
    exact isinst_ok I rx ty e fun tk => ⟨.bl b, H, I.tok _, rfl, q⟩
end
theorem compLoop_go {prog : Program} {w : World} {A : Around} {R : Result → Shared → Prop} {s : Shared} {elt target iter : Expr} {ifs : List Expr} {scope : Scope} {pos : Pos} {it acc : Value} {env : Env} (I : Nat → Shared → Prop) (E : Value → Shared → Prop)
    (hE : ∀ e s', E e s' → notedBy (model prog w) A env (fun e s' => R (.error e) s') e s')
    (turn : ∀ n s, I n s → wpAny (model prog w) A (pyNext it) (fun r s₁ => match r with
      | none => R (.ok .next) s₁
      | some v => wpAny (model prog w) A (letOwnedTupleGo target it v) (fun _ s₁' => wpAny (model prog w) A (assign target env v) (fun _ s₂ =>
          wpAny (model prog w) A (forIn ifs true fun c r => if r = true then do let ok ← isTrue c env (eval c env); pure (ForInStep.yield ok) else pure (ForInStep.yield r)) (fun ok s₃ =>
            if ok = true then wpAny (model prog w) A (eval elt env) (fun x s₄ =>
              wpAny (model prog w) A (call (.builtin "list.append") [acc, x]) (fun _ s₅ => ∃ m, m < n ∧ I m s₅) E s₄) E s₃
            else ∃ m, m < n ∧ I m s₃) E s₂) E s₁') E s₁) E s)
    (n : Nat) (h : I n s) : codeAny (model prog w) A (.compLoop (.ListComp elt [⟨target, iter, ifs, 0⟩] scope pos) 0 it acc env) R s := by
  refine codeAny_loop rfl I (fun n s hI => ?_) n h
  show wpAny _ A ((compTurn (.ListComp elt [⟨target, iter, ifs, 0⟩] scope pos) 0 it acc env).onRaise (fun x => do noteFrame x env; theTreesLotGoes x)) _ _ s
  refine wpAny_noted ?_
  rw [compTurn_list]
  refine wpAny_bind (wpAny_standAt (wpAny_bind (wpAny_mono (turn n s hI) (fun r s₁ h₁ => ?_) hE)))
  cases r with
  | none => exact wpAny_pure h₁
  | some v =>
    refine wpAny_bind (wpAny_mono h₁ (fun _ s₁' h₁' => ?_) hE)
    refine wpAny_bind (wpAny_mono h₁' (fun _ s₂ h₂ => wpAny_bind (wpAny_mono h₂ (fun ok s₃ h₃ => ?_) hE)) hE)
    cases ok with
    | false => exact wpAny_pure ⟨rfl, h₃⟩
    | true =>
      exact wpAny_bind (wpAny_bind (wpAny_mono h₃ (fun x s₄ h₄ => wpAny_bind (wpAny_mono h₄ (fun _ s₅ h₅ => wpAny_pure (wpAny_pure ⟨rfl, h₅⟩)) hE)) hE))
theorem closure_key {env : Env} : ∀ (names : List (Str × NameKind)) (acc : List (Str × Addr)), (∀ y ∈ names, y.2 = .free → ∃ c, env.cells.lookup y.1 = some c) → (∀ x c, acc.lookup x = some c → env.cells.lookup x = some c) →
    ∃ cl, (forIn names acc (fun (x : Str × NameKind) (r : List (Str × Addr)) => (if (x.2 == NameKind.free) = true then (do let a ← cellOf env x.1; pure (ForInStep.yield ((x.1, a) :: r))) else pure (ForInStep.yield r) : Sem (ForInStep (List (Str × Addr)))))) = (pure cl : Sem (List (Str × Addr))) ∧
      (∀ x c, cl.lookup x = some c → env.cells.lookup x = some c) ∧ (∀ x c, acc.lookup x = some c → ∃ c', cl.lookup x = some c') ∧ ∀ y ∈ names, y.2 = .free → ∃ c, cl.lookup y.1 = some c
  | [], acc, _, ha => ⟨acc, rfl, ha, fun x c e => ⟨c, e⟩, fun _ h => nomatch h⟩
  | (n, k) :: r, acc, hf, ha => by
    have hf' : ∀ y ∈ r, y.2 = .free → ∃ c, env.cells.lookup y.1 = some c := fun y hy => hf y (List.mem_cons_of_mem _ hy)
    by_cases hk : k = .free
    · subst hk
      obtain ⟨c, hc⟩ := hf (n, .free) List.mem_cons_self rfl
      have hc' : env.cells.lookup n = some c := hc
      have ha' : ∀ x d, ((n, c) :: acc).lookup x = some d → env.cells.lookup x = some d := fun x d e => by
        rw [List.lookup_cons] at e
        cases hx : x == n with
        | true => rw [hx] at e; cases e; rw [beq_iff_eq.mp hx]; exact hc'
        | false => rw [hx] at e; exact ha x d e
      obtain ⟨cl, e, h1, h2, h3⟩ := closure_key r ((n, c) :: acc) hf' ha'
      have hself : ((n, c) :: acc).lookup n = some c := by rw [List.lookup_cons, beq_self_eq_true]
      refine ⟨cl, ?_, h1, fun x d ex => ?_, fun y hy hyf => ?_⟩
      · rw [List.forIn_cons]
        have ec : cellOf env n = pure c := by unfold cellOf; rw [hc']
        show ((if (NameKind.free == NameKind.free) = true then (do let a ← cellOf env n; pure (ForInStep.yield ((n, a) :: acc))) else pure (ForInStep.yield acc) : Sem _) >>= _) = _
        rw [if_pos (by decide), ec]
        exact e
      · cases hx : x == n with
        | true => rw [beq_iff_eq.mp hx]; exact h2 n c hself
        | false => exact h2 x d (by rw [List.lookup_cons, hx]; exact ex)
      · rcases List.mem_cons.mp hy with rfl | hy
        · exact h2 n c hself
        · exact h3 y hy hyf
    · obtain ⟨cl, e, h1, h2, h3⟩ := closure_key r acc hf' ha
      refine ⟨cl, ?_, h1, h2, fun y hy hyf => ?_⟩
      · rw [List.forIn_cons]
        show ((if (k == NameKind.free) = true then (do let a ← cellOf env n; pure (ForInStep.yield ((n, a) :: acc))) else pure (ForInStep.yield acc) : Sem _) >>= _) = _
        rw [if_neg (by simpa using hk)]
        exact e
      · rcases List.mem_cons.mp hy with rfl | hy
        · exact absurd hyf hk
        · exact h3 y hy hyf
theorem closure_ok {scope : Scope} {env : Env} (h : ∀ y ∈ scope.names, y.2 = .free → ∃ c, env.cells.lookup y.1 = some c) :
    ∃ cl, closureFor scope env = pure cl ∧ (∀ x c, cl.lookup x = some c → env.cells.lookup x = some c) ∧ ∀ y ∈ scope.names, y.2 = .free → ∃ c, cl.lookup y.1 = some c := by
  obtain ⟨cl, e, h1, _, h3⟩ := closure_key (env := env) scope.names [] h (fun x c e => nomatch e)
  refine ⟨cl, ?_, h1, h3⟩
  have e0 : closureFor scope env = ((forIn scope.names [] (fun (x : Str × NameKind) (r : List (Str × Addr)) => (if (x.2 == NameKind.free) = true then (do let a ← cellOf env x.1; pure (ForInStep.yield ((x.1, a) :: r))) else pure (ForInStep.yield r) : Sem (ForInStep (List (Str × Addr)))))) >>= fun r => pure r) := rfl
  rw [e0, e]
  rfl
theorem relabel_free {env : Env} (hf : env.scope.kind = .function) : ∀ {names : List (Str × NameKind)} {x : Str}, names.lookup x = some .free → env.kindOf x = some .cell →
    (names.map fun (n, k) => if (k == NameKind.free && env.scope.kind == .function && env.kindOf n == some .cell) then (n, NameKind.cell) else (n, k)).lookup x = some .cell
  | [], _, h, _ => by simp at h
  | (n, k) :: r, x, h, hc => by
    have ih := @relabel_free env hf r x
    show List.lookup x ((if (k == NameKind.free && env.scope.kind == .function && env.kindOf n == some .cell) = true then (n, NameKind.cell) else (n, k)) :: _) = _
    cases hx : x == n with
    | true =>
      simp only [List.lookup_cons, hx] at h
      cases h
      have e : x = n := beq_iff_eq.mp hx
      subst e
      rw [if_pos (by rw [hf, hc]; decide)]
      simp only [List.lookup_cons, hx]
    | false =>
      simp only [List.lookup_cons, hx] at h
      by_cases hq : (k == NameKind.free && env.scope.kind == .function && env.kindOf n == some .cell) = true
      · rw [if_pos hq]; simp only [List.lookup_cons, hx]; exact ih h hc
      · rw [if_neg hq]; simp only [List.lookup_cons, hx]; exact ih h hc
theorem relabel_back {env : Env} : ∀ {names : List (Str × NameKind)} {x : Str} {k : NameKind},
    (names.map fun (n, k) => if (k == NameKind.free && env.scope.kind == .function && env.kindOf n == some .cell) then (n, NameKind.cell) else (n, k)).lookup x = some k → ∃ k0, names.lookup x = some k0 ∧ (k = k0 ∨ k0 = .free)
  | [], _, _, h => by simp at h
  | (n, k1) :: r, x, k, h => by
    have h : List.lookup x ((if (k1 == NameKind.free && env.scope.kind == .function && env.kindOf n == some .cell) = true then (n, NameKind.cell) else (n, k1)) :: (r.map fun (n, k) => if (k == NameKind.free && env.scope.kind == .function && env.kindOf n == some .cell) then (n, NameKind.cell) else (n, k))) = some k := h
    cases hx : x == n with
    | true =>
      by_cases hq : (k1 == NameKind.free && env.scope.kind == .function && env.kindOf n == some .cell) = true
      · have : k1 = .free := by
          rw [Bool.and_eq_true, Bool.and_eq_true] at hq
          simpa using hq.1.1
        exact ⟨k1, by simp only [List.lookup_cons, hx], .inr this⟩
      · rw [if_neg hq] at h
        simp only [List.lookup_cons, hx] at h
        exact ⟨k1, by simp only [List.lookup_cons, hx], .inl (Option.some.inj h).symm⟩
    | false =>
      have h' : (r.map fun (n, k) => if (k == NameKind.free && env.scope.kind == .function && env.kindOf n == some .cell) then (n, NameKind.cell) else (n, k)).lookup x = some k := by
        by_cases hq : (k1 == NameKind.free && env.scope.kind == .function && env.kindOf n == some .cell) = true
        · rw [if_pos hq] at h; simp only [List.lookup_cons, hx] at h; exact h
        · rw [if_neg hq] at h; simp only [List.lookup_cons, hx] at h; exact h
      obtain ⟨k0, e, z⟩ := relabel_back h'
      exact ⟨k0, by simp only [List.lookup_cons, hx]; exact e, z⟩
def cxComp (X : Cx) (N : List Str) (scope : Scope) (cl : List (Str × Addr)) (C : Addr) (s : Shared) (H : Hp) (fp : List Addr) : Cx :=
  { X with N := N, s₀ := s, H₀ := H, env := compEnvC scope cl C X.env, outer := X.stack, ex := fp, fn := fun _ => false, pn := [], xe := fun _ _ => False }
structure CompOk (X : Cx) (scope : Scope) (ls ys : List Str) (ix : List Nat) : Prop where
  kind : scope.kind = .function
  nocellB : (scope.names.all fun y => y.2 != .cell) = true
  locB : (scope.names.all fun y => y.2 != .local || scope.names.lookup y.1 == some .local) = true
  freeB : (scope.names.all fun y => y.2 != .free || X.env.kindOf y.1 == some .cell) = true
  ylkB : (ys.all fun y => scope.names.lookup y == some .free) = true
  yix : ix.map (fun j => X.N[j]?) = ys.map some
section
variable {X : Cx} {scope : Scope} {ls ys : List Str} {ix : List Nat}
theorem CompOk.nocell (ok : CompOk X scope ls ys ix) : ∀ y ∈ scope.names, y.2 ≠ .cell := fun y hy => by
  simpa using List.all_eq_true.mp ok.nocellB y hy
theorem CompOk.loc (ok : CompOk X scope ls ys ix) : ∀ y ∈ scope.names, y.2 = .local → scope.names.lookup y.1 = some .local := fun y hy e => by
  have h := List.all_eq_true.mp ok.locB y hy
  rw [e] at h
  simpa using h
theorem CompOk.free (ok : CompOk X scope ls ys ix) : ∀ y ∈ scope.names, y.2 = .free → X.env.kindOf y.1 = some .cell := fun y hy e => by
  have h := List.all_eq_true.mp ok.freeB y hy
  rw [e] at h
  simpa using h
theorem CompOk.ylk (ok : CompOk X scope ls ys ix) : ∀ y ∈ ys, scope.names.lookup y = some .free := fun y hy => by
  simpa using List.all_eq_true.mp ok.ylkB y hy
end
def inSt (n : Nat) (ix : List Nat) (σ : St) : St := List.replicate n none ++ ix.map fun j => (σ[j]?).join
section
variable {X : Cx} {pins : List (Addr × Obj)} {σ : St} {H : Hp} {s : Shared} {scope : Scope} {ls ys : List Str} {ix : List Nat} {cl : List (Str × Addr)} {fp : List Addr}
theorem comp_in {h₁ : Heap} {tk : Nat} {m : Str → Option Value} (I : Inv X pins σ H s) (ok : CompOk X scope ls ys ix) (hcl1 : ∀ x c, cl.lookup x = some c → X.env.cells.lookup x = some c)
    (hcl2 : ∀ y ∈ scope.names, y.2 = .free → ∃ c, cl.lookup y.1 = some c) (f3 : ∀ b ∈ fp, FpOk X pins H b) (hob : ∀ b ∈ fp, b < s.heap.objs.size)
    (hns : h₁.Ns s.heap.objs.size m) (hk : ∀ b o, s.heap.get? b = some o → h₁.get? b = some o) :
    Inv (cxComp X (ls ++ ys) scope cl s.heap.objs.size s H fp) [] (inSt ls.length ix σ) H { s with heap := h₁, toks := tk } := by
  have hfree : ∀ x, scope.names.lookup x = some .free → X.env.kindOf x = some .cell := fun x e => ok.free (x, .free) (PySem.mem_of_lookup e) rfl
  refine ⟨⟨I.ok.mod, ok.kind, I.ok.glob, I.ok.blt, Nat.le_refl _, fun x y c h1 h2 => I.ok.inj x y c (hcl1 x c h1) (hcl1 y c h2), fun x hx => ?_, fun x c hx _ => absurd hx Bool.false_ne_true, I.ok.hd, I.ok.frames, .inl rfl,
    fun b hb => ⟨Nat.ne_of_lt (hob b hb), fun x c e => (f3 b hb).2.2.2.2.1 x c (hcl1 x c e)⟩, I.bs, Nat.le_trans I.ok.bsz I.sz, fun b o e hb => ?_, fun b hb z => ?_, I.stack, I.stkFree⟩,
    rfl, I.bare, Un.kept hk, ⟨m, hns, fun i x v h1 h2 h3 => ?_⟩, fun x c e => ?_, I.fresh, fun x c e => I.freeC x c (hcl1 x c e), fun p hp => absurd (show p ∈ ([] : List (Addr × Obj)) from hp) (by simp), I.hok.kept hk, ?_⟩
  · have e : ∃ k, (relabel scope X.env).names.lookup x = some k ∧ (k = .cell ∨ k = .free) := by
      rcases hx with hx | hx
      · exact ⟨_, hx, .inl rfl⟩
      · exact ⟨_, hx, .inr rfl⟩
    obtain ⟨k, e, hkk⟩ := e
    obtain ⟨k0, e0, z⟩ := relabel_back e
    have hm := PySem.mem_of_lookup e0
    have hk0 : k0 = .free := by
      rcases z with z | z
      · rcases hkk with q | q
        · exact absurd (z.symm.trans q) (ok.nocell _ hm)
        · exact z.symm.trans q
      · exact z
    exact hcl2 _ hm hk0
  · obtain ⟨q1, q2, q3, q4, _⟩ := f3 b hb
    rcases q4 with q4 | q4
    · exact I.ok.noex b o e q4
    · exact absurd (Nat.lt_of_lt_of_le (Heap.lt_size e) (Nat.le_trans I.ok.bsz q4)) (Nat.lt_irrefl _)
  · rcases List.mem_cons.mp (I.stkSub b z) with q | q
    · exact (f3 b hb).2.1 q
    · exact (f3 b hb).2.2.1 q
  · have h1 : (ls ++ ys)[i]? = some x := h1
    have h2 : (List.replicate ls.length none ++ ix.map fun j => (σ[j]?).join)[i]? = some (some v) := h2
    by_cases hi : i < ls.length
    · rw [List.getElem?_append_left (by rw [List.length_replicate]; exact hi), List.getElem?_replicate, if_pos hi] at h2
      cases h2
    · rw [List.getElem?_append_right (by rw [List.length_replicate]; omega), List.length_replicate, List.getElem?_map] at h2
      rw [List.getElem?_append_right (by omega)] at h1
      cases e : ix[i - ls.length]? with
      | none => rw [e] at h2; cases h2
      | some j =>
        rw [e] at h2
        have h2 : (σ[j]?).join = some v := Option.some.inj h2
        have hσ : σ[j]? = some (some v) := by
          cases q : σ[j]? with
          | none => rw [q] at h2; cases h2
          | some z => rw [q] at h2; exact congrArg some h2
        have hN : X.N[j]? = some x := by
          have q := congrArg (fun l => l[i - ls.length]?) ok.yix
          simp only [List.getElem?_map, e, h1, Option.map_some] at q
          exact Option.some.inj q
        have hl := ok.ylk x (List.mem_of_getElem? h1)
        have hc := hfree x hl
        obtain ⟨m', hn', hl'⟩ := I.loc
        obtain ⟨u, r, lk⟩ := hl' j x v hN hσ (.inr (.inl hc))
        refine ⟨u, r, ?_⟩
        rcases lk with ⟨lk, _⟩ | ⟨_, c, ec, z⟩
        · rw [hc] at lk; cases lk
        · obtain ⟨c', ec'⟩ := hcl2 _ (PySem.mem_of_lookup hl) rfl
          have ec2 : X.env.cells.lookup x = some c' := hcl1 x c' ec'
          rw [ec] at ec2
          cases ec2
          exact .inr ⟨.inl (relabel_free I.ok.kind hl hc), c, ec', z.keeps hk⟩
  · obtain ⟨v, z⟩ := I.cell x c (hcl1 x c e)
    exact ⟨v, z.keeps hk⟩
  · show (List.replicate ls.length none ++ ix.map fun j => (σ[j]?).join).length = (ls ++ ys).length
    have q := congrArg List.length ok.yix
    rw [List.length_map, List.length_map] at q
    rw [List.length_append, List.length_append, List.length_replicate, List.length_map, q]
end
def PF (X : Cx) (ifs : List Expr) (t : TT) : Prop :=
  ∀ (pins : List (Addr × Obj)) (s : Shared) (σ : St) (H : Hp) (Q : Bool → Hp → Prop), Inv X pins σ H s → t σ H Q →
    wpAny (model X.prog X.w) X.A (forIn ifs true fun c r => if r = true then do let ok ← isTrue c X.env (eval c X.env); pure (ForInStep.yield ok) else pure (ForInStep.yield r)) (TP X pins σ Q) X.xe s
def tYes : TT := fun _ H Q => Q true H
theorem pf_nil {X : Cx} : PF X [] tYes := fun _ _ _ H _ I h => wpAny_tests_nil ⟨H, I, h⟩
def lcW (σ0 : St) (g : TG) (tt : TT) (te : TE) (J : It) (H1 : Hp) (D : Addr) (Q : Hp → Prop) : Prop :=
  ∃ W : Nat → Nat → St → Hp → Prop, (∃ m, W 0 m σ0 (upd H1 D (.lst []))) ∧ ∀ i m τ H, W i m τ H →
    (J.stop i H ∧ Q H) ∨ (J.go i H ∧ ∃ N : St → Hp → Prop, (∀ τ' H', N τ' H' → ∃ m', m' < m ∧ W (i + 1) m' τ' H') ∧ ∀ x H', J.yld i H x H' → g x τ H' fun τ2 H2 => tt τ2 H2 fun b H3 =>
      if b = true then te τ2 H3 fun v H4 => ∃ acc, H4 D = some (.lst acc) ∧ acc.length < sizeLine ∧ N τ2 (upd H4 D (.lst (acc ++ [v]))) else N τ2 H3)
def tLc (wi : TI) (n : Nat) (ix : List Nat) (g : TG) (tt : TT) (te : TE) : TE := fun σ H Q => wi σ H fun J H1 => ∀ D, H1 D = none → lcW (inSt n ix σ) g tt te J H1 D fun H' => Q (.ref D) H'
def tLcSet (wi : TI) (n : Nat) (ix : List Nat) (g : TG) (tt : TT) (te : TE) (i : Nat) : TS := fun D σ H => tLc wi n ix g tt te σ H fun x H1 => D.nx (σ.set i (some x)) H1
section
variable {X : Cx} {scope : Scope} {ls ys : List Str} {ix : List Nat} {tg iter elt : Expr} {ifs : List Expr} {pos : Pos} {wi : TI} {g : TG} {tt : TT} {te : TE}
theorem comp_run {pins : List (Addr × Obj)} {σ : St} {H1 : Hp} {s : Shared} {J : It} {it : Addr} {fp : List Addr} {tn : Nat → Heap → Prop} {cl : List (Str × Addr)} {Q : Addr → Hp → Prop} {R : Value → Addr → Result → Shared → Prop} {E : Value → Shared → Prop} (hc : X.calm = true)
    (ok : CompOk X scope ls ys ix) (I : Inv X pins σ H1 s) (T : Turn X.prog X.w X.K tg J fp it tn) (st : tn 0 s.heap) (f2 : ∀ b ∈ fp, FpOk X pins H1 b)
    (hcl1 : ∀ x c, cl.lookup x = some c → X.env.cells.lookup x = some c) (hcl2 : ∀ y ∈ scope.names, y.2 = .free → ∃ c, cl.lookup y.1 = some c)
    (hg : ∀ cl C s H fp, PG (cxComp X (ls ++ ys) scope cl C s H fp) tg g) (ht : ∀ cl C s H fp, PF (cxComp X (ls ++ ys) scope cl C s H fp) ifs tt) (he : ∀ cl C s H fp, PE (cxComp X (ls ++ ys) scope cl C s H fp) elt te)
    (hJ : ∀ D, H1 D = none → lcW (inSt ls.length ix σ) g tt te J H1 D (Q D))
    (hR : ∀ D C H' s', Q D H' → Inv X pins σ H' s' → H' C = none → FpOk X pins H' C → (∃ m, s'.heap.Ns C m) → R (.ref D) C (.ok .next) s') :
    wpAny (model X.prog X.w) X.A (newList []) (fun acc s₃ => wpAny (model X.prog X.w) X.A (newFunctionEnv scope X.env.globals cl [] X.env.qual none .none (some X.env)) (fun cenv s₄ =>
      codeAny (model X.prog X.w) X.A (.compStart (.ListComp elt [⟨tg, iter, ifs, 0⟩] scope pos) 0 (.ref it) acc { cenv with scope := relabel scope X.env }) (R acc cenv.locals) s₄) E s₃) E s := by
  have hfp : ∀ b ∈ fp, b < s.heap.objs.size := fun b hb => by
    obtain ⟨o, e, _⟩ := T.obj _ _ st b hb
    exact Heap.lt_size e
  have I3 := I.lnew (ys := []) (its := []) (t' := s.toks) .nil (Nat.zero_le _)
  have hD : H1 s.heap.objs.size = none := I.fresh
  obtain ⟨W, ⟨m0, w0⟩, turn⟩ := hJ s.heap.objs.size hD
  refine wpAny_newObj_type (wpAny_newFunctionEnv ok.nocell (by intro y hy; simp at hy) (fun h₁ hns hsb => ?_) ok.kind)
  generalize hs3 : ({ s with heap := s.heap.push { cls := .type "list", data := .seq ([] : List Value).toArray }, toks := s.toks } : Shared) = s3 at I3
  have e3 : s.heap.push { cls := .type "list", dict := none, data := .seq ([] : List Value).toArray } = s3.heap := by rw [← hs3]
  have e3' : ({ s with heap := s.heap.push { cls := .type "list", dict := none, data := .seq ([] : List Value).toArray } } : Shared) = s3 := by rw [← hs3]
  generalize hH3 : upd H1 s.heap.objs.size (.lst []) = H3 at I3 w0
  have hsz : s3.heap.objs.size = s.heap.objs.size + 1 := by rw [← e3, Heap.size_push]
  have up3 : ∀ b o, s.heap.get? b = some o → s3.heap.get? b = some o := fun b o e => by rw [← e3]; exact Heap.get?_push_of_some _ e
  have f3 : ∀ b ∈ fp, FpOk X pins H3 b := fun b hb => by
    refine ⟨?_, (f2 b hb).2⟩
    rw [← hH3, upd_ne (Nat.ne_of_lt (hfp b hb))]
    exact (f2 b hb).1
  have hns : h₁.Ns s3.heap.objs.size (fun x => ([] : List (Str × Value)).reverse.lookup x) := by rw [← e3]; exact hns
  have hsb : Heap.SameBut s3.heap.objs.size (s3.heap.push { cls := .type (if (some X.env).isSome then "dict" else "frame"), data := .dict #[] }) h₁ := by rw [← e3]; exact hsb
  have up4 : ∀ b o, s3.heap.get? b = some o → h₁.get? b = some o := fun b o e => hsb.extBut b o (Nat.ne_of_lt (Heap.lt_size e)) (Heap.get?_push_of_some _ e)
  have Ic := comp_in (tk := s3.toks) I3 ok hcl1 hcl2 f3 (fun b hb => by rw [hsz]; exact Nat.lt_succ_of_lt (hfp b hb)) hns up4
  have stat : ∀ {H' : Hp} {pl : List (Addr × Obj)}, (∀ b ∈ fp, H' b = none) → pl = [] → ∀ b ∈ fp, FpOk (cxComp X (ls ++ ys) scope cl s3.heap.objs.size s3 H3 fp) pl H' b := fun {H' pl} hn hpl b hb => by
    subst hpl
    refine ⟨hn b hb, Nat.ne_of_lt (by rw [show (cxComp X (ls ++ ys) scope cl s3.heap.objs.size s3 H3 fp).env.locals = s3.heap.objs.size from rfl, hsz]; exact Nat.lt_succ_of_lt (hfp b hb)), Ic.ok.exfs b hb, .inl hb, fun x c e => (f3 b hb).2.2.2.2.1 x c (hcl1 x c e), fun p hp => absurd (show p ∈ ([] : List (Addr × Obj)) from hp) (by simp)⟩
  have loop : codeAny (model X.prog X.w) X.A (.compLoop (.ListComp elt [⟨tg, iter, ifs, 0⟩] scope pos) 0 (.ref it) (.ref s.heap.objs.size) (compEnvC scope cl s3.heap.objs.size X.env)) (R (.ref s.heap.objs.size) s3.heap.objs.size) { s3 with heap := h₁, toks := s3.toks } := by
    refine compLoop_go (fun n s' => ∃ i τ H', Inv (cxComp X (ls ++ ys) scope cl s3.heap.objs.size s3 H3 fp) [] τ H' s' ∧ tn i s'.heap ∧ (∀ b ∈ fp, H' b = none) ∧ W i n τ H') (fun _ _ => False) (fun _ _ h => h.elim) ?_ m0
      ⟨0, inSt ls.length ix σ, H3, Ic, T.keep _ _ _ st (fun b _ o e => up4 b o (up3 b o e)), fun b hb => (f3 b hb).1, w0⟩
    rintro n s4 ⟨i, τ, H4, I4, st4, fr4, w4⟩
    rcases turn i n τ H4 w4 with ⟨stop, qn⟩ | ⟨go, N, hN, step⟩
    · refine thn (T.done (cxComp X (ls ++ ys) scope cl s3.heap.objs.size s3 H3 fp) rfl rfl rfl hc i [] s4 τ H4 (fun _ _ => False) I4 (stat fr4 rfl) st4 stop) fun r s5 ⟨hr, I5⟩ => ?_
      subst hr
      have Io : Inv X pins σ H4 s5 := I3.call' (ch := fp) I5.os I5.base I5.hok I5.bare fun b hb => ⟨(f3 b hb).2.2.2.1, (f3 b hb).2.1, (f3 b hb).2.2.2.2.1, (f3 b hb).2.2.2.2.2⟩
      obtain ⟨m5, n5, _⟩ := I5.loc
      have hC : H4 s3.heap.objs.size = none := I5.free
      exact hR _ _ H4 s5 qn Io hC (I3.fpOk (Nat.le_refl _) hC) ⟨m5, n5⟩
    · refine thn (T.item (cxComp X (ls ++ ys) scope cl s3.heap.objs.size s3 H3 fp) rfl rfl rfl hc i [] s4 τ H4 (fun _ _ => False) I4 (stat fr4 rfl) st4 go) fun r s5 ⟨u, hr, h5⟩ => ?_
      subst hr
      refine thn h5 fun _ s6 ⟨x, H6, I6, r6, y6, st6, fr6⟩ => ?_
      have I6' := I6.pinned (stat fr6 rfl) (T.obj _ _ st6)
      have fin : ∀ {τ7 : St} {H7 : Hp} {s7 : Shared}, Inv (cxComp X (ls ++ ys) scope cl s3.heap.objs.size s3 H3 fp) ([] ++ pinsAt fp s6.heap) τ7 H7 s7 → N τ7 H7 → ∃ m, m < n ∧ ∃ i τ H', Inv (cxComp X (ls ++ ys) scope cl s3.heap.objs.size s3 H3 fp) [] τ H' s7 ∧ tn i s7.heap ∧ (∀ b ∈ fp, H' b = none) ∧ W i m τ H' := fun {τ7 H7 s7} I7 n7 => by
        obtain ⟨m', hm, w7⟩ := hN τ7 H7 n7
        refine ⟨m', hm, i + 1, τ7, H7, I7.unpinned, T.keep _ _ _ st6 fun b hb o e => (I7.pin (b, o) (List.mem_append_right _ (List.mem_append_right _ (mem_pinsAt hb e)))).1, fun b hb => ?_, w7⟩
        obtain ⟨o, e, d⟩ := T.obj _ _ st6 b hb
        exact (I7.pin (b, o) (List.mem_append_right _ (List.mem_append_right _ (mem_pinsAt hb e)))).2.1
      refine thn (hg _ _ _ _ _ _ s6 τ H6 x u _ I6' r6 (step x H6 y6)) fun _ s7 ⟨τ7, H7, I7, q7⟩ => ?_
      refine thn (ht _ _ _ _ _ _ s7 τ7 H7 _ I7 q7) fun b s8 ⟨H8, I8, q8⟩ => ?_
      cases b with
      | false =>
        rw [if_neg Bool.false_ne_true] at q8 ⊢
        exact fin I8 q8
      | true =>
        rw [if_pos rfl] at q8 ⊢
        refine thn (he _ _ _ _ _ _ s8 τ7 H8 _ I8 q8) fun y s9 ⟨v, H9, I9, r9, acc, hacc, hlen, n9⟩ => ?_
        exact thn (mt_append _ s9 τ7 H9 (.ref s.heap.objs.size) [v] (.ref s.heap.objs.size) [y] (fun _ H' => N τ7 H') I9 rfl (.cons r9 .nil) ⟨_, acc, v, rfl, rfl, hacc, hlen, n9⟩) fun _ s10 ⟨_, H10, I10, _, n10⟩ => fin I10 n10
  exact codeAny_compStart_list loop (T.self _ 0 _ _ _ (T.keep _ _ _ st (fun b _ o e => up4 b o (up3 b o e))) loop)
theorem pe_lc (hc : X.calm = true) (ok : CompOk X scope ls ys ix) (hi : PI X tg iter wi)
    (hg : ∀ cl C s H fp, PG (cxComp X (ls ++ ys) scope cl C s H fp) tg g) (ht : ∀ cl C s H fp, PF (cxComp X (ls ++ ys) scope cl C s H fp) ifs tt) (he : ∀ cl C s H fp, PE (cxComp X (ls ++ ys) scope cl C s H fp) elt te)
    (hs : ∀ x, foldedSetIterable iter X.env x = pure x := by intro _; rfl) : PE X (.ListComp elt [⟨tg, iter, ifs, 0⟩] scope pos) (tLc wi ls.length ix g tt te) := by
  intro pins s σ H Q I h
  obtain ⟨cl, hclos, hcl1, hcl2⟩ := closure_ok (scope := scope) (env := X.env) fun y hy hf => I.ok.has y.1 (.inl (ok.free y hy hf))
  rw [eval_ListComp]
  refine wpAny_comprehension_free (use := none) rfl hs hclos ok.kind ok.loc (thn (hi pins s σ H _ I h) fun v s1 h1 => thn h1 fun itv s2 h2 => ?_)
  obtain ⟨it, fp, tn, J, H2, rfl, I2, T, st2, f2, hJ⟩ := h2
  refine comp_run (R := fun acc C => compPost (model X.prog X.w) X.A X.xe none (EP X pins σ Q) acc C) hc ok I2 T st2 f2 hcl1 hcl2 hg ht he hJ fun D C H' s' q I' hC fC hm => ?_
  obtain ⟨m, hn⟩ := hm
  refine ⟨m, hn, fun h' hsb => ⟨.ref D, H', ?_, rfl, q⟩⟩
  exact I'.turned (t' := s'.toks) (fun b o hb e => (hsb.2 b hb).trans e) hC fC.2.1 fC.2.2.2.1 fC.2.2.2.2.1 fC.2.2.2.2.2
theorem ps_lcset {i : Nat} {x : Str} {spos px : Pos} (hc : X.calm = true) (hN : X.N.Nodup) (hxi : X.N[i]? = some x) (hx : Loc X.env.scope x) (ok : CompOk X scope ls ys ix) (hi : PI X tg iter wi)
    (hg : ∀ cl C s H fp, PG (cxComp X (ls ++ ys) scope cl C s H fp) tg g) (ht : ∀ cl C s H fp, PF (cxComp X (ls ++ ys) scope cl C s H fp) ifs tt) (he : ∀ cl C s H fp, PE (cxComp X (ls ++ ys) scope cl C s H fp) elt te)
    (hs : ∀ x, foldedSetIterable iter X.env x = pure x := by intro _; rfl) (hsw : swapsWith (.ListComp elt [⟨tg, iter, ifs, 0⟩] scope pos) (some (.Name x px)) spos.line X.env = pure true := by rfl)
    (hf : X.fn x = true ∨ X.env.scope.names.lookup x = some .local := by first | exact .inl rfl | exact .inr rfl | assumption) :
    PS X (.Assign [.Name x px] (.ListComp elt [⟨tg, iter, ifs, 0⟩] scope pos) spos) (tLcSet wi ls.length ix g tt te i) := by
  intro pins s σ H D I h
  obtain ⟨cl, hclos, hcl1, hcl2⟩ := closure_ok (scope := scope) (env := X.env) fun y hy hf => I.ok.has y.1 (.inl (ok.free y hy hf))
  rw [exec_Assign_Name_used _ _ _ _ hsw]
  refine wpAny_bind (wpAny_standAt (wpAny_bind ?_))
  show wpAny _ X.A (do let _ ← comprehension (.ListComp elt [⟨tg, iter, ifs, 0⟩] scope pos) scope X.env _ (newList []) false (eval iter X.env) (some (assign (.Name x px) X.env))) _ _ s
  refine wpAny_bind (wpAny_mono (wpAny_comprehension_free (use := some (assign (.Name x px) X.env)) (Q := fun _ s' => ∃ σ' H', Inv X pins σ' H' s' ∧ D.nx σ' H') rfl hs hclos ok.kind ok.loc
    (thn (hi pins s σ H _ I h) fun v s1 h1 => thn h1 fun itv s2 h2 => ?_)) (fun _ s' hq => wpAny_pure (wpAny_pure hq)) fun _ _ e => e)
  obtain ⟨it, fp, tn, J, H2, rfl, I2, T, st2, f2, hJ⟩ := h2
  refine comp_run (R := fun acc C => compPost (model X.prog X.w) X.A X.xe (some (assign (.Name x px) X.env)) (fun _ s' => ∃ σ' H', Inv X pins σ' H' s' ∧ D.nx σ' H') acc C) hc ok I2 T st2 f2 hcl1 hcl2 hg ht he hJ fun Da C H' s' q I' hC fC hm => ?_
  obtain ⟨m, hn⟩ := hm
  show wpAny _ X.A (assign (.Name x px) X.env (.ref Da)) _ _ s'
  refine wpAny_assign_Name (store_ok2 (v := .ref Da) I' hN hxi hx rfl (fun s2 I3 hz => ?_) hf)
  obtain ⟨a, sb, ha⟩ := hz
  have hCa : C ≠ a := by
    rcases ha with ha | ha
    · rw [ha]; exact fC.2.1
    · exact Ne.symm (fC.2.2.2.2.1 x a ha)
  refine ⟨m, hn.sameBut sb hCa, fun h' hsb => ⟨_, H', ?_, q⟩⟩
  exact I3.turned (t' := s2.toks) (fun b o hb e => (hsb.2 b hb).trans e) hC fC.2.1 fC.2.2.2.1 fC.2.2.2.2.1 fC.2.2.2.2.2
end
end L2
namespace L2
open PySem PySem.Spec PyProof.Rows
def Ev (t : TE) (σ : St) (H : Hp) (v : V) : Prop := ∀ Q : VK, Q v H → t σ H Q
def EvT (t : TT) (σ : St) (H : Hp) (b : Bool) : Prop := ∀ Q : Bool → Hp → Prop, Q b H → t σ H Q
def EvA (t : TA) (σ : St) (H : Hp) (vs : List V) : Prop := ∀ Q : List V → Hp → Prop, Q vs H → t σ H Q
section
variable {σ : St} {H : Hp} {ta tb tc te : TE} {t u : TT} {i j k : Int} {a b c : Bool} {v x y : V} {K : PySem.W.Frag}
theorem ev_c : Ev (tC v) σ H v := fun _ q => q
theorem ev_var {n : Nat} (h : σ[n]? = some (some v)) : Ev (tVar n) σ H v := fun _ q => ⟨v, h, q⟩
theorem ev_I0 {g : Int → Int → V} (ha : Ev ta σ H (.int i)) (hb : Ev tb σ H (.int j)) : Ev (tOp (rI0 g) ta tb) σ H (g i j) := fun _ q => ha _ (hb _ ⟨i, j, rfl, rfl, q⟩)
theorem ev_lt (ha : Ev ta σ H (.int i)) (hb : Ev tb σ H (.int j)) : Ev (tOp (rI0 fun i j => .bl (decide (i < j))) ta tb) σ H (.bl (decide (i < j))) := ev_I0 (g := fun i j => .bl (decide (i < j))) ha hb
theorem ev_I {C : Int → Int → Prop} {g : Int → Int → V} (ha : Ev ta σ H (.int i)) (hb : Ev tb σ H (.int j)) (hc : C i j) : Ev (tOp (rI C g) ta tb) σ H (g i j) := fun _ q => ha _ (hb _ ⟨i, j, rfl, rfl, hc, q⟩)
theorem ev_eqI (ha : Ev ta σ H (.int i)) (hb : Ev tb σ H (.int j)) : Ev (tOp rEq ta tb) σ H (.bl (decide (i = j))) := fun Q q => ha _ (hb _ ⟨rfl, by
  have e : decide (V.int i = V.int j) = decide (i = j) := by rw [dec_int]; rfl
  rw [e]; exact q⟩)
theorem ev_neI (ha : Ev ta σ H (.int i)) (hb : Ev tb σ H (.int j)) : Ev (tOp rNe ta tb) σ H (.bl (!decide (i = j))) := fun Q q => ha _ (hb _ ⟨rfl, by
  have e : decide (V.int i = V.int j) = decide (i = j) := by rw [dec_int]; rfl
  rw [e]; exact q⟩)
theorem ev_and (ha : Ev ta σ H (.bl a)) (hb : a = true → Ev tb σ H (.bl b)) : Ev (tAndV ta tb) σ H (.bl (a && b)) := fun Q z => by
  refine ha _ ⟨a, rfl, ?_⟩
  cases a with
  | true => rw [if_pos rfl]; exact hb rfl _ z
  | false => rw [if_neg Bool.false_ne_true]; exact z
theorem ev_ixT {p : Addr} {xs : List V} (ha : Ev ta σ H (.ref p)) (hb : Ev tb σ H (.int i)) (hs : SqT K H p xs) (he : atI xs i = some v) : Ev (tOp (rIxT K) ta tb) σ H v := fun _ q => ha _ (hb _ ⟨p, xs, i, v, rfl, rfl, hs, he, q⟩)
theorem ev_ixL {p : Addr} {xs : List V} (ha : Ev ta σ H (.ref p)) (hb : Ev tb σ H (.int i)) (hs : SqL K H p xs) (he : atI xs i = some v) : Ev (tOp (rIxL K) ta tb) σ H v := fun _ q => ha _ (hb _ ⟨p, xs, i, v, rfl, rfl, hs, he, q⟩)
theorem ev_ltT {p q : Addr} {ns ms : List Int} (ha : Ev ta σ H (.ref p)) (hb : Ev tb σ H (.ref q)) (h1 : SqT K H p (ns.map V.int)) (h2 : SqT K H q (ms.map V.int)) : Ev (tOp (rLtT K) ta tb) σ H (.bl (HT.lexLt ns ms)) := fun _ z => ha _ (hb _ ⟨p, q, ns, ms, rfl, rfl, h1, h2, z⟩)
theorem ev_cb {r : List V → Hp → VK → Prop} {vs : List V} {t : TA} (ha : EvA t σ H vs) (hs : ∀ Q : VK, Q v H → r vs H Q) : Ev (tCB r t) σ H v := fun Q q => ha _ (hs Q q)
theorem ea_nil : EvA tNil σ H [] := fun _ q => q
theorem ea_cons {t : TA} {vs : List V} (ha : Ev ta σ H v) (hr : EvA t σ H vs) : EvA (tCons ta t) σ H (v :: vs) := fun _ q => ha _ (hr _ q)
theorem et_test (h : Ev te σ H (.bl b)) : EvT (tTest te) σ H b := fun _ q => h _ ⟨b, rfl, q⟩
theorem et_B (h : Ev te σ H (.bl b)) : EvT (tB te) σ H b := fun _ q => h _ ⟨b, rfl, q⟩
theorem et_not (h : EvT t σ H b) : EvT (tNot t) σ H (!b) := fun _ q => h _ q
theorem et_and (ha : EvT t σ H a) (hb : a = true → EvT u σ H b) : EvT (tAnd t u) σ H (a && b) := fun Q z => by
  refine ha _ ?_
  cases a with
  | true => rw [if_pos rfl]; exact hb rfl _ z
  | false => rw [if_neg Bool.false_ne_true]; exact z
theorem et_or (ha : EvT t σ H a) (hb : a = false → EvT u σ H b) : EvT (tOr t u) σ H (a || b) := fun Q z => by
  refine ha _ ?_
  cases a with
  | true => rw [if_pos rfl]; exact z
  | false => rw [if_neg Bool.false_ne_true]; exact hb rfl _ z
theorem rd_if {tc : TT} {t u : TS} {D : Ends} (h : EvT tc σ H b) (h1 : b = true → t D σ H) (h2 : b = false → u D σ H) : tIfS tc t u D σ H := by
  refine h _ ?_
  cases b with
  | true => rw [if_pos rfl]; exact h1 rfl
  | false => rw [if_neg Bool.false_ne_true]; exact h2 rfl
theorem rd_ifF {tc : TT} {t u : TS} {D : Ends} (h : EvT tc σ H b) (hb : b = false) (h2 : u D σ H) : tIfS tc t u D σ H := rd_if h (fun e => absurd (hb.symm.trans e) Bool.false_ne_true) fun _ => h2
theorem rd_ifT {tc : TT} {t u : TS} {D : Ends} (h : EvT tc σ H b) (hb : b = true) (h1 : t D σ H) : tIfS tc t u D σ H := rd_if h (fun _ => h1) fun e => absurd (e.symm.trans hb) Bool.false_ne_true
theorem rd_set {n : Nat} {D : Ends} (h : Ev te σ H v) (q : D.nx (σ.set n (some v)) H) : tAsg te (gName n) D σ H := h _ q
theorem rd_ret {D : Ends} (h : Ev te σ H v) (q : D.rt v H) : tRet te D σ H := h _ q
end
theorem bt_len : bootBuiltins "len" = some (.builtin "len") := by decide +kernel
theorem bt_range : bootBuiltins "range" = some (.type "range") := by decide +kernel
theorem bt_isinstance : bootBuiltins "isinstance" = some (.builtin "isinstance") := by decide +kernel
theorem bt_int : bootBuiltins "int" = some (.type "int") := by decide +kernel
theorem bt_bool : bootBuiltins "bool" = some (.type "bool") := by decide +kernel
theorem bt_tuple : bootBuiltins "tuple" = some (.type "tuple") := by decide +kernel
theorem bt_list : bootBuiltins "list" = some (.type "list") := by decide +kernel
theorem bt_max : bootBuiltins "max" = some (.builtin "max") := by decide +kernel
theorem bt_min : bootBuiltins "min" = some (.builtin "min") := by decide +kernel
theorem bt_abs : bootBuiltins "abs" = some (.builtin "abs") := by decide +kernel
theorem bt_sorted : bootBuiltins "sorted" = some (.builtin "sorted") := by decide +kernel
theorem st {t : TS} {D : Ends} {σ : St} {H : Hp} {r : VK} {b c : St → Hp → Prop} (h : t D σ H) : ({ nx := t D, rt := r, bk := b, ct := c } : Ends).nx σ H := h
section
variable {σ : St} {H : Hp} {te : TE} {tc : TT} {t u : TS} {ta : TA} {D : Ends} {b : Bool} {v : V} {vs : List V} {n : Nat} {K : PySem.W.Frag}
theorem sq_set (h : Ev te σ H v) (q : u D (σ.set n (some v)) H) : tSeq (tAsg te (gName n)) u D σ H := h _ q
theorem sq_ifF (h : EvT tc σ H b) (hb : b = false) (q : u D σ H) : tSeq (tIfS tc t tNext) u D σ H := rd_ifF (D := { D with nx := u D }) h hb q
theorem sq_if (h : EvT tc σ H b) (h1 : b = true → t { D with nx := u D } σ H) (h2 : b = false → u D σ H) : tSeq (tIfS tc t tNext) u D σ H := rd_if (D := { D with nx := u D }) h h1 h2
theorem sq_tup (h : EvA ta σ H vs) (hz : vs.length ≤ sizeLine) (q : ∀ p, H p = none → u D (σ.set n (some (.ref p))) (upd H p (.tup vs))) : tSeq (tAsg (tTup ta) (gName n)) u D σ H := h _ ⟨hz, q⟩
theorem sq_ifof (q : tc σ H fun b H1 => if b = true then t { D with nx := u D } σ H1 else u D σ H1) : tSeq (tIfS tc t tNext) u D σ H := q
theorem sq_cal {sp : Sp} (h : EvA ta σ H vs) (q : sp vs H (fun v H1 => u D (σ.set n (some v)) H1) E0) : tSeq (tAsg (tCall sp [] E0 ta) (gName n)) u D σ H := h _ (by rw [List.append_nil]; exact q)
theorem gn {Q : St → Hp → Prop} (q : Q (σ.set n (some v)) H) : gName n v σ H Q := q
end
structure Callee (P : Program) (w : World) (K : PySem.W.Frag) (mg : Str → Option Value) (base : Heap) (x : Str) (k : Nat) (ps : List Str) (sp : Sp) : Prop where
  ex : ∃ f fd, FnOk P w K mg base CX0 k f fd ps sp ∧ mg x = some (.ref f) ∧ PySem.W.keepIn K (.ref f) = true ∧ Binds K fd ps []
theorem pe_cal {X : Cx} {x : Str} {k : Nat} {ps : List Str} {sp : Sp} {p pos : Pos} {e : Expr} {es : List Expr} {t : TA} (C : Callee X.prog X.w X.K X.mg X.base x k ps sp) (hr : Room k X.A) (hg : Gl X x) (ha : PA X (e :: es) t)
    (hdb : (x == ("__debug__" : Str)) = false := by decide) (he : starEach (e :: es) X.env = (false, eval e X.env) :: starEach es X.env := by rfl) (hpl : (backTo pos (starEach es X.env)).any (·.1) = false := by rfl) :
    PE X (.Call (.Name x p) (e :: es) [] pos) (tCall sp [] E0 t) := by
  obtain ⟨f, fd, G, hm, hk, hb⟩ := C.ex
  exact pe_call G hr hg hm hk hb .nil pass0 ha hdb he hpl
theorem SqT.same {K : PySem.W.Frag} {H H' : Hp} {a : Addr} {xs : List V} (e : Same H H') (h : SqT K H a xs) : SqT K H' a xs := by
  rcases h with (h | ⟨o, h⟩) | h
  · exact .inl (.inl (e _ _ h))
  · exact .inl (.inr ⟨o, e _ _ h⟩)
  · exact .inr h
theorem Same.upd {H H' : Hp} (e : Same H H') {p : Addr} {o : HO} (hp : H' p = none) : Same H (upd H' p o) := fun b u h => by
  rw [upd_ne (ne_of_none (e b u h) hp)]
  exact e b u h
end L2
namespace L2
open PySem PySem.Spec PyProof.Rows
def Itrs (lo st : Int) (n : Nat) : It := ⟨fun i _ => i < n, fun i H x H' => H' = H ∧ x = .int (lo + i * st), fun i _ => n ≤ i⟩
theorem turn_rangeS {P : Program} {w : World} {K : PySem.W.Frag} {tg : Expr} (it : Addr) (lo st : Int) (n : Nat) : Turn P w K tg (Itrs lo st n) [it] it (fun i h => IsRangeIter h it (lo + (i : Nat) * st) ((n : Int) - (i : Nat)) st) where
  mem := by simp
  obj := fun i h st b hb => by
    have e : b = it := by simpa using hb
    subst e
    exact ⟨_, st, fun v z => by
      have z' : Data.fields _ = Data.cell v := z
      cases z'⟩
  keep := fun i h h' st k => k it (by simp) _ st
  item := by
    intro X hP hw hK hc i pins s σ H E I hf hst hg
    subst hP hw hK
    obtain ⟨f0, f1, f2, f3, f4, f5⟩ := hf it (by simp)
    have W := Walks.range (prog := X.prog) (w := X.w) (I.ok.hd hc) it lo st n
    refine W.item i s _ _ hg hst fun v h' tk hv st' kk => ?_
    obtain ⟨t, rfl⟩ := hv
    have I1 : Inv X pins σ H { s with heap := h', toks := tk } := I.turned (fun b o hb e => kk b o (by simpa using hb) e) f0 f1 f3 f4 f5
    exact ⟨_, rfl, go_of (s := { s with heap := h', toks := tk }) (n := "range_iterator") st' rfl rfl (by decide) ⟨.int (lo + i * st), H, I1, ⟨t, rfl⟩, ⟨rfl, rfl⟩, st', fun b hb => (hf b hb).1⟩⟩
  done := by
    intro X hP hw hK hc i pins s σ H E I hf hst hg
    subst hP hw hK
    obtain ⟨f0, f1, f2, f3, f4, f5⟩ := hf it (by simp)
    exact wpAny_pyNext_range_end (I.ok.hd hc) hst (by have : n ≤ i := hg; omega) fun h' eb => ⟨rfl, I.turned (t' := s.toks) (fun b o hb e => eb b o hb e) f0 f1 f3 f4 f5⟩
  self := fun _ _ _ _ _ st h => wpAny_pyIter_rangeiter st h
def rngN (lo hi st : Int) : Nat := if lo < hi then ((hi - lo - 1) / st + 1).toNat else 0
section
variable {X : Cx} {tg : Expr}
theorem rangeSize_pos {a b c : Int} (hc : 0 < c) : Builtin.Range.rangeSize a b c = (rngN a b c : Int) := by
  unfold Builtin.Range.rangeSize rngN
  rw [if_pos hc]
  split
  · have : 0 ≤ (b - a - 1) / c := Int.ediv_nonneg (by omega) (by omega)
    omega
  · rfl
theorem small_pos {a b c : Int} (h1 : -(2 ^ 60) ≤ a) (h2 : a < 2 ^ 60) (h3 : -(2 ^ 60) ≤ b) (h4 : b < 2 ^ 60) (h5 : 0 < c) (h6 : c < 2 ^ 60) : Builtin.Range.small a b c = true := by
  have hq : (rngN a b c : Int) ≤ 2 ^ 62 := by
    unfold rngN
    split
    · have g1 : (b - a - 1) / c ≤ b - a - 1 := Int.ediv_le_self _ (by omega)
      have g2 : 0 ≤ (b - a - 1) / c := Int.ediv_nonneg (by omega) (by omega)
      omega
    · decide
  unfold Builtin.Range.small
  rw [rangeSize_pos h5]
  simp only [Builtin.Range.rangeFitsLong, Bool.and_eq_true, Bool.or_eq_true, decide_eq_true_eq, beq_iff_eq, if_pos (show c > 0 from h5)]
  omega
def iRng3 (ta : TA) : TI := fun σ H R => ta σ H fun vs H1 => ∃ i j k : Int, vs = [.int i, .int j, .int k] ∧ (-(2 ^ 60) ≤ i ∧ i < 2 ^ 60 ∧ -(2 ^ 60) ≤ j ∧ j < 2 ^ 60 ∧ 0 < k ∧ k < 1000000) ∧ R (Itrs i k (rngN i j k)) H1
theorem pi_range3 {a b c : Expr} {ta : TA} {p pos : Pos} (hg : Gl X "range") (hm : X.mg "range" = none) (ha : PA X [a, b, c] ta) (hs : starEach [a, b, c] X.env = [(false, eval a X.env), (false, eval b X.env), (false, eval c X.env)] := by rfl)
    (hs2 : starEach [b, c] X.env = [(false, eval b X.env), (false, eval c X.env)] := by rfl) : PI X tg (.Call (.Name "range" p) [a, b, c] [] pos) (iRng3 ta) := by
  intro pins s σ H R I h
  refine Call_ (ld_blt I hg hm boot_range (PyProof.Rows.callWith_type1 (thn (ha pos pins s σ H _ I h) fun us s1 ⟨vs, H1, I1, r1, q1⟩ => ?_) (by rw [hs, hs2]) (by rw [hs2]; rfl)))
  obtain ⟨i, j, k, e, ⟨q1, q2, q3, q4, q5, q6⟩, q⟩ := q1
  subst e
  cases r1 with
  | cons r rr =>
    cases rr with
    | cons r' rr =>
      cases rr with
      | cons r'' rr =>
        cases rr
        obtain ⟨t, rfl⟩ := r
        obtain ⟨t', rfl⟩ := r'
        obtain ⟨t'', rfl⟩ := r''
        refine call_range_3 (by omega) ?_ (Or.inl (PyProof.noPylong_small (by omega)))
        refine wpAny_pyIter_range (IsRange.new ..) (small_pos q1 q2 q3 q4 q5 (by omega)) ?_
        generalize hs1 : ({ s1 with heap := s1.heap.push { cls := .type "range", data := .fields #[.int i t, .int j t', .int k t''] }, toks := s1.toks } : Shared) = s2
        have I2 : Inv X pins σ H1 s2 := by rw [← hs1]; exact I1.kept fun b o e => Heap.get?_push_of_some _ e
        have e2 : s2.heap = s1.heap.push { cls := .type "range", data := .fields #[.int i t, .int j t', .int k t''] } := by rw [← hs1]
        refine ⟨s2.heap.objs.size, [s2.heap.objs.size], _, _, H1, rfl, ?_, turn_rangeS _ i k (rngN i j k), ?_, fun b hb => ?_, q⟩
        · subst hs1
          exact I2.kept (t' := s1.toks) fun b o e => Heap.get?_push_of_some _ e
        · show IsRangeIter _ _ (i + ((0 : Nat) : Int) * k) ((rngN i j k : Int) - ((0 : Nat) : Int)) k
          rw [show i + ((0 : Nat) : Int) * k = i by simp, show (rngN i j k : Int) - ((0 : Nat) : Int) = Builtin.Range.rangeSize i j k by rw [rangeSize_pos q5]; simp]
          exact Heap.get?_push_size _ rfl
        · have e : b = s2.heap.objs.size := by simpa using hb
          subst e
          exact I2.fpOk (Nat.le_refl _) (I2.hok.fresh (Nat.le_refl _))
theorem for_rangeS {lo st : Int} {n : Nat} {g : TG} {tb : TS} {D : Ends} {σ : St} {H : Hp} (Pv : Nat → St → Hp → Prop) (h0 : Pv 0 σ H)
    (hs : ∀ i σ H, i < n → Pv i σ H → g (.int (lo + i * st)) σ H fun σ2 H2 => tb { D with nx := Pv (i + 1), ct := Pv (i + 1), bk := D.nx } σ2 H2) (hd : ∀ σ H, Pv n σ H → D.nx σ H) :
    ∃ W : Nat → Nat → St → Hp → Prop, (∃ m, W 0 m σ H) ∧ ∀ i m σ H, W i m σ H →
      ((Itrs lo st n).stop i H ∧ D.nx σ H) ∨ ((Itrs lo st n).go i H ∧ ∃ N : St → Hp → Prop, (∀ σ' H', N σ' H' → ∃ m', m' < m ∧ W (i + 1) m' σ' H') ∧ ∀ x H', (Itrs lo st n).yld i H x H' → g x σ H' fun σ2 H2 => tb { D with nx := N, ct := N, bk := D.nx } σ2 H2) := by
  refine ⟨fun i m σ H => m = n - i ∧ i ≤ n ∧ Pv i σ H, ⟨n, by simp, Nat.zero_le _, h0⟩, ?_⟩
  rintro i m σ H ⟨rfl, hi, p⟩
  by_cases hlt : i < n
  · refine .inr ⟨hlt, Pv (i + 1), fun σ' H' p' => ⟨n - (i + 1), by omega, rfl, hlt, p'⟩, fun x H' y => ?_⟩
    obtain ⟨e, y⟩ := y
    subst e y
    exact hs i σ _ hlt p
  · have e : i = n := by omega
    subst e
    exact .inl ⟨Nat.le_refl _, hd σ H p⟩
end
theorem lc_range {lo : Int} {n : Nat} {σ0 : St} {g : TG} {tt : TT} {te : TE} {H1 : Hp} {D : Addr} {Q : Hp → Prop} (Pv : Nat → St → Hp → Prop) (h0 : Pv 0 σ0 (upd H1 D (.lst [])))
    (hs : ∀ i τ H, i < n → Pv i τ H → g (.int (lo + i)) τ H fun τ2 H2 => tt τ2 H2 fun b H3 =>
      if b = true then te τ2 H3 fun v H4 => ∃ acc, H4 D = some (.lst acc) ∧ acc.length < sizeLine ∧ Pv (i + 1) τ2 (upd H4 D (.lst (acc ++ [v]))) else Pv (i + 1) τ2 H3)
    (hd : ∀ τ H, Pv n τ H → Q H) : lcW σ0 g tt te (Itr lo n) H1 D Q := by
  refine ⟨fun i m τ H => m = n - i ∧ i ≤ n ∧ Pv i τ H, ⟨n, by simp, Nat.zero_le _, h0⟩, ?_⟩
  rintro i m τ H ⟨rfl, hi, p⟩
  by_cases hlt : i < n
  · refine .inr ⟨hlt, Pv (i + 1), fun τ' H' p' => ⟨n - (i + 1), by omega, rfl, hlt, p'⟩, fun x H' y => ?_⟩
    obtain ⟨e, y⟩ := y
    subst e y
    exact hs i τ _ hlt p
  · have e : i = n := by omega
    subst e
    exact .inl ⟨Nat.le_refl _, hd τ H p⟩
theorem lc_listG {K : PySem.W.Frag} {a : Addr} {xs : List V} {σ0 : St} {g : TG} {tt : TT} {te : TE} {H1 : Hp} {D : Addr} {Q : Hp → Prop} (Pv : Nat → St → Hp → Prop) (h0 : Pv 0 σ0 (upd H1 D (.lst [])))
    (hl : ∀ i τ H, i ≤ xs.length → Pv i τ H → SqL K H a xs)
    (hs : ∀ i x τ H, xs[i]? = some x → Pv i τ H → g x τ H fun τ2 H2 => tt τ2 H2 fun b H3 =>
      if b = true then te τ2 H3 fun v H4 => ∃ acc, H4 D = some (.lst acc) ∧ acc.length < sizeLine ∧ Pv (i + 1) τ2 (upd H4 D (.lst (acc ++ [v]))) else Pv (i + 1) τ2 H3)
    (hd : ∀ τ H, Pv xs.length τ H → Q H) : lcW σ0 g tt te (Itl K a) H1 D Q := by
  refine ⟨fun i m τ H => m = xs.length - i ∧ i ≤ xs.length ∧ Pv i τ H, ⟨xs.length, by simp, Nat.zero_le _, h0⟩, ?_⟩
  rintro i m τ H ⟨rfl, hi, p⟩
  have q := hl i τ H hi p
  by_cases hlt : i < xs.length
  · refine .inr ⟨⟨xs, xs[i], q, by simp [hlt]⟩, Pv (i + 1), fun τ' H' p' => ⟨xs.length - (i + 1), by omega, rfl, hlt, p'⟩, fun x H' y => ?_⟩
    obtain ⟨e, y⟩ := y
    subst e
    exact hs i x τ _ (y xs q) p
  · have e : i = xs.length := by omega
    subst e
    exact .inl ⟨⟨xs, q, Nat.le_refl _⟩, hd τ H p⟩
end L2
namespace L2
open PySem PySem.Spec PyProof.Rows
structure FlyT (h : Heap) (a T : Addr) (cls : Value) : Prop where
  ex : ∃ (oe : Obj) (vs : Array Value) (oT : Obj) (ts : Array Value) (a0 : Value), h.get? a = some oe ∧ oe.cls = cls ∧ vs[0]? = some a0 ∧ oe.data = .fields vs ∧ vs[1]? = some (.ref T) ∧ T ≠ a ∧ h.get? T = some oT ∧ oT.data = .fields ts ∧ ts[3]? = some .none
def CX1 (P : Program) (w : World) : CXT := fun outer H s E e s' => ∃ (a T : Addr) (C : Value) (H' : Hp), e = .ref a ∧ s'.os = s.os ∧ AllBare s'.gens ∧ Un (frs outer) [] H H' s.heap s'.heap ∧ HOk P w H' s'.heap ∧
  H' a = none ∧ H' T = none ∧ s.heap.get? a = none ∧ s.heap.get? T = none ∧ FlyT s'.heap a T C ∧ E C none H'
theorem ObjOk.there {P : Program} {w : World} {H : Hp} {h : Heap} {a : Addr} {o : HO} (x : ObjOk P w H h a o) : ∃ ob, h.get? a = some ob := by
  cases o with
  | lst xs => obtain ⟨_, _, _, _, e⟩ := x; exact ⟨_, e⟩
  | tup xs => obtain ⟨_, _, _, ob, e, _⟩ := x; exact ⟨_, e⟩
  | dK kvs => obtain ⟨_, _, _, _, o, _, _, e, _⟩ := x; exact ⟨_, e⟩
  | dT kvs => obtain ⟨_, _, _, _, o, _, _, e, _⟩ := x; exact ⟨_, e⟩
  | set S n => obtain ⟨o, _, _, _, e, _⟩ := x; exact ⟨_, e⟩
  | ins C dx fs => obtain ⟨_, _, _, e, _⟩ := x; exact ⟨_, e⟩
  | own y => exact x
  | xd fs => obtain ⟨_, ⟨_, _, _, e, _⟩, _⟩ := x; exact ⟨_, e⟩
  | rng lo hi => obtain ⟨_, _, _, e⟩ := x; exact ⟨_, e⟩
  | frz ob u => obtain ⟨e, _⟩ := x; exact ⟨_, e⟩
  | tbl ps => exact ⟨_, (show h.get? a = some _ from x)⟩
  | met f y => exact ⟨_, (show h.get? a = some _ from x)⟩
  | ext φ => exact x.2.1
theorem HOk.none_of {P : Program} {w : World} {H : Hp} {h : Heap} {a : Addr} (x : HOk P w H h) (e : h.get? a = none) : H a = none := by
  cases q : H a with
  | none => rfl
  | some u =>
    obtain ⟨o, z⟩ := (x a u q).there
    rw [e] at z; cases z
section
variable {P : Program} {w : World} {K : PySem.W.Frag} {mg : Str → Option Value} {base : Heap} {N : List Str} {qual : Str} {scope : Scope} {f : Addr} {cd : Value} {A : Around} {outer : List Env} {s₀ : Shared} {H₀ : Hp} {E : XK}
end
section
variable {X : Cx}
structure CalleeX (P : Program) (w : World) (K : PySem.W.Frag) (mg : Str → Option Value) (base : Heap) (x : Str) (k : Nat) (ps : List Str) (sp : Sp) : Prop where
  ex : ∃ f fd, FnOk P w K mg base (CX1 P w) k f fd ps sp ∧ mg x = some (.ref f) ∧ PySem.W.keepIn K (.ref f) = true ∧ Binds K fd ps []
end
section
variable {P : Program} {w : World} {K : PySem.W.Frag} {mg : Str → Option Value} {base : Heap} {N : List Str} {qual : Str} {scope : Scope} {f : Addr} {cd : Value} {A : Around} {outer : List Env} {s₀ : Shared} {H₀ : Hp} {E : XK}
end
end L2
namespace L2
open PySem PySem.Spec PyProof.Rows
section
variable {P : Program} {w : World} {K : PySem.W.Frag} {mg : Str → Option Value} {base : Heap}
end
section
variable {X : Cx} {pins : List (Addr × Obj)} {σ : St} {H : Hp} {s : Shared}
end
section
variable {X : Cx}
end
end L2
namespace L2
open PySem PySem.Spec PyProof.Rows
open PySem.W (Looks)
open Builtin Builtin.ObjectAttr Builtin.Getset_descriptor
structure ExcCls (K : PySem.W.Frag) (C : Addr) : Prop where
  ga : PySem.W.findIn K (.ref C) "__getattribute__" = some (some (.builtin "BaseException.__getattribute__"))
  gt : PySem.W.findIn K (.ref C) "__getattr__" = some none
  cl : PySem.W.findIn K (.ref C) "__class__" = some (some (.builtin "object.__class__"))
  gg : PySem.W.specialIn K (.builtin "object.__class__") "__get__" = some (some (.builtin "getset_descriptor.__get__"))
  tk : PySem.W.takesIn K (.builtin "object.__class__") = some true
  ob : PySem.W.mroIn K C (.type "object") = some true
  be : PySem.W.mroIn K C (.type "BaseException") = some true
section
variable {prog : Program} {w : World} {A : Around} {E : Value → Shared → Prop} {K : PySem.W.Frag} {C a : Addr} {h : Heap} {g : Array GenState} {d : Drawn} {t : Nat} {os : OsState} {o : Obj}
end
section
variable {X : Cx}
end
end L2
namespace L2
open PySem PySem.Spec PyProof.Rows
section
variable {X : Cx}
def FP (X : Cx) (e : Expr) (c : St → Hp → Prop) : Prop := ∀ (pins : List (Addr × Obj)) (σ : St) (H : Hp) (s : Shared) (Q : Value → Shared → Prop), Inv X pins σ H s → c σ H →
  (∀ y t s', Inv X pins σ H s' → y.length ≤ 6000 → Q (.str y t) s') → wpAny (model X.prog X.w) X.A (eval e X.env) Q X.xe s
inductive FPs (X : Cx) : List Expr → (St → Hp → Prop) → Prop where
  | nil : FPs X [] fun _ _ => True
  | cons {e es c cs} : FP X e c → FPs X es cs → FPs X (e :: es) fun σ H => c σ H ∧ cs σ H
inductive Fm (K : PySem.W.Frag) (H : Hp) : V → Prop where
  | int (i : Int) : i.natAbs.log2 < 1920 → Fm K H (.int i)
  | tup (a : Addr) (is : List Int) : SqT K H a (is.map V.int) → is.length ≤ 3 → (∀ i ∈ is, i.natAbs.log2 < 1920) → Fm K H (.ref a)
theorem ev_U {ta : TE} {σ : St} {H : Hp} {i : Int} {g : Int → V} (ha : Ev ta σ H (.int i)) : Ev (tUn (rU g) ta) σ H (g i) := fun _ q => ha _ ⟨i, rfl, q⟩
theorem sq_asg {te : TE} {u : TS} {D : Ends} {σ : St} {H : Hp} {n : Nat} (q : te σ H fun v H1 => u D (σ.set n (some v)) H1) : tSeq (tAsg te (gName n)) u D σ H := q
structure ExcN (K : PySem.W.Frag) (mg : Str → Option Value) (x : Str) (C : Addr) : Prop where
  bd : mg x = some (.ref C)
  ex : PySem.W.excIn K C [.type "ValueError", .type "Exception", .type "BaseException", .type "object"] "ValueError.__new__" = true
  ok : ExcCls K C
end
end L2
namespace L2
open PySem PySem.Spec PyProof.Rows
structure MCallee (P : Program) (w : World) (K : PySem.W.Frag) (mg : Str → Option Value) (base : Heap) (C : Addr) (m : Str) (k : Nat) (ps : List Str) (sp : Sp) : Prop where
  ex : ∃ f fd, FnOk P w K mg base CX0 k f fd ps sp ∧ Meth K C m f ∧ Binds K fd ps []
structure KCallee (P : Program) (w : World) (K : PySem.W.Frag) (mg : Str → Option Value) (base : Heap) (C : Addr) (x : Str) (k : Nat) (ps : List Str) (sp : Sp) : Prop where
  ex : ∃ f fd, FnOk P w K mg base CX0 k f fd ps sp ∧ Mk K C f ∧ mg x = some (.ref C) ∧ Binds K fd ps []
section
variable {X : Cx} {C : Addr} {k : Nat} {ps : List Str} {sp : Sp} {x m : Str} {p pos apos : Pos} {e o : Expr} {es : List Expr} {ta : TE} {t : TA}
theorem call_range2 : CallR X (.type "range") (fun xs H Q => ∃ m n, xs = [.int m, .int n] ∧ ∀ p, H p = none → Q (.ref p) (upd H p (.rng m n))) := by
  intro pins s σ H xs us Q I r h
  obtain ⟨m, n, rfl, q⟩ := h
  obtain ⟨u, w', rfl, ⟨t, rfl⟩, ⟨t', rfl⟩⟩ := vals2 r
  refine PySem.call_range_2 ⟨.ref s.heap.objs.size, _, ?_, rfl, q _ (I.hok.fresh (Nat.le_refl _))⟩
  refine I.laid (fun b o e => Heap.get?_push_of_some _ e) (Nat.le_refl _) ?_
  exact ⟨_, _, _, Heap.get?_push_size _ rfl⟩
theorem vals_items {f : Nat → Int} : ∀ (acc : List Value) (i : Nat), (∀ j v, acc[j]? = some v → ∃ t, v = Value.int (f (i + j)) t) → Vals ((List.range' i acc.length).map fun j => V.int (f j)) acc
  | [], _, _ => .nil
  | v :: r, i, h => by
    obtain ⟨t, e⟩ := h 0 v rfl
    refine .cons ⟨t, e⟩ (vals_items r (i + 1) fun j u hj => ?_)
    obtain ⟨t', e'⟩ := h (j + 1) u hj
    exact ⟨t', by rw [e']; congr 2; omega⟩
theorem call_list_rng (hc : X.calm = true) : CallR X (.type "list") (fun xs H Q => ∃ p lo hi, xs = [.ref p] ∧ H p = some (.rng lo hi) ∧ (-(2 ^ 62) ≤ lo ∧ lo < 2 ^ 62 ∧ -(2 ^ 62) ≤ hi ∧ hi < 2 ^ 62) ∧ hi - lo ≤ 16000000 ∧
    ∀ l, H l = none → Q (.ref l) (upd H l (.lst ((List.range (hi - lo).toNat).map fun (i : Nat) => V.int (lo + (i : Int)))))) := by
  intro pins s σ H xs us Q I r h
  obtain ⟨p, lo, hi, rfl, hp, ⟨h1, h2, h3, h4⟩, h5, q⟩ := h
  obtain ⟨u, rfl, rx⟩ := vals1 r
  cases rx
  obtain ⟨t, t', t'', e⟩ := (show ObjOk X.prog X.w H s.heap p (.rng lo hi) from I.hok p _ hp)
  have hn : Builtin.Range.rangeSize lo hi 1 = ((hi - lo).toNat : Nat) := by
    rw [rangeSize_one]
    split <;> omega
  refine call_list_range (I.ok.hd hc) e (small_one h1 h2 h3 h4) hn (by omega) fun h' tk acc' c' hk hS hi' => ?_
  obtain ⟨hz, ha⟩ := hi'
  have hv : Vals ((List.range (hi - lo).toNat).map fun (i : Nat) => V.int (lo + (i : Int))) acc'.toList := by
    have z := vals_items (f := fun i => lo + (i : Int)) acc'.toList 0 fun j v hj => by
      obtain ⟨t, e⟩ := ha j v (by rw [← hj]; simp)
      exact ⟨t, by rw [e]; simp⟩
    rw [show acc'.toList.length = (hi - lo).toNat by rw [Array.length_toList, hz]] at z
    rw [List.range_eq_range']
    exact z
  refine ⟨.ref s.heap.objs.size, _, I.laid (t' := tk) hk (Nat.le_refl _) (show ObjOk X.prog X.w _ h' _ (.lst _) from ⟨?_, acc'.toList, c', hv, by rw [hS]⟩), rfl, q _ (I.hok.fresh (Nat.le_refl _))⟩
  rw [List.length_map, List.length_range]
  have : sizeLine = 2 ^ 24 := rfl
  omega
end
theorem int_at {ns : List Int} {i : Nat} {x : V} (h : (ns.map V.int)[i]? = some x) : ∃ z, ns[i]? = some z ∧ x = .int z := by
  rw [List.getElem?_map] at h
  cases e : ns[i]? with
  | none => rw [e] at h; cases h
  | some z => rw [e] at h; exact ⟨z, rfl, (Option.some.inj h).symm⟩
section
variable {σ : St} {H : Hp} {tc : TT} {te : TE} {t u v : TS} {D : Ends} {a b : Bool}
theorem sq_R (J : St → Hp → Prop) (h1 : ∀ R : St → Hp → Prop, (∀ σ H, J σ H → R σ H) → t { D with nx := R } σ H) (hv : ∀ σ H, J σ H → v D σ H) : tSeq t v D σ H := h1 _ hv
end
end L2
namespace L2
open PySem PySem.Spec PyProof.Rows
structure MCalleeX (P : Program) (w : World) (K : PySem.W.Frag) (mg : Str → Option Value) (base : Heap) (C : Addr) (m : Str) (k : Nat) (ps : List Str) (sp : Sp) : Prop where
  ex : ∃ f fd, FnOk P w K mg base (CX1 P w) k f fd ps sp ∧ Meth K C m f ∧ Binds K fd ps []
structure KCalleeX (P : Program) (w : World) (K : PySem.W.Frag) (mg : Str → Option Value) (base : Heap) (C : Addr) (x : Str) (k : Nat) (ps : List Str) (sp : Sp) : Prop where
  ex : ∃ f fd, FnOk P w K mg base (CX1 P w) k f fd ps sp ∧ Mk K C f ∧ mg x = some (.ref C) ∧ Binds K fd ps []
section
variable {X : Cx} {Ex : St → Value → Hp → Prop} {C : Addr} {k : Nat} {f : Addr} {fd : FuncData} {ps : List Str} {sp : Sp} {x m : Str} {p pos apos : Pos} {e o : Expr} {es : List Expr} {ta : TE} {t : TA}
end
end L2
namespace L2
open PySem PySem.W PyProof.Rows
def evT {α : Type} (lt : Nat → Nat → Bool) : KasT α → α
  | .ret a => a
  | .ask i j k => evT lt (k (lt i j))
inductive AskE (lt : Nat → Nat → Bool) (n : Nat) : {α : Type} → KasT α → Prop where
  | ret {α : Type} (a : α) : AskE lt n (KasT.ret a)
  | ask {α : Type} {i j : Nat} {k : Bool → KasT α} : i < n → j < n → AskE lt n (k (lt i j)) → AskE lt n (.ask i j k)
theorem AskE.bind {lt : Nat → Nat → Bool} {n : Nat} {α β : Type} {f : α → KasT β} : ∀ {t : KasT α}, AskE lt n t → AskE lt n (f (evT lt t)) → AskE lt n (t.bind f)
  | .ret _, _, hf => hf
  | .ask _ _ _, .ask h1 h2 h3, hf => .ask h1 h2 (AskE.bind h3 hf)
section
variable {O : KeyOrd} (key : Nat → O.α)
def kA (p : Array Nat) (k : Nat) : O.α := key (p.getD k 0)
def Up (p : Array Nat) (n : Nat) : Prop := ∀ i j, i ≤ j → j < n → O.kle (kA key p i) (kA key p j)
def Dn (p : Array Nat) (n : Nat) : Prop := ∀ i j, i ≤ j → j < n → O.kle (kA key p j) (kA key p i)
def PermN (n : Nat) (p : Array Nat) : Prop := p.Perm (List.toArray (List.range n))
variable {key}
theorem PermN.size {n : Nat} {p : Array Nat} (h : PermN n p) : p.size = n := by
  have := h.size_eq
  simpa using this
theorem PermN.lt {n : Nat} {p : Array Nat} (h : PermN n p) (k : Nat) (hk : k < n) : p.getD k 0 < n := by
  have hz := h.size
  have hm : p[k]'(by omega) ∈ p := Array.getElem_mem _
  have := (h.mem_iff).mp hm
  rw [Array.getD_eq_getD_getElem?, Array.getElem?_eq_getElem (by omega)]
  simpa using this
theorem getD_rev {p : Array Nat} {i j : Nat} (hj : j ≤ p.size) (k : Nat) : (kas_rev p i j).getD k 0 = if i ≤ k ∧ k < j then p.getD (i + j - 1 - k) 0 else p.getD k 0 := by
  unfold kas_rev
  rw [Array.getD_eq_getD_getElem?, getElem?_mirror_all hj]
  split <;> rw [Array.getD_eq_getD_getElem?]
theorem Up.snoc {p : Array Nat} {n : Nat} (h : Up key p n) (hn : 1 ≤ n) (hl : O.kle (kA key p (n - 1)) (kA key p n)) : Up key p (n + 1) := fun i j hij hj => by
  by_cases e : j = n
  · subst e
    by_cases e2 : i = j
    · subst e2; exact KeyOrd.kle_refl _
    · exact KeyOrd.kle_trans (h i (j - 1) (by omega) (by omega)) hl
  · exact h i j hij (by omega)
theorem Dn.snoc {p : Array Nat} {n : Nat} (h : Dn key p n) (hn : 1 ≤ n) (hl : O.kle (kA key p n) (kA key p (n - 1))) : Dn key p (n + 1) := fun i j hij hj => by
  by_cases e : j = n
  · subst e
    by_cases e2 : i = j
    · subst e2; exact KeyOrd.kle_refl _
    · exact KeyOrd.kle_trans hl (h i (j - 1) (by omega) (by omega))
  · exact h i j hij (by omega)
theorem Dn.turn {p : Array Nat} {n : Nat} (h : Dn key p n) (hn : n ≤ p.size) : Up key (kas_rev p 0 n) n := fun i j hij hj => by
  unfold kA
  rw [getD_rev hn, getD_rev hn, if_pos ⟨Nat.zero_le _, by omega⟩, if_pos ⟨Nat.zero_le _, by omega⟩]
  exact h _ _ (by omega) (by omega)
theorem getD_bubble {p : Array Nat} {k l : Nat} (hk : k < p.size) (hl : l ≤ k) (i : Nat) : (bubble p k (k - l)).getD i 0 = if i = l then p.getD k 0 else if l < i ∧ i ≤ k then p.getD (i - 1) 0 else p.getD i 0 := by
  rw [Array.getD_eq_getD_getElem?, getElem?_bubble hk (k - l) (by omega), show k - (k - l) = l by omega]
  simp only [Array.getD_eq_getD_getElem?]
  repeat' split
  all_goals rfl
theorem Up.bubble {N k l : Nat} {p : Array Nat} (hp : PermN N p) (hk : k < N) (hl : l ≤ k) (hu : Up key p k) (h1 : ∀ i, i < l → O.kle (kA key p i) (kA key p k)) (h2 : ∀ i, l ≤ i → i < k → O.klt (kA key p k) (kA key p i)) : Up key (bubble p k (k - l)) (k + 1) := fun i j hij hj => by
  have hz := hp.size
  have e : ∀ i, kA key (PyProof.Rows.bubble p k (k - l)) i = if i = l then kA key p k else if l < i ∧ i ≤ k then kA key p (i - 1) else kA key p i := fun i => by
    unfold kA
    rw [getD_bubble (by omega) hl]
    repeat' split
    all_goals rfl
  rw [e, e]
  by_cases c1 : i = l <;> by_cases c2 : j = l
  · rw [if_pos c1, if_pos c2]; exact KeyOrd.kle_refl _
  · rw [if_pos c1, if_neg c2, if_pos (by omega)]; exact KeyOrd.kle_of_klt (h2 _ (by omega) (by omega))
  · rw [if_neg c1, if_pos c2, if_neg (by omega)]; exact h1 i (by omega)
  · rw [if_neg c1, if_neg c2]
    by_cases d1 : l < i ∧ i ≤ k
    · rw [if_pos d1, if_pos (by omega)]; exact hu _ _ (by omega) (by omega)
    · rw [if_neg d1]
      by_cases d2 : l < j ∧ j ≤ k
      · rw [if_pos d2]; exact hu _ _ (by omega) (by omega)
      · rw [if_neg d2]; exact hu _ _ hij (by omega)
end
end L2
namespace L2
open PySem PySem.Spec PyProof.Rows
mutual
inductive Dp (K : PySem.W.Frag) (H : Hp) : V → PyData → Prop
  | non : Dp K H .non .none
  | bl (b : Bool) : Dp K H (.bl b) (.bool b)
  | int (i : Int) : Dp K H (.int i) (.int i)
  | str (x : Str) (h : PyData.strOk x = true) : Dp K H (.str x) (.str x)
  | tup {a : Addr} {xs : List V} {ds : List PyData} (h : SqT K H a xs) (r : Dps K H xs ds) : Dp K H (.ref a) (.tuple ds)
  | lst {a : Addr} {xs : List V} {ds : List PyData} (h : SqL K H a xs) (r : Dps K H xs ds) : Dp K H (.ref a) (.list ds)
inductive Dps (K : PySem.W.Frag) (H : Hp) : List V → List PyData → Prop
  | nil : Dps K H [] []
  | cons {x : V} {xs : List V} {d : PyData} {ds : List PyData} (h : Dp K H x d) (r : Dps K H xs ds) : Dps K H (x :: xs) (d :: ds)
end
mutual
theorem Dp.lay {K : PySem.W.Frag} {H : Hp} : ∀ {v : V} {d : PyData}, Dp K H v d → d.canLay0 = true
  | _, _, .non => rfl
  | _, _, .bl _ => rfl
  | _, _, .int _ => rfl
  | _, _, .str _ h => by simpa [PyData.canLay0] using h
  | _, _, .tup _ r => by simpa [PyData.canLay0] using r.lay
  | _, _, .lst _ r => by simpa [PyData.canLay0] using r.lay
theorem Dps.lay {K : PySem.W.Frag} {H : Hp} : ∀ {xs : List V} {ds : List PyData}, Dps K H xs ds → PyData.canLayAll0 ds = true
  | _, _, .nil => by simp [PyData.canLayAll0]
  | _, _, .cons h r => by simp [PyData.canLayAll0, h.lay, r.lay]
end
mutual
theorem Dp.reads {X : Cx} {pins : List (Addr × Obj)} {σ : St} {H : Hp} {s : Shared} (I : Inv X pins σ H s) : ∀ {v : V} {d : PyData} {u : Value}, Dp X.K H v d → RelV v u → ∃ as, Reads s.heap u d as
  | _, _, _, .non, r => by cases (show _ = Value.none from r); exact ⟨_, .none⟩
  | _, _, _, .bl b, r => by cases (show _ = Value.bool b from r); exact ⟨_, .bool b⟩
  | _, _, _, .int i, r => by obtain ⟨t, rfl⟩ := r; exact ⟨_, .int i t⟩
  | _, _, _, .str x _, r => by obtain ⟨t, rfl⟩ := r; exact ⟨_, .str x t⟩
  | _, _, _, .tup (a := a) h rs, r => by
    cases (show _ = Value.ref a from r)
    obtain ⟨its, rv, ⟨o, ho, hc, n, hd⟩, _⟩ := I.tuple h
    obtain ⟨as, ra⟩ := Dps.reads I rs rv
    exact ⟨_, .tuple ho hc hd (by simpa using ra)⟩
  | _, _, _, .lst (a := a) h rs, r => by
    cases (show _ = Value.ref a from r)
    obtain ⟨its, rv, pl, _⟩ := I.list h
    obtain ⟨o, ho, hc, n, hd⟩ := pl.isList
    obtain ⟨as, ra⟩ := Dps.reads I rs rv
    exact ⟨_, .list ho hc hd (by simpa using ra)⟩
theorem Dps.reads {X : Cx} {pins : List (Addr × Obj)} {σ : St} {H : Hp} {s : Shared} (I : Inv X pins σ H s) : ∀ {xs : List V} {ds : List PyData} {us : List Value}, Dps X.K H xs ds → Vals xs us → ∃ as, ReadsAll s.heap us ds as
  | _, _, _, .nil, .nil => ⟨_, .nil⟩
  | _, _, _, .cons h rs, .cons r rr => by
    obtain ⟨as, ra⟩ := Dp.reads I h r
    obtain ⟨bs, rb⟩ := Dps.reads I rs rr
    exact ⟨_, .cons ra rb⟩
end
section
variable {X : Cx}
def rEqD (K : PySem.W.Frag) : R2 := fun x y H Q => ∃ d e, Dp K H x d ∧ Dp K H y e ∧ d.depth ≤ 60 ∧ Q (.bl (PyData.eqv d e)) H
def rNeD (K : PySem.W.Frag) : R2 := fun x y H Q => ∃ d e, Dp K H x d ∧ Dp K H y e ∧ d.depth ≤ 60 ∧ Q (.bl (!PyData.eqv d e)) H
theorem op_eqD {k : Nat} (hr : Room k X.A) : OpR X (compareOp .Eq) (rEqD X.K) := by
  intro pins s σ H x y v u Q I rx ry h
  obtain ⟨d, e, h1, h2, hd, q⟩ := h
  obtain ⟨as, r1⟩ := h1.reads I rx
  obtain ⟨bs, r2⟩ := h2.reads I ry
  have := hr.units
  exact SeqAt.compareEq_reads r1 r2 h1.lay h2.lay (by omega) ⟨.bl _, H, I, rfl, q⟩
theorem op_neD {k : Nat} (hr : Room k X.A) : OpR X (compareOp .NotEq) (rNeD X.K) := by
  intro pins s σ H x y v u Q I rx ry h
  obtain ⟨d, e, h1, h2, hd, q⟩ := h
  obtain ⟨as, r1⟩ := h1.reads I rx
  obtain ⟨bs, r2⟩ := h2.reads I ry
  have := hr.units
  exact SeqAt.compareNe_reads r1 r2 h1.lay h2.lay (by omega) ⟨.bl _, H, I, rfl, q⟩
end
mutual
theorem eqv_refl : ∀ {d : PyData}, d.canLay0 = true → PyData.eqv d d = true
  | .none, _ => by simp [PyData.eqv]
  | .bool _, _ => by simp [PyData.eqv]
  | .int _, _ => by simp [PyData.eqv]
  | .str _, _ => by simp [PyData.eqv]
  | .list xs, h => by simp only [PyData.eqv]; exact eqvAll_refl (by simpa [PyData.canLay0] using h)
  | .tuple xs, h => by simp only [PyData.eqv]; exact eqvAll_refl (by simpa [PyData.canLay0] using h)
  | .dict _, h => by simp [PyData.canLay0] at h
theorem eqvAll_refl : ∀ {ds : List PyData}, PyData.canLayAll0 ds = true → PyData.eqvAll ds ds = true
  | [], _ => by simp [PyData.eqvAll]
  | d :: r, h => by
    have h' : d.canLay0 = true ∧ PyData.canLayAll0 r = true := by simpa [PyData.canLayAll0] using h
    simp only [PyData.eqvAll, eqv_refl h'.1, eqvAll_refl h'.2, Bool.and_self]
end
theorem dps_ints {K : PySem.W.Frag} {H : Hp} : ∀ (ns : List Int), Dps K H (ns.map V.int) (ns.map PyData.int)
  | [] => .nil
  | n :: r => .cons (.int n) (dps_ints r)
theorem Dp.ints {K : PySem.W.Frag} {H : Hp} {a : Addr} {ns : List Int} (h : SqT K H a (ns.map V.int)) : Dp K H (.ref a) (.tuple (ns.map PyData.int)) := .tup h (dps_ints ns)
theorem eqvAll_ints : ∀ (ns ms : List Int), PyData.eqvAll (ns.map PyData.int) (ms.map PyData.int) = decide (ns = ms)
  | [], [] => by simp [PyData.eqvAll]
  | [], _ :: _ => by simp [PyData.eqvAll]
  | _ :: _, [] => by simp [PyData.eqvAll]
  | n :: r, m :: t => by
    simp only [List.map_cons, PyData.eqvAll, PyData.eqv, eqvAll_ints r t, List.cons.injEq]
    by_cases h1 : n = m <;> by_cases h2 : r = t <;> simp [h1, h2]
theorem eqv_tints (ns ms : List Int) : PyData.eqv (.tuple (ns.map PyData.int)) (.tuple (ms.map PyData.int)) = decide (ns = ms) := by simp only [PyData.eqv]; exact eqvAll_ints ns ms
theorem depthAll_le {n : Nat} : ∀ {ds : List PyData}, (∀ d ∈ ds, d.depth ≤ n) → PyData.depthAll ds ≤ n
  | [], _ => by simp [PyData.depthAll]
  | d :: r, h => by
    simp only [PyData.depthAll]
    exact Nat.max_le.mpr ⟨h d List.mem_cons_self, depthAll_le fun e he => h e (List.mem_cons_of_mem _ he)⟩
theorem depth_tints (ns : List Int) : (PyData.tuple (ns.map PyData.int)).depth ≤ 1 := by
  have : PyData.depthAll (ns.map PyData.int) ≤ 0 := depthAll_le fun d hd => by
    obtain ⟨i, _, rfl⟩ := List.mem_map.mp hd
    simp [PyData.depth]
  simp only [PyData.depth]; omega
theorem SqT.kept {K : PySem.W.Frag} {H H' : Hp} {a : Addr} {xs : List V} (e : ∀ b o, H b = some o → H' b = some o) (h : SqT K H a xs) : SqT K H' a xs := SqT.same e h
mutual
theorem Dp.same {K : PySem.W.Frag} {H H' : Hp} (e : Same H H') : ∀ {v : V} {d : PyData}, Dp K H v d → Dp K H' v d
  | _, _, .non => .non
  | _, _, .bl b => .bl b
  | _, _, .int i => .int i
  | _, _, .str x h => .str x h
  | _, _, .tup h r => .tup (h.same e) (Dps.same e r)
  | _, _, .lst h r => .lst (e.seq h) (Dps.same e r)
theorem Dps.same {K : PySem.W.Frag} {H H' : Hp} (e : Same H H') : ∀ {xs : List V} {ds : List PyData}, Dps K H xs ds → Dps K H' xs ds
  | _, _, .nil => .nil
  | _, _, .cons h r => .cons (Dp.same e h) (Dps.same e r)
end
section
variable {σ : St} {H : Hp} {ta tb : TE} {x y : V} {d e : PyData} {K : PySem.W.Frag}
end
end L2
namespace L2
open PySem PySem.Spec PyProof.Rows
theorem Inv.laidN {X : Cx} {pins : List (Addr × Obj)} {σ : St} {H : Hp} {s : Shared} {h' : Heap} {t' : Nat} {a : Addr} {o : HO} (I : Inv X pins σ H s) (k : ∀ b u, b ≠ X.env.locals → s.heap.get? b = some u → h'.get? b = some u)
    (ns : ∀ m, s.heap.Ns X.env.locals m → h'.Ns X.env.locals m) (hn : s.heap.get? a = none) (new : ObjOk X.prog X.w (upd H a o) h' a o) : Inv X pins σ (upd H a o) { s with heap := h', toks := t' } := by
  have hHa : H a = none := I.hok.none_of hn
  have trk : ∀ b u, H b = some u → b ≠ X.env.locals := fun b u e z => by rw [z, I.free] at e; cases e
  have nea : ∀ b u, s.heap.get? b = some u → b ≠ a := fun b u e z => by rw [z, hn] at e; cases e
  refine I.step (g' := s.gens) (d' := s.drawn) (ch := []) (fun _ z => nomatch z) (fun b u hL _ _ e _ => k b u hL e) (fun b u hL _ _ e _ => ⟨u.slots, k b u hL e⟩) (fun b u _ e n => by rw [upd_ne (nea b u e)]; exact n)
    (fun b u _ e => ?_) (fun b xs e => by rw [upd_ne (ne_of_none e hHa)]; exact e) (fun b u xs e => by rw [upd_ne (ne_of_none e hHa)]; exact e) (fun b ps e => ⟨#[], by rw [upd_ne (ne_of_none e hHa), e]; simp⟩) ns (fun b u e => ?_) I.bare
  · by_cases hb : b = X.env.locals
    · obtain ⟨m, hm, _⟩ := I.loc
      obtain ⟨o', _, _, e', _⟩ := ns m hm
      exact ⟨o', by rw [hb]; exact e'⟩
    · exact ⟨u, k b u hb e⟩
  · by_cases hb : b = a
    · subst hb; rw [upd_same] at e; cases e; exact new
    · rw [upd_ne hb] at e
      refine (I.hok b u e).stay (fun c v hc q => k c v ?_ q) (fun c q => by rw [upd_ne (ne_of_none q hHa)]; exact q) fun c xs q => by rw [upd_ne (ne_of_none q hHa)]; exact q
      rcases hc with rfl | hc
      · exact trk _ _ e
      · exact trk _ _ hc
theorem ns_inj {h : Heap} {a : Addr} {m m' : Str → Option Value} (x : h.Ns a m) (y : h.Ns a m') : m = m' := by
  obtain ⟨o, es, ep, ho, hd, _, f⟩ := x
  obtain ⟨o', es', ep', ho', hd', _, f'⟩ := y
  rw [ho] at ho'; cases ho'
  rw [hd] at hd'; cases hd'
  funext n
  rw [← f, ← f']
theorem vals_of_refs : ∀ cs : List Addr, Vals (cs.map V.ref) (cs.map Value.ref)
  | [] => .nil
  | _ :: r => .cons rfl (vals_of_refs r)
theorem lex_irrefl : ∀ a : List Int, HT.lexLt a a = false
  | [] => rfl
  | x :: r => by rw [HT.lexLt_cons, if_pos rfl]; exact lex_irrefl r
theorem lex_total : ∀ a b : List Int, HT.lexLt a b = false → HT.lexLt b a = false → a = b
  | [], [], _, _ => rfl
  | [], _ :: _, h, _ => by rw [HT.lexLt_nil_cons] at h; cases h
  | _ :: _, [], _, h => by rw [HT.lexLt_nil_cons] at h; cases h
  | x :: r, y :: t, h1, h2 => by
    rw [HT.lexLt_cons] at h1 h2
    by_cases e : x = y
    · subst e
      rw [if_pos rfl] at h1 h2
      rw [lex_total r t h1 h2]
    · rw [if_neg e] at h1
      rw [if_neg (Ne.symm e)] at h2
      have := of_decide_eq_false h1
      have := of_decide_eq_false h2
      omega
theorem lex_trans : ∀ a b c : List Int, HT.lexLt a b = true → HT.lexLt b c = true → HT.lexLt a c = true
  | [], _, [], _, h => by
    rename_i b _
    cases b with
    | nil => rw [HT.lexLt_nil_nil] at h; cases h
    | cons y t => rw [HT.lexLt_cons_nil] at h; cases h
  | [], _, _ :: _, _, _ => rfl
  | _ :: _, [], _, h, _ => by rw [HT.lexLt_cons_nil] at h; cases h
  | _ :: _, _ :: _, [], _, h => by rw [HT.lexLt_cons_nil] at h; cases h
  | x :: r, y :: t, z :: u, h1, h2 => by
    rw [HT.lexLt_cons] at h1 h2 ⊢
    by_cases e1 : x = y <;> by_cases e2 : y = z
    · subst e1; subst e2
      rw [if_pos rfl] at h1 h2 ⊢
      exact lex_trans r t u h1 h2
    · subst e1
      rw [if_neg e2] at h2 ⊢
      exact h2
    · subst e2
      rw [if_neg e1] at h1 ⊢
      exact h1
    · rw [if_neg e1] at h1
      rw [if_neg e2] at h2
      have := of_decide_eq_true h1
      have := of_decide_eq_true h2
      rw [if_neg (by omega)]
      exact decide_eq_true (by omega)
theorem lex_neg (a b c : List Int) (h : HT.lexLt a c = true) : HT.lexLt a b = true ∨ HT.lexLt b c = true := by
  cases h1 : HT.lexLt a b with
  | true => exact .inl rfl
  | false =>
    refine .inr ?_
    cases h2 : HT.lexLt b a with
    | true => exact lex_trans b a c h2 h
    | false => rw [← lex_total a b h1 h2]; exact h
abbrev Tups (H : Hp) (as : List Addr) (cs : List (List Int)) : Prop := Paired (fun a (c : List Int) => H a = some (.tup (c.map V.int))) as cs
theorem Tups.at {H : Hp} : ∀ {as : List Addr} {cs : List (List Int)} {i : Nat} {a : Addr}, Tups H as cs → as[i]? = some a → ∃ c, cs[i]? = some c ∧ H a = some (.tup (c.map V.int))
  | _, _, 0, _, .cons h _, e => by cases e; exact ⟨_, rfl, h⟩
  | _, _, i + 1, _, .cons _ t, e => Tups.at (i := i) t e
  | _, _, _, _, .nil, e => by simp at e
theorem Tups.same {H H' : Hp} {as : List Addr} {cs : List (List Int)} (h : Tups H as cs) (e : Same H H') : Tups H' as cs := Paired.mapP h fun _ _ z => e _ _ z
open PySem.W in
theorem katlex_ints {prog : Program} {w : World} {A : Around} {b fin : Bool} {Q : Bool → Shared → Prop} {s : Shared} : ∀ (us ws : List Value) (ns ms : List Int) (i : Nat), Vals (ns.map V.int) us → Vals (ms.map V.int) ws → fin = decide (ns.length < ms.length) →
    Q (HT.lexLt ns ms) s → KatLex prog w A b fin Q (us.zip ws) i s
  | [], ws, ns, ms, i, r1, r2, hf, h => by
    cases ns with
    | cons n r => cases r1
    | nil =>
      refine kat_nil ?_
      rw [hf]
      cases ms with
      | nil => exact h
      | cons m t => exact h
  | u :: us, [], ns, ms, i, r1, r2, hf, h => by
    cases ms with
    | cons m t => cases r2
    | nil =>
      refine kat_nil ?_
      rw [hf]
      cases ns with
      | nil => exact h
      | cons m t => exact h
  | u :: us, v :: ws, ns, ms, i, r1, r2, hf, h => by
    cases ns with
    | nil => cases r1
    | cons n r =>
      cases ms with
      | nil => cases r2
      | cons m t =>
        cases r1 with
        | cons q1 r1 =>
          cases r2 with
          | cons q2 r2 =>
            obtain ⟨t1, rfl⟩ := q1
            obtain ⟨t2, rfl⟩ := q2
            refine kat_cons (wpAny_eqBool_int ?_)
            rw [HT.lexLt_cons] at h
            refine kat_go (fun e => ?_) (fun e => ?_)
            · have e' : n = m := by simpa using e
              rw [if_pos e'] at h
              exact kat_yes (katlex_ints us ws r t (i + 1) r1 r2 (by rw [hf]; simp) h)
            · have e' : ¬ n = m := by simpa using e
              rw [if_neg e'] at h
              refine kat_no ?_
              cases (b && i == 0) with
              | true => exact oneLt_int h
              | false => exact kat_one _ _ (lt_int h)
section
variable {X : Cx}
end
section
variable {prog : Program} {w : World} {A : Around} {E : Value → Shared → Prop} {s : Shared}
end
section
variable {X : Cx}
end
section
variable {X : Cx}
end
end L2
namespace L2
open PySem PySem.Spec PyProof.Rows
abbrev cp (z : Str) : List Nat := z.cps.toList
section
variable {X : Cx} {tg : Expr}
end
section
variable {σ : St} {H : Hp} {ta tb : TE} {x y : Str} {a b : Bool}
theorem ev_neS (ha : Ev ta σ H (.str x)) (hb : Ev tb σ H (.str y)) : Ev (tOp rNe ta tb) σ H (.bl (!decide (x = y))) := fun Q q => ha _ (hb _ ⟨rfl, by
  have e : decide (V.str x = V.str y) = decide (x = y) := by
    rcases Decidable.em (x = y) with h | h
    · rw [h, decide_eq_true rfl, decide_eq_true rfl]
    · rw [decide_eq_false h, decide_eq_false fun z => h (V.str.inj z)]
  rw [e]; exact q⟩)
end
end L2
namespace L2
open PySem PySem.Spec PyProof.Rows
section
variable {X : Cx}
def FX (X : Cx) (e : Expr) (c : St → Hp → Str → Prop) : Prop := ∀ (pins : List (Addr × Obj)) (σ : St) (H : Hp) (s : Shared) (y : Str) (Q : Value → Shared → Prop), Inv X pins σ H s → c σ H y →
  (∀ t s', Inv X pins σ H s' → y.length ≤ 6000 → Q (.str y t) s') → wpAny (model X.prog X.w) X.A (eval e X.env) Q X.xe s
inductive FXs (X : Cx) : List Expr → (St → Hp → List Str → Prop) → Prop where
  | nil : FXs X [] fun _ _ ys => ys = []
  | cons {e es c cs} : FX X e c → FXs X es cs → FXs X (e :: es) fun σ H ys => ∃ y r, ys = y :: r ∧ c σ H y ∧ cs σ H r
end
end L2
namespace L2
open PySem PySem.Spec PyProof.Rows
open AutoSeq1 (wpAny_loadPart')
section
variable {prog : Program} {w : World} {A : Around} {E : Value → Shared → Prop} {s : Shared}
end
section
variable {X : Cx}
end
end L2
namespace L2
open PySem PySem.Spec PyProof.Rows
inductive Cs (A : Around) (s : Shared) (op : CmpOp) : List Value → List Value → List (Bool × Bool) → Prop
  | nil : Cs A s op [] [] []
  | cons {v w : Value} {e b : Bool} {vs ws : List Value} {cs : List (Bool × Bool)} (he : SeqAt.EqAt A s v w e)
      (hb : e = false → ∀ (prog : Program) (w' : World) (E : Value → Shared → Prop) (Q : Value → Shared → Prop), Q (.bool b) s → wpAny (model prog w') A (richCompare op v w) Q E s) (t : Cs A s op vs ws cs) : Cs A s op (v :: vs) (w :: ws) ((e, b) :: cs)
def res : List (Bool × Bool) → Bool → Bool
  | [], z => z
  | (true, _) :: r, z => res r z
  | (false, b) :: _, _ => b
theorem Cs.len {A : Around} {s : Shared} {op : CmpOp} : ∀ {vs ws : List Value} {cs : List (Bool × Bool)}, Cs A s op vs ws cs → vs.length = ws.length
  | _, _, _, .nil => rfl
  | _, _, _, .cons _ _ t => by rw [List.length_cons, List.length_cons, t.len]
section
open PySem.SeqAt
open PySem.AutoSeq1 (wpAny_loadPart')
open PySem.MeetsSeq PySem.MeetsSeq2 PySem.MeetsSeq3
theorem tuple_le_cs (l b : Addr) (items items2 : Array Value) (n n2 : Nat) (dd dd2 : Option Addr) (sl sl2 : Array (Option Value)) :
    Meets (Builtin.«tuple.__le__» ⟨[.ref l, .ref b], []⟩)
      (fun A R s => s.heap.get? l = some { cls := .type "tuple", dict := dd, data := .seq items n, slots := sl } ∧ s.heap.get? b = some { cls := .type "tuple", dict := dd2, data := .seq items2 n2, slots := sl2 } ∧
        ∃ cs, Cs A.in1 s .LtE items.toList items2.toList cs ∧ R (.ok (.ret (.bool (res cs true)))) s) :=
  .of_wp fun prog w A R s h => by
    obtain ⟨hp, g, d, tk, os⟩ := s; obtain ⟨hl, hb, cs, hcs, h⟩ := h
    have f2 := AutoSeq1.sub_tuple_tuple
    have z1 : items.size = items2.size := by have := hcs.len; simpa using this
    wp_walk using wpAny_loadPart' hl, wpAny_loadPart' hb, wpAny_forIn_list _ (fun rest b s' => b.1 = none ∧ s' = ⟨hp, g, d, tk, os⟩ ∧ ∃ (vs ws : List Value) (cs : List (Bool × Bool)), rest = vs.zip ws ∧
      Cs A.in1 ⟨hp, g, d, tk, os⟩ .LtE vs ws cs ∧ R (.ok (.ret (.bool (res cs true)))) ⟨hp, g, d, tk, os⟩) _
    case turn =>
      rintro ⟨y, x⟩ rest b s' ⟨hb', rfl, vs, ws, cs, hz, hc, hR⟩
      cases hc with
      | nil => rw [List.zip_nil_left] at hz; cases hz
      | @cons v w' e b' vs ws cs he hri t =>
          rw [List.zip_cons_cons] at hz
          injection hz with hyx hrest
          injection hyx with hy hx
          subst hy hx
          refine wpAny_bind (he prog w _ _ ?_)
          cases e with
          | true =>
            wp_walk
            exact ⟨rfl, rfl, _, _, _, hrest, t, hR⟩
          | false =>
            have hri := hri rfl prog w
            wp_walk using hri
            exact ⟨_, rfl, by simpa [res] using hR⟩
    case fin =>
      rintro ⟨b1, b2⟩ s' ⟨hb', rfl, vs, ws, cs, hz, hc, hR⟩
      simp only at hb'
      subst hb'
      cases hc with
      | cons he hri t => rw [List.zip_cons_cons] at hz; cases hz
      | nil =>
        wp_walk
        exact ⟨_, rfl, by simpa [Builtin.Tuple.tupleCompareSizes, z1, res] using hR⟩
    case h =>
      exact ⟨rfl, rfl, items.toList, items2.toList, cs, rfl, hcs, h⟩
end
def Mrk (K : PySem.W.Frag) (H : Hp) (kd : Bool) (m : V) (l : List Int) : Prop :=
  (kd = false ∧ ∃ i, m = .int i ∧ l = [i]) ∨ (kd = true ∧ ∃ b i j, m = .ref b ∧ SqT K H b [.int i, .int j] ∧ l = [i, j])
def Pr (K : PySem.W.Frag) (H : Hp) (kd : Bool) (v : V) (k : List Int) : Prop := ∃ a p m l, v = .ref a ∧ SqT K H a [.int p, m] ∧ Mrk K H kd m l ∧ k = p :: l
theorem Mrk.same {K : PySem.W.Frag} {H H' : Hp} {kd : Bool} {m : V} {l : List Int} (h : Mrk K H kd m l) (k : ∀ b xs, SqT K H b xs → SqT K H' b xs) : Mrk K H' kd m l := by
  rcases h with h | ⟨h, b, i, j, e, q, r⟩
  · exact .inl h
  · exact .inr ⟨h, b, i, j, e, k _ _ q, r⟩
theorem Pr.same {K : PySem.W.Frag} {H H' : Hp} {kd : Bool} {m : V} {l : List Int} (h : Pr K H kd m l) (k : ∀ b xs, SqT K H b xs → SqT K H' b xs) : Pr K H' kd m l := by
  obtain ⟨a, p, m, l, e, q, r, z⟩ := h
  exact ⟨a, p, m, l, e, k _ _ q, r.same k, z⟩
section
variable {X : Cx}
theorem Mrk.cs {pins : List (Addr × Obj)} {σ : St} {H : Hp} {s : Shared} {kd : Bool} {x y : V} {u v : Value} {l1 l2 : List Int} {A : Around} (I : Inv X pins σ H s) (hu : A.units + 10 < cLine) (hx : Mrk X.K H kd x l1) (hy : Mrk X.K H kd y l2) (rx : RelV x u) (ry : RelV y v) :
    SeqAt.EqAt A s u v (decide (l1 = l2)) ∧ (∀ (prog : Program) (w' : World) (E : Value → Shared → Prop) (Q : Value → Shared → Prop), Q (.bool (HT.lexLt l1 l2)) s → wpAny (model prog w') A (richCompare .Lt u v) Q E s) := by
  rcases hx with ⟨rfl, i, rfl, rfl⟩ | ⟨rfl, b, i, j, rfl, hb, rfl⟩
  · rcases hy with ⟨_, i', rfl, rfl⟩ | ⟨h, _⟩
    · obtain ⟨t, rfl⟩ := rx
      obtain ⟨t', rfl⟩ := ry
      refine ⟨?_, fun prog w' E Q q => ?_⟩
      · have := SeqAt.EqAt.int_int (A := A) (s := s) i t i' t'
        have e : (i == i') = decide ([i] = [i']) := by simp [Bool.beq_eq_decide_eq]
        rw [← e]; exact this
      · have e : HT.lexLt [i] [i'] = decide (i < i') := by
          rw [HT.lexLt_cons]
          by_cases h : i = i'
          · subst h; simp [HT.lexLt_nil_nil]
          · rw [if_neg h]
        rw [e] at q
        exact HT.rcLt_int A s i t i' t' prog w' E Q q
    · cases h
  · rcases hy with ⟨h, _⟩ | ⟨_, b', i', j', rfl, hb', rfl⟩
    · cases h
    · cases rx
      cases ry
      refine ⟨?_, fun prog w' E Q q => ?_⟩
      · have d1 : Dp X.K H (.ref b) (.tuple [.int i, .int j]) := Dp.ints (ns := [i, j]) hb
        have d2 : Dp X.K H (.ref b') (.tuple [.int i', .int j']) := Dp.ints (ns := [i', j']) hb'
        obtain ⟨as, r1⟩ := d1.reads I rfl
        obtain ⟨bs, r2⟩ := d2.reads I rfl
        have hd := depth_tints [i, j]
        have := SeqAt.eqAt_reads _ _ A s _ _ as bs r1 r2 d1.lay d2.lay (Nat.lt_of_le_of_lt (Nat.add_le_add_left (Nat.le_trans (Nat.min_le_left _ _) hd) _) (by omega))
        rw [show PyData.eqv (.tuple [.int i, .int j]) (.tuple [.int i', .int j']) = decide ([i, j] = [i', j']) from eqv_tints [i, j] [i', j']] at this
        exact this
      · obtain ⟨its, r1, p1, _⟩ := I.tuple hb
        obtain ⟨its2, r2, p2, _⟩ := I.tuple hb'
        exact HT.lt_tupInts p1 p2 (intsAre_of (ns := [i, j]) r1) (intsAre_of (ns := [i', j']) r2) (by omega) q
theorem nlt_int (i j : Int) : (!decide (j < i)) = decide (i ≤ j) := by
  by_cases h2 : j < i
  · rw [decide_eq_true h2, decide_eq_false (by omega)]; rfl
  · rw [decide_eq_false h2, decide_eq_true (by omega)]; rfl
theorem lex_le (p q : Int) (l m : List Int) : (!HT.lexLt (q :: m) (p :: l)) = res [(decide (p = q), decide (p ≤ q)), (decide (l = m), !HT.lexLt m l)] true := by
  rw [HT.lexLt_cons]
  by_cases h : q = p
  · rw [if_pos h, decide_eq_true h.symm]
    by_cases h2 : l = m
    · subst h2; rw [decide_eq_true rfl, lex_irrefl]; rfl
    · rw [decide_eq_false h2]; rfl
  · rw [if_neg h, decide_eq_false (Ne.symm h), nlt_int]; rfl
theorem eqInt (A : Around) (s : Shared) (p : Int) (t1 : Tok) (p' : Int) (t2 : Tok) : SeqAt.EqAt A s (.int p t1) (.int p' t2) (decide (p = p')) := by
  have := SeqAt.EqAt.int_int (A := A) (s := s) p t1 p' t2
  rw [show (p == p') = decide (p = p') from by simp [Bool.beq_eq_decide_eq]] at this
  exact this
theorem rcLe_int (A : Around) (s : Shared) (a : Int) (t : Tok) (c : Int) (u : Tok) (prog : Program) (w : World) (E : Value → Shared → Prop) (Q : Value → Shared → Prop) (h : Q (.bool (decide (a ≤ c))) s) :
    wpAny (model prog w) A (richCompare .LtE (.int a t) (.int c u)) Q E s :=
  (PyProof.Rows.le_int h : wpAny (model prog w) A (compareOp .LtE (.int a t) (.int c u)) Q E s)
theorem Mrk.le {pins : List (Addr × Obj)} {σ : St} {H : Hp} {s : Shared} {kd : Bool} {x y : V} {u v : Value} {l1 l2 : List Int} {A : Around} (I : Inv X pins σ H s) (hu : A.units + 10 < cLine) (hx : Mrk X.K H kd x l1) (hy : Mrk X.K H kd y l2) (rx : RelV x u) (ry : RelV y v) :
    ∀ (prog : Program) (w' : World) (E : Value → Shared → Prop) (Q : Value → Shared → Prop), Q (.bool (!HT.lexLt l2 l1)) s → wpAny (model prog w') A (richCompare .LtE u v) Q E s := by
  intro prog w' E Q q
  rcases hx with ⟨rfl, i, rfl, rfl⟩ | ⟨rfl, b, i, j, rfl, hb, rfl⟩
  · rcases hy with ⟨_, i', rfl, rfl⟩ | ⟨h, _⟩
    · obtain ⟨t, rfl⟩ := rx
      obtain ⟨t', rfl⟩ := ry
      have e : (!HT.lexLt [i'] [i]) = decide (i ≤ i') := by
        rw [HT.lexLt_cons]
        by_cases h : i' = i
        · subst h; simp [HT.lexLt_nil_nil]
        · rw [if_neg h, nlt_int]
      rw [e] at q
      exact rcLe_int A s i t i' t' prog w' E Q q
    · cases h
  · rcases hy with ⟨h, _⟩ | ⟨_, b', i', j', rfl, hb', rfl⟩
    · cases h
    · cases rx
      cases ry
      obtain ⟨its, r1, p1, _⟩ := I.tuple hb
      obtain ⟨its2, r2, p2, _⟩ := I.tuple hb'
      obtain ⟨u1, u2, rfl, ⟨t1, rfl⟩, t12, rfl⟩ := vals2 r1
      obtain ⟨w1, w2, rfl, ⟨t2, rfl⟩, t22, rfl⟩ := vals2 r2
      have e : (!HT.lexLt [i', j'] [i, j]) = res [(decide (i = i'), decide (i ≤ i')), (decide (j = j'), decide (j ≤ j'))] true := by
        rw [lex_le]
        have e1 : (!HT.lexLt [j'] [j]) = decide (j ≤ j') := by
          rw [HT.lexLt_cons]
          by_cases h : j' = j
          · subst h; simp [HT.lexLt_nil_nil]
          · rw [if_neg h, nlt_int]
        rw [e1]
        simp
      rw [e] at q
      obtain ⟨⟨cls, dd, data, sl⟩, ho, hc, n, hd⟩ := id p1
      obtain ⟨⟨cls2, dd2, data2, sl2⟩, ho2, hc2, n2, hd2⟩ := id p2
      simp only at hc hd hc2 hd2
      subst hc hd hc2 hd2
      exact richCompare_meets_room (op := .LtE) ⟨_, ho, rfl⟩ ⟨_, ho2, rfl⟩ PySem.F.slot_tuple_le PySem.F.entry_tuple_le (PySem.F.args_tuple_le_2 _ _) (tuple_le_cs b b' _ _ n n2 dd dd2 sl sl2)
        ⟨ho, ho2, [(decide (i = i'), decide (i ≤ i')), (decide (j = j'), decide (j ≤ j'))], .cons (eqInt _ s i t1 i' t2) (fun _ => rcLe_int _ s i t1 i' t2) (.cons (eqInt _ s j t12 j' t22) (fun _ => rcLe_int _ s j t12 j' t22) .nil), ⟨(fun x => nomatch x), q⟩⟩ (by omega)
end
end L2
namespace L2
open PySem PySem.Spec PyProof.Rows
section
variable {prog : Program} {w : World} {A : Around} {E : Value → Shared → Prop} {s : Shared}
end
section
variable {X : Cx} {pins : List (Addr × Obj)} {σ : St} {H : Hp} {s : Shared} {a : Addr} {A : Around} {E : Value → Shared → Prop}
end
def eqOk : V → Bool
  | .flt _ => false
  | .byt _ => false
  | _ => true
theorem eq_relV {A : Around} {s : Shared} {v : V} {u u' : Value} (hf : eqOk v = true) (r : RelV v u) (r' : RelV v u') : SeqAt.EqAt A s u u' true := by
  cases v with
  | non => cases (show u = Value.none from r); cases (show u' = Value.none from r'); exact SeqAt.EqAt.same _
  | bl b => cases (show u = Value.bool b from r); cases (show u' = Value.bool b from r'); exact SeqAt.EqAt.same _
  | int i => obtain ⟨t, rfl⟩ := r; obtain ⟨t', rfl⟩ := r'; have h := SeqAt.EqAt.int_int (A := A) (s := s) i t i t'; rwa [beq_self_eq_true] at h
  | str x => obtain ⟨t, rfl⟩ := r; obtain ⟨t', rfl⟩ := r'; have h := SeqAt.EqAt.str_str (A := A) (s := s) x t x t'; simpa using h
  | byt b => exact absurd hf (by simp [eqOk])
  | flt b => exact absurd hf (by simp [eqOk])
  | ref a => cases (show u = Value.ref a from r); cases (show u' = Value.ref a from r'); exact SeqAt.EqAt.same _
  | ty n => cases (show u = Value.type n from r); cases (show u' = Value.type n from r'); exact SeqAt.EqAt.same _
def SmV (K : PySem.W.Frag) (H : Hp) (v v' : V) : Prop := (v = v' ∧ eqOk v = true) ∨ ∃ d e, Dp K H v d ∧ Dp K H v' e ∧ d.depth ≤ 60 ∧ PyData.eqv d e = true
theorem SmV.at {X : Cx} {pins : List (Addr × Obj)} {σ : St} {H : Hp} {s : Shared} {A : Around} {v v' : V} {u u' : Value} (I : Inv X pins σ H s) (h : SmV X.K H v v') (r : RelV v u) (r' : RelV v' u') (hu : A.units + 60 < cLine) : SeqAt.EqAt A s u u' true := by
  rcases h with ⟨rfl, h⟩ | ⟨d, e, h1, h2, hd, he⟩
  · exact eq_relV h r r'
  · obtain ⟨as, r1⟩ := h1.reads I r
    obtain ⟨bs, r2⟩ := h2.reads I r'
    have := SeqAt.eqAt_reads d e A s u u' as bs r1 r2 h1.lay h2.lay (by omega)
    rwa [he] at this
section
variable {prog : Program} {w : World} {K : Type} [DecidableEq K] {knd : HeapKind prog w K} {A : Around} {E : Value → Shared → Prop} {s : Shared}
end
theorem mem_valV {κ : Type} [DecidableEq κ] {kvs : List (κ × V)} {k : κ} {v : V} (h : valV kvs k = some v) : (k, v) ∈ kvs := by
  unfold valV at h
  obtain ⟨p, hp, rfl⟩ := Option.map_eq_some_iff.mp h
  have := List.find?_some hp
  have e : p.1 = k := of_decide_eq_true this
  rw [← e]
  exact List.mem_of_find?_eq_some hp
section
variable {X : Cx}
end
section
variable {prog : Program} {w : World} {A : Around} {E : Value → Shared → Prop} {s : Shared} {I : Addr} {fp wr : List Addr} {G : Array GenState → Array GenState → Prop} {n : Nat} {P : Nat → Value → Prop} {St : Nat → Shared → Prop}
end
theorem Room.one {k : Nat} {A : Around} (r : Room k A) : A.units + 1 < cLine := by have := r.un; omega
theorem ev_dget {td ty : TE} {σ : St} {H : Hp} {a : Addr} {y v : V} (ha : Ev td σ H (.ref a)) (hb : Ev ty σ H y) (g : DGet H a y (some v)) : Ev (tDGet td ty) σ H v := fun _ q => ha _ (hb _ ⟨a, v, rfl, g, q⟩)
end L2
namespace L2
open PySem PySem.Spec PyProof.Rows
section
variable {X : Cx} {pins : List (Addr × Obj)} {σ : St} {H : Hp} {s : Shared} {d : Addr} {u : HO} {o : Obj}
theorem ObjOk.upd {P : Program} {w : World} {h : Heap} {b : Addr} {x v : HO} (ok : ObjOk P w H h b x) (nt : ∀ xs, H d ≠ some (.tup xs)) (no : ∀ y, H d ≠ some (.own y)) : ObjOk P w (L2.upd H d v) h b x :=
  ok.stay (fun _ _ _ q => q) (fun c q => by rw [upd_ne (fun z => by rw [z] at q; exact no _ q)]; exact q) fun c xs q => by rw [upd_ne (fun z => by rw [z] at q; exact nt _ q)]; exact q
theorem Inv.freeze (I : Inv X pins σ H s) (e : H d = some u) (mu : Mut (some u)) : ∃ o, Inv X pins σ (upd H d (.frz o u)) s ∧ s.heap.get? d = some o := by
  have ok := I.hok d u e
  obtain ⟨o, ho⟩ : ∃ o, s.heap.get? d = some o := by
    cases u with
    | lst xs => obtain ⟨_, _, _, _, z⟩ := ok; exact ⟨_, z⟩
    | dK kvs => obtain ⟨_, _, _, _, o, _, _, z, _⟩ := ok; exact ⟨o, z⟩
    | dT kvs => obtain ⟨_, _, _, _, o, _, _, z, _⟩ := ok; exact ⟨o, z⟩
    | set S n => obtain ⟨o, _, _, _, z, _⟩ := ok; exact ⟨o, z⟩
    | ins C dx fs => obtain ⟨_, _, _, z, _⟩ := ok; exact ⟨_, z⟩
    | ext φ => obtain ⟨_, z, _⟩ := ok; exact z
    | _ => exact mu.elim
  have mu' : Mut (H d) := by rw [e]; exact mu
  refine ⟨o, I.write (t' := s.toks) (h' := s.heap) (x := d) (e := d) (o := .frz o u) mu' (.inl rfl) (fun b v _ q => q) ⟨o, ho⟩ ⟨ho, ?_⟩, ho⟩
  exact ok.upd (fun xs z => by rw [z] at mu'; exact mu') (fun y z => by rw [z] at mu'; exact mu')
theorem Inv.thaw (I : Inv X pins σ H s) (e : H d = some (.frz o u)) (nb : ∀ o' u', X.H₀ d ≠ some (.frz o' u')) : Inv X pins σ (upd H d u) s := by
  have ne : ∀ b, H b = none → b ≠ d := fun b n z => by rw [z, e] at n; cases n
  have nt : ∀ xs, H d ≠ some (.tup xs) := fun xs z => by rw [e] at z; cases z
  have no : ∀ y, H d ≠ some (.own y) := fun y z => by rw [e] at z; cases z
  have B := I.base
  refine ⟨I.ok, I.os, I.bare, ⟨B.keep, B.slot, fun b v q n hx => ?_, B.there, fun b xs q => ?_, fun b v w q => ?_, fun b ps q => ?_⟩, I.loc, I.cell, ?_, fun x c q => ?_, fun p hp => ?_, fun b v q => ?_, I.len⟩
  · have := B.free b v q n hx
    rw [upd_ne (ne b this)]; exact this
  · have := B.tups b xs q
    rw [upd_ne (fun z => by rw [z] at this; exact nt _ this)]; exact this
  · have := B.frzs b v w q
    rw [upd_ne (fun z => by rw [z] at q; exact nb _ _ q)]; exact this
  · obtain ⟨more, this⟩ := B.tbls b ps q
    exact ⟨more, by rw [upd_ne (fun z => by rw [z, e] at this; cases this)]; exact this⟩
  · rw [upd_ne (ne _ I.free)]; exact I.free
  · rw [upd_ne (ne _ (I.freeC x c q))]; exact I.freeC x c q
  · obtain ⟨h1, h2, h3⟩ := I.pin p hp
    exact ⟨h1, by rw [upd_ne (ne _ h2)]; exact h2, h3⟩
  · by_cases hb : b = d
    · subst hb
      rw [upd_same] at q; cases q
      obtain ⟨_, z⟩ := I.hok b _ e
      exact z.upd nt no
    · rw [upd_ne hb] at q
      exact (I.hok b v q).upd nt no
end
def frzD (D : Ends) (d : Addr) (o : Obj) (u : HO) : Ends :=
  ⟨fun σ1 H1 => H1 d = some (.frz o u) ∧ D.nx σ1 (upd H1 d u), fun v H1 => H1 d = some (.frz o u) ∧ D.rt v (upd H1 d u), fun σ1 H1 => H1 d = some (.frz o u) ∧ D.bk σ1 (upd H1 d u), fun σ1 H1 => H1 d = some (.frz o u) ∧ D.ct σ1 (upd H1 d u)⟩
def tFrz (t : TS) : TS := fun D σ H => ∃ d u, H d = some u ∧ Mut (some u) ∧ ∀ o, t (frzD D d o u) σ (upd H d (.frz o u))
theorem ps_frz {X : Cx} {a : Stmt} {t : TS} (h : PS X a t) : PS X a (tFrz t) := by
  intro pins s σ H D I ht
  obtain ⟨d, u, e, mu, q⟩ := ht
  have nb : ∀ o' u', X.H₀ d ≠ some (.frz o' u') := fun o' u' z => by
    have := I.base.frzs d o' u' z
    rw [e] at this; cases this; exact mu
  obtain ⟨o, I1, _⟩ := I.freeze e mu
  refine thn (h pins s σ _ _ I1 (q o)) fun f s' hf => ?_
  cases f with
  | next => obtain ⟨σ', H', I', e', k⟩ := hf; exact ⟨σ', _, I'.thaw e' nb, k⟩
  | brk => obtain ⟨σ', H', I', e', k⟩ := hf; exact ⟨σ', _, I'.thaw e' nb, k⟩
  | cont => obtain ⟨σ', H', I', e', k⟩ := hf; exact ⟨σ', _, I'.thaw e' nb, k⟩
  | ret v => obtain ⟨x, σ', H', I', r, e', k⟩ := hf; exact ⟨x, σ', _, I'.thaw e' nb, r, k⟩
def tFrzE (te : TE) : TE := fun σ H Q => ∃ d u, H d = some u ∧ Mut (some u) ∧ ∀ o, te σ (upd H d (.frz o u)) fun v H' => H' d = some (.frz o u) ∧ Q v (upd H' d u)
theorem pe_frz {X : Cx} {a : Expr} {te : TE} (h : PE X a te) : PE X a (tFrzE te) := by
  intro pins s σ H Q I ht
  obtain ⟨d, u, e, mu, q⟩ := ht
  have nb : ∀ o' u', X.H₀ d ≠ some (.frz o' u') := fun o' u' z => by
    have := I.base.frzs d o' u' z
    rw [e] at this; cases this; exact mu
  obtain ⟨o, I1, _⟩ := I.freeze e mu
  exact thn (h pins s σ _ _ I1 (q o)) fun v s' ⟨x, H', I', r, e', k⟩ => ⟨x, _, I'.thaw e' nb, r, k⟩
def szU : HO → Nat
  | .dK kvs => kvs.length
  | .dT kvs => kvs.length
  | _ => 0
def DictU : HO → Prop
  | .dK _ => True
  | .dT _ => True
  | _ => False
def KeyAt (H : Hp) : HO → Nat → V → V → Prop
  | .dK kvs, i, x, v => ∃ k, kvs[i]? = some (k, v) ∧ x = kV k
  | .dT kvs, i, x, v => ∃ k b, kvs[i]? = some (k, v) ∧ x = .ref b ∧ H b = some (.tup (k.map kV))
  | _, _, _, _ => False
theorem paired_get {α β : Type} {R : α → β → Prop} : ∀ {xs : List α} {ys : List β} (_ : Paired R xs ys) (i : Nat) (hi : i < ys.length), ∃ x, xs[i]? = some x ∧ R x ys[i]
  | _, _, .nil, i, hi => absurd hi (Nat.not_lt_zero _)
  | _, _, .cons r _, 0, _ => ⟨_, rfl, r⟩
  | _, _, .cons _ t, i + 1, hi => by
    obtain ⟨x, h1, h2⟩ := paired_get t i (by simpa using hi)
    exact ⟨x, by simpa using h1, by simpa using h2⟩
theorem raw_of {P : Program} {w : World} {H : Hp} {h : Heap} {d : Addr} {o : Obj} {u : HO} (ok : HOk P w H h) (e : H d = some (.frz o u)) (hu : DictU u) : (d == sysModules) = false ∧ h.get? d = some o ∧ o.ExactDict ∧
    ∃ es ep, o.data = .dict es ep ∧ es.size = szU u ∧ ∀ i (hi : i < es.size), ∃ x v, KeyAt H u i x v ∧ RelV x es[i].key ∧ RelV v es[i].val := by
  obtain ⟨ho, k⟩ := ok d _ e
  cases u with
  | dK kvs =>
    obtain ⟨z, hs, vs, rel, o', es, ep, h1, h2, h3, h4, h5, h6⟩ := k
    rw [ho] at h1; cases h1
    have hl : es.size = vs.length := by rw [← h5.length]; simp
    refine ⟨hs, ho, h2, es, ep, h3, by rw [hl, ← rel.length]; rfl, fun i hi => ?_⟩
    obtain ⟨p, hp, e1, r1⟩ := paired_get rel i (by omega)
    obtain ⟨q1, q2⟩ := h5.get? (i := i) (e := es[i]) (k := vs[i].1) (v := vs[i].2) (by simp [hi]) (by rw [List.getElem?_eq_getElem])
    refine ⟨kV p.1, p.2, ⟨p.1, hp, rfl⟩, ?_, by rw [q2]; exact r1⟩
    rw [← e1] at q1
    rcases keyIs_shape q1 with ⟨j, t, ek, ev⟩ | ⟨j, t, ek, ev⟩ <;> rw [ek, ev] <;> exact ⟨t, rfl⟩
  | dT kvs =>
    obtain ⟨z, hs, xs, rel, o', es, ep, h1, h2, h3, h4, h5⟩ := k
    rw [ho] at h1; cases h1
    have hl : es.size = xs.length := size_of_entries h4
    refine ⟨hs, ho, h2, es, ep, h3, by rw [hl, ← Paired.length rel]; rfl, fun i hi => ?_⟩
    obtain ⟨p, hp, e1, e2, r1⟩ := paired_get rel i (by omega)
    have ee : es[i] = entryOfKey (tupleKind (mixKind P w)) xs[i] := by
      have := entry_at h4 i
      rw [List.getElem?_eq_getElem (by omega), Array.getElem?_eq_getElem hi] at this
      exact Option.some.inj this
    refine ⟨.ref xs[i].2.1, p.2, ⟨p.1, _, hp, rfl, e2⟩, ?_, ?_⟩
    · rw [ee]; rfl
    · rw [ee]; exact r1
  | _ => exact hu.elim
section
variable {prog : Program} {w : World} {A : Around} {E : Value → Shared → Prop} {s : Shared} {d it : Addr} {o : Obj} {es : Array DictEntry} {i ep : Nat}
theorem rk_iter {Q : Value → Shared → Prop} (hd : (d == sysModules) = false) (ho : s.heap.get? d = some o) (hc : o.ExactDict) (hdat : o.data = .dict es ep)
    (hQ : Q (.ref s.heap.objs.size) { s with heap := s.heap.push { cls := .type "dict_keyiterator", data := .fields #[.ref d, .int 0 0, .int es.size 0, .int ep 0] } }) : wpAny (model prog w) A (pyIter (.ref d)) Q E s := by
  have hT : s.TypeIs (.ref d) "dict" := ⟨o, ho, hc.1⟩
  refine wpAny_pyIter_slot hT F.slot_dict_iter (wpAny_call_entry F.slot_dict_iter hT F.entry_dict_iter ?_ (F.args_dict_iter_1 _))
  unfold Builtin.«dict.__iter__» Builtin.Dict.dictSlotNone
  refine wpAny_bind (wpAny_bind (wpAny_notOrdered_dict hT ?_))
  show wpAny _ _ (pure (Value.ref d)) _ _ s
  refine wpAny_pure ?_
  show wpAny _ _ (Builtin.Dict.showsAll d >>= _) _ _ s
  unfold Builtin.Dict.showsAll
  rw [if_neg (by rw [hd]; exact Bool.false_ne_true)]
  refine wpAny_bind (wpAny_pure (wpAny_bind (wpAny_dictEntries ho hdat (wpAny_bind (wpAny_dictEpoch ho hdat ?_)))))
  refine wpAny_bind (wpAny_newObj_type (wpAny_pure ⟨_, rfl, "dict_keyiterator", _, ⟨_, Heap.get?_push_size _ rfl, rfl⟩, F.slot_dict_keyiterator_next.lookup, ?_⟩))
  simpa [rawInt] using hQ
theorem rk_next {Q : Option Value → Shared → Prop} (hit : s.heap.IsKeyIter it d i es.size ep) (hod : s.heap.get? d = some o) (hdd : o.data = .dict es ep) (hi : i < es.size)
    (hQ : ∀ h', h'.IsKeyIter it d (i + 1) es.size ep → Heap.SameBut it s.heap h' → Q (some es[i].key) { s with heap := h' }) : wpAny (model prog w) A (pyNext (.ref it)) Q E s := by
  obtain ⟨oi, ho, hc, hd⟩ := id hit
  unfold pyNext
  refine wpAny_bind (wpAny_attempt (wpAny_callSpecial?_slot (name := Str.ofString "__next__") hit.typeIs F.slot_dict_keyiterator_next
    (wpAny_call_entry F.slot_dict_keyiterator_next hit.typeIs F.entry_dict_keyiterator_next ?_ (F.args_dict_keyiterator_next_1 _))))
  refine wpAny_bind (wpAny_pure (wpAny_bind (wpAny_bind ?_)))
  first | refine wpAny_bind (wpAny_typeNameOfWhole_keyiter hit.typeIs (wpAny_pure ?_)) | refine wpAny_bind (wpAny_typeNameOf_keyiter hit.typeIs (wpAny_pure ?_))
  refine wpAny_bind (wpAny_fieldsOf ho hd ?_)
  simp only [show Builtin.Dict_items.ownsTuple "dict_keyiterator" = false by decide, Bool.false_eq_true, if_false]
  show wpAny _ _ (if (Value.ref d == Value.none) = true then _ else _) _ _ s
  rw [if_neg (show ¬ ((Value.ref d == Value.none) = true) from Bool.false_ne_true)]
  refine wpAny_bind (wpAny_pure (wpAny_bind (wpAny_dictEntries hod hdd ?_)))
  rw [if_neg (by simp)]
  refine wpAny_bind (wpAny_pure (wpAny_bind (wpAny_dictEpoch hod hdd ?_)))
  rw [if_neg (by simp)]
  refine wpAny_pure ?_
  simp only [show ¬ ((i : Int) < 0) from by omega, if_false, Int.toNat_natCast, Array.getElem?_eq_getElem hi]
  refine wpAny_bind ?_
  first | refine wpAny_bind (wpAny_typeNameOfWhole_keyiter hit.typeIs (wpAny_pure ?_)) | refine wpAny_bind (wpAny_typeNameOf_keyiter hit.typeIs (wpAny_pure ?_))
  refine wpAny_bind (wpAny_isOneOf_keyiter hit.typeIs ?_)
  show wpAny _ _ (setField (.ref it) 1 (rawInt ((i : Int) + 1)) >>= _) _ _ s
  refine wpAny_bind (wpAny_setField ho hd (by simp) ?_)
  have new : (s.heap.update it (Obj.mapFields (·.setIfInBounds 1 (rawInt ((i : Int) + 1))))).IsKeyIter it d (i + 1) es.size ep :=
    ⟨_, Heap.get?_update_self _ ho (Obj.isFreed_of_fields (Obj.data_mapFields hd _)), (Obj.cls_mapFields ..).trans hc, by rw [Obj.data_mapFields hd]; simp [rawInt]⟩
  refine wpAny_bind (wpAny_holding (wpAny_bind (wpAny_isOneOf_keyiter (s := { s with heap := s.heap.update it (Obj.mapFields (·.setIfInBounds 1 (rawInt ((i : Int) + 1)))) }) new.typeIs ?_)))
  show wpAny _ _ (pure es[i].key) _ _ _
  exact wpAny_pure (wpAny_pure ⟨_, rfl, wpAny_pure (hQ _ new (Heap.SameBut.update ..))⟩)
theorem rk_end {Q : Option Value → Shared → Prop} (hh : A.handled = none) (hit : s.heap.IsKeyIter it d i es.size ep) (hod : s.heap.get? d = some o) (hdd : o.data = .dict es ep) (hi : es.size ≤ i)
    (hQ : ∀ h', Heap.ExtBut it s.heap h' → Q none { s with heap := h' }) : wpAny (model prog w) A (pyNext (.ref it)) Q E s := by
  obtain ⟨oi, ho, hc, hd⟩ := id hit
  unfold pyNext
  refine wpAny_bind (wpAny_attempt (wpAny_callSpecial?_slot (name := Str.ofString "__next__") hit.typeIs F.slot_dict_keyiterator_next
    (wpAny_call_entry F.slot_dict_keyiterator_next hit.typeIs F.entry_dict_keyiterator_next ?_ (F.args_dict_keyiterator_next_1 _))))
  refine wpAny_bind (wpAny_pure (wpAny_bind (wpAny_bind ?_)))
  first | refine wpAny_bind (wpAny_typeNameOfWhole_keyiter hit.typeIs (wpAny_pure ?_)) | refine wpAny_bind (wpAny_typeNameOf_keyiter hit.typeIs (wpAny_pure ?_))
  refine wpAny_bind (wpAny_fieldsOf ho hd ?_)
  simp only [show Builtin.Dict_items.ownsTuple "dict_keyiterator" = false by decide, Bool.false_eq_true, if_false]
  show wpAny _ _ (if (Value.ref d == Value.none) = true then _ else _) _ _ s
  rw [if_neg (show ¬ ((Value.ref d == Value.none) = true) from Bool.false_ne_true)]
  refine wpAny_bind (wpAny_pure (wpAny_bind (wpAny_dictEntries hod hdd ?_)))
  rw [if_neg (by simp)]
  refine wpAny_bind (wpAny_pure (wpAny_bind (wpAny_dictEpoch hod hdd ?_)))
  rw [if_neg (by simp)]
  refine wpAny_pure ?_
  simp only [show ¬ ((i : Int) < 0) from by omega, if_false, Int.toNat_natCast, Array.getElem?_eq_none hi]
  refine wpAny_bind ?_
  first | refine wpAny_bind (wpAny_typeNameOfWhole_keyiter hit.typeIs (wpAny_pure ?_)) | refine wpAny_bind (wpAny_typeNameOf_keyiter hit.typeIs (wpAny_pure ?_))
  show wpAny _ _ (setField (.ref it) 0 .none >>= _) _ _ s
  refine wpAny_bind (wpAny_setField ho hd (by simp) ?_)
  show wpAny _ _ (newExc (.type "StopIteration") [] >>= _) _ _ _
  refine wpAny_bind ?_
  simp only [newExc, newTuple]
  refine wpAny_bind (wpAny_newObj_type ?_ (by size_fits))
  refine wpAny_bind (m := firstArgMember _ _) (wpAny_of_eq (a := Value.none) (by first | rfl | (simp only [firstArgMember]; rfl)) (wpAny_newObj_type ?_ (by size_fits)))
  simp only [raiseNew]
  refine wpAny_bind (wpAny_handled ?_)
  rw [show A.in1.handled = none from hh]
  refine wpAny_bind (wpAny_pure (wpAny_throw ?_))
  refine wpAny_bind (wpAny_isInstance (T := "StopIteration") (b := true) ⟨_, Heap.get?_push_size _ rfl, rfl⟩ isSubtype_stop ?_)
  exact wpAny_pure (hQ _ (((Heap.SameBut.update ..).extBut.push _).push _))
end
def Itk (d : Addr) (o : Obj) (u : HO) : It :=
  ⟨fun i H => H d = some (.frz o u) ∧ i < szU u, fun i H x H' => H' = H ∧ ∃ v, KeyAt H u i x v, fun i H => H d = some (.frz o u) ∧ szU u ≤ i⟩
theorem keyiter_at {h h' : Heap} {it d : Addr} {i n ep : Nat} (x : h.IsKeyIter it d i n ep) (k : ∀ o, h.get? it = some o → h'.get? it = some o) : h'.IsKeyIter it d i n ep := let ⟨o, ho, r⟩ := x; ⟨o, k _ ho, r⟩
theorem turn_keys {P : Program} {w : World} {K : PySem.W.Frag} {tg : Expr} (d it : Addr) (o : Obj) (u : HO) (hu : DictU u) (es : Array DictEntry) (ep : Nat) (hd : o.data = .dict es ep) :
    Turn P w K tg (Itk d o u) [it] it (fun i h => h.IsKeyIter it d i es.size ep) where
  mem := by simp
  obj := fun i h st b hb => by
    rw [List.mem_singleton.mp hb]
    obtain ⟨oi, e, c, q⟩ := st
    exact ⟨oi, e, fun v z => by rw [q] at z; cases z⟩
  keep := fun i h h' st k => keyiter_at st fun oi e => k it (by simp) oi e
  item := by
    intro X hP hw hK hc i pins s σ H E I hf st hg
    subst hP hw hK
    obtain ⟨hH, hi⟩ := hg
    obtain ⟨_, hod, _, es', ep', hd', hz, hall⟩ := raw_of I.hok hH hu
    rw [hd] at hd'; cases hd'
    obtain ⟨f0, f1, f2, f3, f4, f5⟩ := hf it (by simp)
    have hi' : i < es.size := by omega
    obtain ⟨x, v, hk, r1, r2⟩ := hall i hi'
    refine rk_next st hod hd hi' fun h' st' sb => ?_
    have I1 : Inv X pins σ H { s with heap := h' } := I.turned (t' := s.toks) (fun b ob hb e => (sb.2 b hb).trans e) f0 f1 f3 f4 f5
    obtain ⟨oi, e, c, q⟩ := id st'
    exact ⟨_, rfl, go_of (s := { s with heap := h' }) e c q (by decide) ⟨x, H, I1, r1, ⟨rfl, v, hk⟩, st', fun b hb => (hf b hb).1⟩⟩
  done := by
    intro X hP hw hK hc i pins s σ H E I hf st hg
    subst hP hw hK
    obtain ⟨hH, hi⟩ := hg
    obtain ⟨_, hod, _, es', ep', hd', hz, hall⟩ := raw_of I.hok hH hu
    rw [hd] at hd'; cases hd'
    obtain ⟨f0, f1, f2, f3, f4, f5⟩ := hf it (by simp)
    exact rk_end (I.ok.hd hc) st hod hd (by omega) fun h' eb => ⟨rfl, I.turned (t' := s.toks) (fun b ob hb e => eb b ob hb e) f0 f1 f3 f4 f5⟩
  self := fun A i s Q E st h => by
    refine wpAny_pyIter_slot st.typeIs F.slot_dict_keyiterator_iter (wpAny_call_entry F.slot_dict_keyiterator_iter st.typeIs F.entry_dict_keyiterator_iter ?_ (F.args_dict_keyiterator_iter_1 _))
    show wpAny _ _ (ret (.ref it)) _ _ s
    exact wpAny_pure ⟨_, rfl, "dict_keyiterator", _, st.typeIs, F.slot_dict_keyiterator_next.lookup, h⟩
def iKeys (te : TE) : TI := fun σ H R => te σ H fun x H1 => ∃ d o u, x = .ref d ∧ H1 d = some (.frz o u) ∧ DictU u ∧ R (Itk d o u) H1
theorem pi_keys {X : Cx} {tg e : Expr} {te : TE} (he : PE X e te) : PI X tg e (iKeys te) := by
  intro pins s σ H R I h
  refine thn (he pins s σ H _ I h) fun v s1 ⟨x, H1, I1, r, d, o, u, ex, hd, hu, q⟩ => ?_
  subst ex
  cases (show v = Value.ref d from r)
  obtain ⟨hS, hod, hc, es, ep, hdd, hz, _⟩ := raw_of I1.hok hd hu
  refine rk_iter hS hod hc hdd ?_
  have kk : ∀ b ob, s1.heap.get? b = some ob → (s1.heap.push { cls := .type "dict_keyiterator", data := .fields #[.ref d, .int 0 0, .int es.size 0, .int ep 0] }).get? b = some ob := fun b ob z => Heap.get?_push_of_some _ z
  refine ⟨s1.heap.objs.size, [s1.heap.objs.size], _, _, H1, rfl, I1.kept (t' := s1.toks) kk, turn_keys d _ o u hu es ep hdd, ⟨_, Heap.get?_push_size _ rfl, rfl, rfl⟩, fun b hb => ?_, q⟩
  rw [List.mem_singleton.mp hb]
  exact I1.fpOk (Nat.le_refl _) (I1.hok.fresh (Nat.le_refl _))
section
variable {prog : Program} {w : World} {A : Around} {E : Value → Shared → Prop} {s : Shared} {d it v : Addr} {o : Obj} {es : Array DictEntry} {i ep : Nat} {ok ov : Value}
end
end L2
namespace L2
open PySem PySem.Spec PyProof.Rows
section
variable {X : Cx}
end
section
variable {prog : Program} {w : World} {A : Around} {E : Value → Shared → Prop} {s : Shared} {d : Addr} {o : Obj} {es : Array DictEntry} {ep : Nat}
theorem len_raw {Q : Value → Shared → Prop} (hd : (d == sysModules) = false) (ho : s.heap.get? d = some o) (hc : o.ExactDict) (hdat : o.data = .dict es ep) (hz : es.size ≤ sizeLine)
    (h : Q (.int es.size (s.toks + 1)) { s with toks := s.toks + 1 + 1 }) : wpAny (model prog w) A (call (.builtin "len") [.ref d]) Q E s := by
  have hT : s.TypeIs (.ref d) "dict" := ⟨o, ho, hc.1⟩
  have hsl : sizeLine = 2 ^ 24 := rfl
  refine PyProof.Rows.call_len_slot (n := es.size) hT F.slot_dict_len (fun Q' hq => wpAny_call_entry F.slot_dict_len hT F.entry_dict_len ?_ (F.args_dict_len_1 _)) (by omega) (by omega) h
  show wpAny _ _ (dictSize d >>= _) _ _ s
  unfold dictSize
  refine wpAny_bind (wpAny_bind (wpAny_dictEntries ho hdat (wpAny_pure ?_)))
  show wpAny _ _ (Builtin.Dict.pendingCount d >>= _) _ _ s
  refine wpAny_bind (wpAny_pendingCount_other hd (wpAny_ret_mkInt ?_))
  simpa using hq
end
section
variable {X : Cx}
theorem call_lenDT : CallR X (.builtin "len") (fun xs H Q => ∃ a kvs, xs = [V.ref a] ∧ Rd H a (.dT kvs) ∧ Q (.int kvs.length) H) := by
  intro pins s σ H xs us Q I r h
  obtain ⟨a, kvs, rfl, ha, q⟩ := h
  obtain ⟨u, rfl, ru⟩ := vals1 r
  cases ru
  obtain ⟨z, hd, xs, rel, o, es, ep, ho, hc, hdat, he, _⟩ := dt_rd I.hok ha
  have e1 := size_of_entries he
  have e2 := Paired.length rel
  refine len_raw hd ho hc hdat (by omega) ⟨.int kvs.length, H, I.tok _, ⟨s.toks + 1, ?_⟩, q⟩
  rw [e1, e2]
end
section
variable {X : Cx}
end
end L2
namespace L2
open PySem PySem.Spec PyProof.Rows
def hAt (es : Array (Int × Value)) (i : Nat) : Int := (es[i]?.map (·.1)).getD 0
def addT (t : SetTable) (es : Array (Int × Value)) (h : Int) (x : Value) : Option (SetTable × Array (Int × Value)) :=
  if t.gaveWay = true then none else
  match t.probe (hAt es) h (t.probeStart h) with
  | some (.empty j none) => if (t.put j).1.tooFull = true then none else if (t.put j).1.fits (SetTable.insertAt es (t.put j).2 (h, x)).size = true then some ((t.put j).1, SetTable.insertAt es (t.put j).2 (h, x)) else none
  | _ => none
section
variable {prog : Program} {w : World} {A : Around} {E : Value → Shared → Prop} {s : Shared}
theorem hbv_ints {b : Addr} {o : Obj} {items : Array Value} {n : Nat} {Q : Bool → Shared → Prop} (ho : s.heap.get? b = some o) (hc : o.cls = .type "tuple") (hd : o.data = .seq items n) (hi : ∀ v ∈ items, ∃ i t, v = Value.int i t) (h : Q true s) :
    wpAny (model prog w) A (hashByValue 8 (.ref b)) Q E s := by
  have hT : s.TypeIs (.ref b) "tuple" := ⟨o, ho, hc⟩
  unfold hashByValue
  refine wpAny_bind (wpAny_specialOf hT F.slot_tuple_hash.lookup ?_)
  dsimp only
  refine wpAny_bind ?_
  unfold seqItems?
  refine wpAny_bind (wpAny_load ho ?_)
  rw [hd]
  refine wpAny_pure (wpAny_bind ?_)
  show wpAny _ _ (forIn items _ _) _ _ _
  rw [← Array.forIn_toList]
  refine wpAny_forIn_list _ (fun rest q s' => s' = s ∧ q = (none, ()) ∧ ∀ v ∈ rest, ∃ i t, v = Value.int i t) _ ?_ ?_ _ _ ⟨rfl, rfl, fun v hv => hi v (Array.mem_toList_iff.mp hv)⟩
  · rintro v rest q s' ⟨rfl, rfl, hr⟩
    obtain ⟨i, t, rfl⟩ := hr v List.mem_cons_self
    have e : hashByValue 7 (.int i t) = pure true := by simp [hashByValue]
    rw [e]
    exact wpAny_bind (wpAny_pure (by
      show wpAny _ _ (if (!true) = true then _ else _) _ _ _
      rw [if_neg (by decide)]
      exact wpAny_pure ⟨rfl, rfl, fun x hx => hr x (List.mem_cons_of_mem _ hx)⟩))
  · rintro q s' ⟨rfl, rfl, _⟩
    exact wpAny_pure h
theorem setAdd_free {K : Type} [DecidableEq K] {knd : HeapKind prog w K} {a b : Addr} {k : K} {o : Obj} {es es' : Array (Int × Value)} {ep : Nat} {t t' : SetTable} {Q : Bool → Shared → Prop} (hr : knd.room A) (hk : knd.is s.heap k b) (ho : s.heap.get? a = some o) (hd : o.data = .set es ep t) (hf : t.fits es.size = true) (hz : es'.size < 1000)
    (hv : ∀ (tk : Nat) (Q' : Bool → Shared → Prop), Q' true { s with toks := tk } → wpAny (model prog w) A (hashByValue 8 (.ref b)) Q' E { s with toks := tk })
    (e : addT t es (knd.hash k) (.ref b) = some (t', es'))
    (h : ∀ h', Heap.SameBut a s.heap h' → h'.get? a = some { o with data := .set es' (ep + 1) t' } → Q true { s with heap := h', toks := s.toks + knd.draws k }) :
    wpAny (model prog w) A (setAdd a (.ref b)) Q E s := by
  unfold addT at e
  split at e
  · cases e
  · rename_i hg
    split at e
    · rename_i j hp
      split at e
      · cases e
      · rename_i hfull
        split at e
        · rename_i hfit
          injection e with e
          injection e with e1 e2
          unfold setAdd
          refine wpAny_holding (wpAny_bind (knd.pyHash hr hk ?_))
          unfold setAddHashed
          refine wpAny_holding ?_
          show wpAny _ _ (setAddHashedIn a (.ref b) (knd.hash k) (99999 + 1)) _ _ _
          unfold setAddHashedIn
          refine wpAny_bind (wpAny_setState_of (s := { s with toks := s.toks + knd.draws k }) ho hd hf ?_)
          dsimp only
          rw [if_neg (show ¬ byScan (.ref b) es = true by simp [byScan, Value.scannable])]
          refine wpAny_bind ?_
          unfold setSearch
          show wpAny _ _ (setSearchFrom a (.ref b) (knd.hash k) true (99999 + 1) none) _ _ _
          unfold setSearchFrom
          refine wpAny_bind (wpAny_setState_of (s := { s with toks := s.toks + knd.draws k }) ho hd hf ?_)
          dsimp only
          rw [if_neg hg]
          split
          · rename_i met hm
            have em : met = .empty j none := Option.some.inj (hm.symm.trans hp)
            subst em
            dsimp only
            refine wpAny_pure ?_
            dsimp only
            refine wpAny_bind (wpAny_setState_of (s := { s with toks := s.toks + knd.draws k }) ho hd hf ?_)
            dsimp only
            subst e1 e2
            have tail : wpAny (model prog w) A (storeSet a (SetTable.insertAt es (t.put j).2 (knd.hash k, .ref b)) (t.put j).1 >>= fun _ => if (!false && (t.put j).1.tooFull) = true then (setRelay a (SetTable.grown (es.size + 1)) >>= fun _ => pure true) else pure true) Q E { s with toks := s.toks + knd.draws k } := by
              refine wpAny_bind (wpAny_storeSet_of (s := { s with toks := s.toks + knd.draws k }) ho hd ?_ (by have : sizeLine = 2 ^ 24 := rfl; omega))
              rw [if_neg (by simpa using hfull)]
              refine wpAny_pure (h _ (Heap.SameBut.update ..) ?_)
              have := Heap.get?_update_self (Obj.putSet (SetTable.insertAt es (t.put j).2 (knd.hash k, .ref b)) (t.put j).1) ho (by rw [putSet_of _ _ hd]; rfl)
              rw [putSet_of _ _ hd] at this
              exact this
            split
            · refine wpAny_bind (hv _ _ ?_)
              rw [if_pos (rfl : true = true)]
              exact tail
            · refine wpAny_bind (wpAny_pure ?_)
              rw [if_pos (rfl : true = true)]
              exact tail
          · rename_i hm
            exact (hm _ hp).elim
        · cases e
    · cases e
end
section
variable {prog : Program} {w : World} {A : Around} {R : Result → Shared → Prop} {I : Addr} {fp wr : List Addr} {G : Array GenState → Array GenState → Prop} {n : Nat} {P : Nat → Value → Prop} {St : Nat → Shared → Prop}
def ITup (h : Heap) (k : List Int) (b : Addr) : Prop := ∃ o items c, h.get? b = some o ∧ o.cls = .type "tuple" ∧ o.data = .seq items c ∧ IntsAre items.toList k
theorem loop_tups (W : WalksS prog w A.in1 I fp wr G n P St) (S : Addr) (hSf : S ∉ fp) (knd : HeapKind prog w (List Int)) (hroom : knd.room A.in1) (his : ∀ h k b, ITup h k b → knd.is h k b) (ad : Nat → Addr) (key : Nat → List Int) (hval : ∀ i v, P i v → v = .ref (ad i))
    (had : ∀ i, i < n → ad i ≠ S ∧ ad i ∉ wr) (T : Nat → SetTable) (Es : Nat → Array (Int × Value)) (hadd : ∀ i, i < n → addT (T i) (Es i) (knd.hash (key i)) (.ref (ad i)) = some (T (i + 1), Es (i + 1))) (hfit : ∀ i, i ≤ n → (T i).fits (Es i).size = true ∧ (Es i).size < 1000) :
    ∀ (k i : Nat) (s : Shared), n - i = k → i ≤ n → St i s → (∀ j, j < n → ITup s.heap (key j) (ad j)) → (∃ o ep, s.heap.get? S = some o ∧ o.ExactSet ∧ o.data = .set (Es i) ep (T i)) →
      (∀ s', Moved (S :: wr) G s s' → (∃ o ep, s'.heap.get? S = some o ∧ o.ExactSet ∧ o.data = .set (Es n) ep (T n)) → R (.ok (.ret .none)) s') →
      codeAny (model prog w) A (.builtin "set.update.loop" ⟨[.ref S, .ref I], []⟩) R s := by
  have hSw : S ∉ wr := fun h => hSf (W.sub _ h)
  have more : ∀ b ∈ wr, b ∈ S :: wr := fun b hb => List.mem_cons_of_mem _ hb
  have it_kept : ∀ {h h' : Heap} {k b}, ITup h k b → (∀ o, h.get? b = some o → h'.get? b = some o) → ITup h' k b := fun ⟨o, its, c, h1, h2⟩ f => ⟨o, its, c, f o h1, h2⟩
  intro k
  induction k with
  | zero =>
    intro i s hk hi hst ht hS hR
    obtain rfl : i = n := by omega
    refine codeAny_builtin F.entry_set_update_loop ?_
    rw [Around.under_plainId F.plain_set_update_loop _]
    show wpAny _ A.in1 (pyNext (.ref I) >>= _) _ _ s
    refine wpAny_bind (W.done s _ _ hst fun s' hm => wpAny_pure (hR s' (hm.mono more) ?_))
    obtain ⟨o, ep, h1, h2⟩ := hS
    exact ⟨o, ep, hm.heap S _ hSw h1, h2⟩
  | succ k ih =>
    intro i s hk hi hst ht hS hR
    have hlt : i < n := by omega
    refine codeAny_builtin F.entry_set_update_loop ?_
    rw [Around.under_plainId F.plain_set_update_loop _]
    show wpAny _ A.in1 (pyNext (.ref I) >>= _) _ _ s
    refine wpAny_bind (W.item i s _ _ hlt hst fun v s' hP hst' hm => ?_)
    obtain rfl := hval i v hP
    obtain ⟨o, ep, h1, h2, h3⟩ := hS
    have ht' : ∀ j, j < n → ITup s'.heap (key j) (ad j) := fun j hj => it_kept (ht j hj) fun o q => hm.heap _ o (had j hj).2 q
    obtain ⟨ob, its, c, g1, g2, g3, g4⟩ := id (ht' i hlt)
    show wpAny _ A.in1 (holding [Value.ref (ad i)] (setAdd S (.ref (ad i))) >>= _) _ _ s'
    refine wpAny_bind (wpAny_holding ?_)
    refine setAdd_free (knd := knd) (s := s') hroom (his _ _ _ (ht' i hlt)) (hm.heap S _ hSw h1) h3 (hfit i hi).1 (hfit (i + 1) hlt).2 (fun tk Q' q => hbv_ints (s := { s' with toks := tk }) g1 g2 g3 (fun v hv => ?_) q) (hadd i hlt) fun h' sb hg => ?_
    · exact g4.allInts v (by simpa using hv)
    · refine wpAny_pure ⟨plainId_quiet F.plain_set_update_loop _, ih (i + 1) _ (by omega) hlt (W.frame _ s' _ _ hst' (Nat.le_add_right _ _) fun b hb o e => ?_) (fun j hj => it_kept (ht' j hj) fun o q => ?_) ⟨_, _, hg, h2, rfl⟩ fun s'' hm'' hS'' => ?_⟩
      · rw [sb.2 b (fun z => hSf (z ▸ hb))]; exact e
      · rw [sb.2 _ (had j hj).1]; exact q
      · refine hR s'' (Moved.trans W.gtrans ((hm.mono more).then_heap (Nat.le_add_right _ _) fun b o hb e => ?_) hm'') hS''
        rw [sb.2 b (fun z => hb (by rw [z]; exact List.mem_cons_self))]; exact e
end
abbrev set0 (led : Bool) : Obj := { cls := .type "set", dict := none, data := .set #[] 0 (.fresh 0 0 led) }
set_option maxHeartbeats 3200000 in
theorem call_set_tups {prog : Program} {w : World} {A : Around} {E : Value → Shared → Prop} {s : Shared} {l : Addr} {as : List Addr} {Q : Value → Shared → Prop} (hh : A.handled = none) (hl : s.heap.IsList l (as.map Value.ref).toArray)
    (knd : HeapKind prog w (List Int)) (hroom : knd.room A.in1.in1.in1) (his : ∀ h k b, ITup h k b → knd.is h k b) (key : Nat → List Int) (htup : ∀ j, j < as.length → ITup s.heap (key j) (as.getD j 0))
    (T : Bool → Nat → SetTable) (Es : Bool → Nat → Array (Int × Value)) (h0 : ∀ led, T led 0 = .fresh 0 0 led ∧ Es led 0 = #[]) (hadd : ∀ led i, i < as.length → addT (T led i) (Es led i) (knd.hash (key i)) (.ref (as.getD i 0)) = some (T led (i + 1), Es led (i + 1)))
    (hfit : ∀ led i, i ≤ as.length → (T led i).fits (Es led i).size = true ∧ (Es led i).size < 1000)
    (h : ∀ (led : Bool) (h' : Heap) (tk : Nat), (∃ o ep, h'.get? s.heap.objs.size = some o ∧ o.ExactSet ∧ o.data = .set (Es led as.length) ep (T led as.length)) → (∀ b o, b < s.heap.objs.size → s.heap.get? b = some o → h'.get? b = some o) →
      Q (.ref s.heap.objs.size) { s with heap := h', toks := tk }) : wpAny (model prog w) A (call (.type "set") [.ref l]) Q E s := by
  obtain ⟨c0, tl0, hmro⟩ := F.called_set.mro
  have made := F.called_set.made
  have sub := F.called_set.sub
  have nt := F.called_set.notType
  have cc := F.called_set.canCreate
  have ck := F.typeCall_set_1 (.ref l)
  refine wpAny_call (codeAny_of_tree ?_)
  show wpAny _ _ (callAny (.type "set") ⟨[.ref l], []⟩) _ _ _
  refine wpAny_pure ⟨Code.quiet_builtin _ (by decide +kernel), codeAny_builtin F.entry_type_call ?_⟩
  rw [Around.under_plain (weight_type_call_type "set" [.ref l] []) rfl]
  repeat (any_goals (first | assumption | wp_step))
  refine codeAny_mono (code_set_new_1 (.ref l) (E := E) (Q₁ := fun v s₁ => ∃ led : Bool, v = .ref s.heap.objs.size ∧ s₁ = { s with heap := s.heap.push (set0 led) }) fun led => ⟨led, rfl, rfl⟩) fun r s₁ hr => ?_
  match r, hr with
  | .error e, hr => exact hr
  | .ok (.ret v), ⟨led, ev, es⟩ =>
    subst ev es
    have hS : (s.heap.push (set0 led)).get? s.heap.objs.size = some (set0 led) := Heap.get?_push_size _ rfl
    have hT : Shared.TypeIs { s with heap := s.heap.push (set0 led) } (.ref s.heap.objs.size) "set" := ⟨_, hS, rfl⟩
    have li := F.called_set.init.lookup
    have bi := F.called_set.init.bind (.ref s.heap.objs.size)
    repeat (any_goals (first | assumption | wp_step))
    refine codeAny_mono (codeAny_call_builtin (R := wants (fun r s₂ => r = .none ∧ ∃ h' tk, s₂ = { s with heap := h', toks := tk } ∧ (∃ o ep, h'.get? s.heap.objs.size = some o ∧ o.ExactSet ∧ o.data = .set (Es led as.length) ep (T led as.length)) ∧
      ∀ b o, b < s.heap.objs.size → s.heap.get? b = some o → h'.get? b = some o) E) F.called_set.init.plain F.entry_set_init (check_set_init_1 hT ?_)) fun r₂ s₂ hr₂ => ?_
    · have lt : l < s.heap.objs.size := by obtain ⟨o, ho, _⟩ := hl; exact Heap.lt_size ho
      obtain ⟨⟨oc, od, odt, osl⟩, hol, hcl, nl, hdl⟩ := id hl
      simp only at hcl hdl
      subst hcl hdl
      have hol' : (s.heap.push (set0 led)).get? l = some ⟨.type "list", od, .seq (as.map Value.ref).toArray nl, osl⟩ := Heap.get?_push_of_some _ hol
      have n1 := F.sub_list_set
      have n2 := F.sub_list_frozenset
      have n3 : (Value.type "list" == Value.type "dict") = false := by decide
      have hl1 : (s.heap.push (set0 led)).IsList l (as.map Value.ref).toArray := ⟨_, hol', rfl, nl, rfl⟩
      unfold Builtin.«set.__init__» noKeywords Builtin.Frozenset.updateFrom
      generalize ePI : pyIter = PI
      wp_walk
      subst ePI
      refine wpAny_pyIter_list hl1 (wpAny_bind (wpAny_runValue ?_))
      have sz1 : (s.heap.push (set0 led)).objs.size = s.heap.objs.size + 1 := Heap.size_push ..
      have hd3 : A.in1.in1.in1.handled = none := by simp [hh]
      have neI : l ≠ (s.heap.push (set0 led)).objs.size := by rw [sz1]; exact Nat.ne_of_lt (Nat.lt_succ_of_lt lt)
      have nS : s.heap.objs.size ∉ [(s.heap.push (set0 led)).objs.size, l] := by
        rw [sz1]
        intro z
        rcases List.mem_cons.mp z with z | z
        · exact absurd z (Nat.ne_of_lt (Nat.lt_succ_self _))
        · exact absurd (List.mem_singleton.mp z) (Nat.ne_of_gt lt)
      have hld : ∀ j, j < as.length → as.getD j 0 < s.heap.objs.size := fun j hj => by obtain ⟨o, _, _, h1, _⟩ := htup j hj; exact Heap.lt_size h1
      refine loop_tups ((Walks.list hd3 _ l neI (as.map Value.ref).toArray).toS) s.heap.objs.size nS knd hroom his (fun i => as.getD i 0) key (fun i v hv => ?_) (fun i hi => ?_) (T led) (Es led) (fun i hi => hadd led i (by simpa using hi)) (fun i hi => hfit led i (by simpa using hi))
        ((as.map Value.ref).toArray.size - 0) 0 _ (by omega) (Nat.zero_le _) ⟨⟨_, Heap.get?_push_size _ rfl, rfl, rfl⟩, (hl1.push _)⟩ (fun j hj => ?_) ?_ fun s' hm hS' => ?_
      · have hv' : (as.map Value.ref).toArray[i]? = some v := hv
        rw [List.getElem?_toArray, List.getElem?_map] at hv'
        obtain ⟨x, hx, rfl⟩ := Option.map_eq_some_iff.mp hv'
        show _ = Value.ref (as.getD i 0)
        rw [List.getD_eq_getElem?_getD, hx]; rfl
      · have hi' : i < as.length := by simpa using hi
        have := hld i hi'
        refine ⟨Nat.ne_of_lt this, fun z => ?_⟩
        have z' := List.mem_singleton.mp z
        rw [sz1] at z'
        exact absurd z' (Nat.ne_of_lt (Nat.lt_succ_of_lt this))
      · obtain ⟨o, its, c, q1, q2⟩ := htup j (by simpa using hj)
        exact ⟨o, its, c, Heap.get?_push_of_some _ (Heap.get?_push_of_some _ q1), q2⟩
      · refine ⟨_, 0, Heap.get?_push_of_some _ hS, ⟨rfl, rfl, rfl⟩, ?_⟩
        rw [(h0 led).1, (h0 led).2]
      · obtain ⟨h', g', d', tk', os'⟩ := s'
        obtain rfl : g' = s.gens := hm.gens
        obtain rfl : d' = s.drawn := hm.drawn
        obtain rfl : os' = s.os := hm.os
        refine wpAny_pure ?_
        show wpAny _ _ (ret Value.none) _ _ _
        refine wpAny_pure ⟨rfl, h', tk', rfl, by simpa using hS', fun b o hb e => hm.heap b o (fun z => ?_) (Heap.get?_push_of_some _ (Heap.get?_push_of_some _ e))⟩
        rcases List.mem_cons.mp z with z | z
        · exact absurd z (Nat.ne_of_lt hb)
        · have z' := List.mem_singleton.mp z
          rw [sz1] at z'
          exact absurd z' (Nat.ne_of_lt (Nat.lt_succ_of_lt hb))
    · match r₂, hr₂ with
      | .error e, z => exact z
      | .ok (.ret v), ⟨e1, h', tk, e2, z1, z2⟩ =>
        subst e1 e2
        repeat (any_goals (first | assumption | wp_step))
        exact h led h' tk z1 z2
      | .ok .next, z => exact z.elim
      | .ok .brk, z => exact z.elim
      | .ok .cont, z => exact z.elim
  | .ok .next, hr => exact hr.elim
  | .ok .brk, hr => exact hr.elim
  | .ok .cont, hr => exact hr.elim
end L2
namespace L2
open PySem PySem.Spec PyProof.Rows
end L2
namespace L2
open PySem PySem.Spec PyProof.Rows
end L2
namespace L2
open PySem PySem.Spec PyProof.Rows
structure ClsM (K : PySem.W.Frag) (C : Addr) (m : Str) (f : Addr) : Prop where
  ex : ∃ mc, PySem.W.readsIn K C mc = true ∧ PySem.W.findCls K (.ref C) mc m = some (.val (.ref f))
  hh : PySem.W.handedIn (.ref f) = true
  hg : PySem.W.specialIn K (.ref C) "__getattribute__" = some (some (.builtin "type.__getattribute__"))
  kp : PySem.W.keepIn K (.ref f) = true
structure ClsCallee (P : Program) (w : World) (K : PySem.W.Frag) (mg : Str → Option Value) (base : Heap) (C : Addr) (m : Str) (k : Nat) (ps : List Str) (sp : Sp) : Prop where
  ex : ∃ f fd, FnOk P w K mg base CX0 k f fd ps sp ∧ ClsM K C m f ∧ Binds K fd ps []
section
variable {X : Cx} {C : Addr} {k : Nat} {ps : List Str} {sp : Sp} {m : Str} {pos apos : Pos} {e o : Expr} {es : List Expr} {t : TA}
end
structure FunD (K : PySem.W.Frag) (x qual : Str) (st : Stmt) (f : Addr) (fd : FuncData) : Prop where
  ex : ∃ (oc : Value) (od : Option Addr) (dV kV doc pm : Value) (an : Option Addr) (cdv ct : Value) (osl : Array (Option Value)),
    fd = PySem.W.fnOf x qual (defArgs st) (defBody st) (defScope st) dV kV doc pm an cdv ct ∧ K.lookup f = some ⟨oc, od, .func fd, osl⟩ ∧ PySem.W.codeIn K cdv qual = true
section
variable {P : Program} {w : World} {K : PySem.W.Frag} {mg : Str → Option Value} {base : Heap}
theorem FunD.ok {x qual : Str} {st : Stmt} {f : Addr} {fd : FuncData} {N ps : List Str} {k : Nat} {sp : Sp} (F : FunD K x qual st f fd) (S : FnScope N ps (defScope st)) (len : ∀ vs H Q E, sp vs H Q E → vs.length = ps.length)
    (hbody : ∀ (cdv : Value) (A : Around) (outer : List Env) (s : Shared) (H : Hp) (vs : List V) (Q : VK) (E : XK), Room k (A.deeper (envOfC qual (defScope st) s.heap.objs.size f cdv)) → sp vs H Q E →
      ∃ t, PSs (cxOf CX0 P w K mg base N qual (defScope st) f cdv A outer s H E).nox (defBody st) t ∧ t { nx := fun _ H' => Q .non H', rt := Q } (start N vs) H) : FnOk P w K mg base CX0 (k + 1) f fd ps sp := by
  obtain ⟨oc, od, dV, kV, doc, pm, an, cdv, ct, osl, rfl, lk, hcd⟩ := F.ex
  refine fn_of lk hcd S len fun A outer s H vs Q E hr hsp => ?_
  obtain ⟨t, h, q⟩ := hbody cdv A outer s H vs Q E hr hsp
  exact ⟨t, h.nox, q⟩
end
end L2
namespace L2
open PySem PySem.Spec PyProof.Rows
section
variable {prog : Program} {w : World} {A : Around} {h : Heap} {g : Array GenState} {d : Drawn} {t : Nat} {os : OsState} {a : Addr}
end
end L2
namespace L2
open PySem PySem.Spec PyProof.Rows
section
variable {prog : Program} {w : World} {A : Around} {R : Result → Shared → Prop} {I : Addr} {fp wr : List Addr} {G : Array GenState → Array GenState → Prop} {n : Nat} {P : Nat → Value → Prop} {St : Nat → Shared → Prop} {K : Type} [DecidableEq K]
end
section
variable {prog : Program} {w : World} {A : Around} {E : Value → Shared → Prop} {s : Shared} {K : Type} [DecidableEq K]
end
end L2
namespace L2
open PySem PySem.Spec PyProof.Rows
abbrev Prs (H : Hp) (as : List Addr) (kvs : List (List Key × V)) : Prop := Paired (fun a (kv : List Key × V) => ∃ b, H a = some (.tup [.ref b, kv.2]) ∧ H b = some (.tup (kv.1.map kV))) as kvs
end L2
namespace L2
open PySem PySem.Spec PyProof.Rows
structure Nx (prog : Program) (w : World) (A : Around) (it src : Addr) (vals : Array Value) (St : Nat → Heap → Prop) : Prop where
  obj : ∀ i h, St i h → ∃ o vs, h.get? it = some o ∧ o.data = .fields vs ∧ o.cls ≠ .type "zip" ∧ ∃ o', h.get? src = some o'
  keep : ∀ i h h', St i h → (∀ o, h.get? it = some o → h'.get? it = some o) → (∀ o, h.get? src = some o → h'.get? src = some o) → St i h'
  item : ∀ (i : Nat) (s : Shared) (Q : Value → Shared → Prop) (E : Value → Shared → Prop) (x : Value), St i s.heap → vals[i]? = some x → (∀ h', St (i + 1) h' → Heap.SameBut it s.heap h' → Q x { s with heap := h' }) → wpAny (model prog w) A (Builtin.SmallTypes.nextOf (.ref it)) Q E s
  done : ∀ (i : Nat) (s : Shared) (Q : Value → Shared → Prop) (E : Value → Shared → Prop), A.handled = none → St i s.heap → vals[i]? = none →
    (∀ h' e, Heap.ExtBut it s.heap h' → (∃ o, h'.get? e = some o ∧ o.cls = .type "StopIteration") → E (.ref e) { s with heap := h' }) → wpAny (model prog w) A (Builtin.SmallTypes.nextOf (.ref it)) Q E s
section
variable {prog : Program} {w : World} {A : Around} {E : Value → Shared → Prop} {s : Shared}
theorem Nx.list {it l : Addr} {items : Array Value} (hne : l ≠ it) : Nx prog w A it l items (fun i h => h.IsListIter it l i ∧ h.IsList l items) where
  obj := fun i h ⟨⟨o, h1, h2, h3⟩, ⟨o', h4, _⟩⟩ => ⟨o, _, h1, h3, by rw [h2]; decide, o', h4⟩
  keep := fun i h h' ⟨x, y⟩ k1 k2 => ⟨x.at k1, y.at k2⟩
  item := fun i s Q E x ⟨h1, h2⟩ hx hQ => wpAny_nextOf_list_item h1 h2 hx fun h' a b => hQ h' ⟨a, h2.at fun o e => b.extBut _ _ hne e⟩ b
  done := fun i s Q E hh ⟨h1, h2⟩ hx hE => wpAny_nextOf_list_end hh h1 h2 hx hE
theorem nx_tup_item {it t : Addr} {i : Nat} {items : Array Value} {x : Value} {Q : Value → Shared → Prop} (hit : IsTupIter s.heap it t i) (ht : IsTup s.heap t items) (hx : items[i]? = some x)
    (hQ : ∀ h', IsTupIter h' it t (i + 1) → Heap.SameBut it s.heap h' → Q x { s with heap := h' }) : wpAny (model prog w) A (Builtin.SmallTypes.nextOf (.ref it)) Q E s := by
  obtain ⟨o, ho, hc, hd⟩ := id hit
  obtain ⟨ol, hol, _, nl, hdl⟩ := ht
  unfold Builtin.SmallTypes.nextOf
  refine wpAny_bind (wpAny_callSpecial?_slot (name := Str.ofString "__next__") hit.typeIs slot_tupleiter_next (wpAny_call_entry slot_tupleiter_next hit.typeIs entry_tupleiter_next ?_ (args_tupleiter_next _)))
  show wpAny _ _ (field (.ref it) 0 >>= _) _ _ s
  refine wpAny_bind (wpAny_field ho hd (x := .ref t) rfl ?_)
  show wpAny _ _ (if (Value.ref t == Value.none) = true then _ else _) _ _ s
  rw [if_neg (show ¬ ((Value.ref t == Value.none) = true) from Bool.false_ne_true)]
  show wpAny _ _ (field (.ref it) 1 >>= _) _ _ s
  refine wpAny_bind (wpAny_field ho hd (x := .int i 0) rfl ?_)
  show wpAny _ _ (seqItems? (.ref t) >>= _) _ _ s
  refine wpAny_bind (wpAny_seqItems hol hdl ?_)
  simp only [Int.toNat_natCast, hx]
  refine wpAny_bind (wpAny_setField ho hd (by simp) (wpAny_pure ⟨x, rfl, wpAny_pure (hQ _ ?_ (Heap.SameBut.update ..))⟩))
  exact ⟨_, Heap.get?_update_self _ ho (Obj.isFreed_of_fields (Obj.data_mapFields hd _)), (Obj.cls_mapFields ..).trans hc, by rw [Obj.data_mapFields hd]; simp [rawInt]⟩
theorem nx_tup_end {it t : Addr} {i : Nat} {items : Array Value} {Q : Value → Shared → Prop} (hh : A.handled = none) (hit : IsTupIter s.heap it t i) (ht : IsTup s.heap t items) (hx : items[i]? = none)
    (hE : ∀ h' e, Heap.ExtBut it s.heap h' → (∃ o, h'.get? e = some o ∧ o.cls = .type "StopIteration") → E (.ref e) { s with heap := h' }) : wpAny (model prog w) A (Builtin.SmallTypes.nextOf (.ref it)) Q E s := by
  obtain ⟨o, ho, hc, hd⟩ := id hit
  obtain ⟨ol, hol, _, nl, hdl⟩ := ht
  unfold Builtin.SmallTypes.nextOf
  refine wpAny_bind (wpAny_callSpecial?_slot (name := Str.ofString "__next__") hit.typeIs slot_tupleiter_next (wpAny_call_entry slot_tupleiter_next hit.typeIs entry_tupleiter_next ?_ (args_tupleiter_next _)))
  show wpAny _ _ (field (.ref it) 0 >>= _) _ _ s
  refine wpAny_bind (wpAny_field ho hd (x := .ref t) rfl ?_)
  show wpAny _ _ (if (Value.ref t == Value.none) = true then _ else _) _ _ s
  rw [if_neg (show ¬ ((Value.ref t == Value.none) = true) from Bool.false_ne_true)]
  show wpAny _ _ (field (.ref it) 1 >>= _) _ _ s
  refine wpAny_bind (wpAny_field ho hd (x := .int i 0) rfl ?_)
  show wpAny _ _ (seqItems? (.ref t) >>= _) _ _ s
  refine wpAny_bind (wpAny_seqItems hol hdl ?_)
  simp only [Int.toNat_natCast, hx]
  refine wpAny_bind (wpAny_rule (wpAny_bind (wpAny_setField ho hd (by simp) ?_)))
  show wpAny _ _ (newExc (.type "StopIteration") [] >>= _) _ _ _
  refine wpAny_bind ?_
  simp only [newExc, newTuple]
  refine wpAny_bind (wpAny_newObj_type ?_ (by size_fits))
  refine wpAny_bind (m := firstArgMember _ _) (wpAny_of_eq (a := Value.none) (by first | rfl | (simp only [firstArgMember]; rfl)) (wpAny_newObj_type ?_ (by size_fits)))
  simp only [raiseNew]
  refine wpAny_bind (wpAny_handled ?_)
  first | rw [show A.in1.handled = none from hh] | rw [hh]
  refine wpAny_bind (wpAny_pure (wpAny_throw ?_))
  exact hE _ _ (((Heap.SameBut.update ..).extBut.push _).push _) ⟨_, Heap.get?_push_size _ rfl, rfl⟩
theorem Nx.tup {it t : Addr} {items : Array Value} (hne : t ≠ it) : Nx prog w A it t items (fun i h => IsTupIter h it t i ∧ IsTup h t items) where
  obj := fun i h ⟨⟨o, h1, h2, h3⟩, ⟨o', h4, _⟩⟩ => ⟨o, _, h1, h3, by rw [h2]; decide, o', h4⟩
  keep := fun i h h' ⟨⟨o, h1, h2⟩, ⟨o', h4, h5⟩⟩ k1 k2 => ⟨⟨o, k1 _ h1, h2⟩, ⟨o', k2 _ h4, h5⟩⟩
  item := fun i s Q E x ⟨h1, h2⟩ hx hQ => nx_tup_item h1 h2 hx fun h' a b => hQ h' ⟨a, h2.extBut b.extBut hne⟩ b
  done := fun i s Q E hh ⟨h1, h2⟩ hx hE => nx_tup_end hh h1 h2 hx hE
structure ZA (z TI TO i1 i2 s1 s2 : Addr) : Prop where
  TIz : TI ≠ z
  TOz : TO ≠ z
  i1z : i1 ≠ z
  i2z : i2 ≠ z
  TITO : TI ≠ TO
  TIi1 : TI ≠ i1
  TIi2 : TI ≠ i2
  TOi1 : TO ≠ i1
  TOi2 : TO ≠ i2
  i12 : i1 ≠ i2
  s1z : s1 ≠ z
  s1TO : s1 ≠ TO
  s1i2 : s1 ≠ i2
  s2z : s2 ≠ z
  s2TO : s2 ≠ TO
  s2i1 : s2 ≠ i1
end
end L2
namespace L2
open PySem PySem.Spec PyProof.Rows
end L2
namespace L2
open PySem PySem.Spec PyProof.Rows
end L2
namespace L2
open PySem PySem.Spec PyProof.Rows
section
variable {prog : Program} {w : World} {A : Around} {E : Value → Shared → Prop} {s : Shared} {d it v : Addr} {o : Obj} {es : Array DictEntry} {i ep : Nat}
end
structure KCalleeN (P : Program) (w : World) (K : PySem.W.Frag) (mg : Str → Option Value) (base : Heap) (C : Addr) (x : Str) (k : Nat) (ps : List Str) (sp : Sp) : Prop where
  ex : ∃ f fd, FnOk P w K mg base CX0 k f fd ps sp ∧ Mk K C f ∧ mg x = some (.ref C) ∧ Binds K fd ps [Value.none]
end L2
namespace L2
open PySem PySem.Spec PyProof.Rows
section
variable {X : Cx}
theorem map_int_inj : ∀ {c d : List Int}, c.map V.int = d.map V.int → c = d
  | [], [], _ => rfl
  | [], _ :: _, h => by simp at h
  | _ :: _, [], h => by simp at h
  | a :: c, b :: d, h => by
    rw [List.map_cons, List.map_cons] at h
    injection h with h1 h2
    injection h1 with h1
    rw [h1, map_int_inj h2]
noncomputable def isT (H : Hp) (c : List Int) (u : Value) : Bool := match u with
  | .ref a => @decide (H a = some (.tup (c.map V.int))) (Classical.propDecidable _)
  | _ => false
end
end L2
namespace L2
open PySem PySem.Spec PyProof.Rows
section
variable {prog : Program} {w : World} {d : Addr} {es : Array DictEntry} {ep : Nat}
theorem rk_src (hd : (d == sysModules) = false) : PySem.W.KdlSrc prog w "dict" d d es.size (fun i v => ∃ hi : i < es.size, v = es[i].key) (fun h => ∃ o, h.get? d = some o ∧ o.ExactDict ∧ o.data = .dict es ep) where
  type := fun _ ⟨o, ho, hc, _⟩ => ⟨o, ho, hc.1⟩
  there := fun _ ⟨o, ho, _⟩ => ⟨Heap.lt_size ho, Heap.lt_size ho⟩
  keep := fun _ _ ⟨o, ho, x⟩ hk => ⟨o, hk d (.inl rfl) o ho, x⟩
  notList := by decide
  notTuple := by decide
  hint := fun _ _ _ _ ⟨o, ho, hc, _⟩ hq => PySem.W.kdl_hint_dict ⟨o, ho, hc.1⟩ hq
  iter := fun A s hh ⟨o, ho, hc, hdat⟩ => ⟨_, fun i h => h.IsKeyIter s.heap.objs.size d i es.size ep ∧ ∃ o, h.get? d = some o ∧ o.data = .dict es ep, (fun _ _ hq => rk_iter hd ho hc hdat hq), {
      sub := fun b hb => by simp at hb; simp [hb]
      frame := fun _ _ _ ⟨st, o, h1, h2⟩ hk => ⟨keyiter_at st fun o e => hk _ (by simp) o e, o, hk d (by simp) o h1, h2⟩
      item := fun i s' Q E hi ⟨st, o, h1, h2⟩ hQ => rk_next st h1 h2 hi fun h' st' sb => hQ _ h' s'.toks ⟨hi, rfl⟩ ⟨st', o, (sb.2 d (Nat.ne_of_lt (Heap.lt_size ho))).trans h1, h2⟩ fun b o hb e => (sb.2 b (fun z => hb (by simp [z]))).trans e
      done := fun s' Q E ⟨st, o, h1, h2⟩ hQ => rk_end hh st h1 h2 (Nat.le_refl _) fun h' eb => hQ h' s'.toks fun b o hb e => eb b o (fun z => hb (by simp [z])) e
      self := fun i s' Q E ⟨st, _⟩ hQ => wpAny_pyIter_keyiter st hQ }, ⟨⟨_, Heap.get?_push_size _ rfl, rfl, rfl⟩, o, Heap.get?_push_of_some _ ho, hdat⟩⟩
end
section
variable {X : Cx}
end
end L2
namespace L2
open PySem PySem.Spec PyProof.Rows
section
variable {X : Cx}
theorem pick_as {H : Hp} : ∀ {cs : List (List Int)} {vs : List Value}, vs.length = cs.length → (∀ (i : Nat) (v : Value) (c : List Int), vs[i]? = some v → cs[i]? = some c → ∃ a, v = .ref a ∧ H a = some (.tup (c.map V.int))) → ∃ as : List Addr, vs = as.map Value.ref ∧ Tups H as cs
  | [], [], _, _ => ⟨[], rfl, .nil⟩
  | [], _ :: _, h, _ => by simp at h
  | _ :: _, [], h, _ => by simp at h
  | c :: cs, v :: vs, h, f => by
    obtain ⟨a, rfl, ha⟩ := f 0 v c rfl rfl
    obtain ⟨as, rfl, ht⟩ := pick_as (cs := cs) (vs := vs) (by simpa using h) fun i v c h1 h2 => f (i + 1) v c (by simpa using h1) (by simpa using h2)
    exact ⟨a :: as, rfl, .cons ha ht⟩
theorem kV_ints : ∀ c : List Int, (c.map Sum.inl : List Key).map kV = c.map V.int
  | [] => rfl
  | a :: c => by rw [List.map_cons, List.map_cons, List.map_cons, kV_ints c]; rfl
end
end L2
namespace L2
open PySem PySem.Spec PyProof.Rows
section
variable {prog : Program} {w : World} {κ : Type} [DecidableEq κ] {knd : HeapKind prog w κ} {A : Around} {E : Value → Shared → Prop} {s : Shared}
end
section
variable {X : Cx}
end
theorem lc_keys {d : Addr} {o : Obj} {u : HO} {σ0 : St} {g : TG} {tt : TT} {te : TE} {H1 : Hp} {D : Addr} {Q : Hp → Prop} (Pv : Nat → St → Hp → Prop) (h0 : Pv 0 σ0 (upd H1 D (.lst []))) (hl : ∀ i τ H, i ≤ szU u → Pv i τ H → H d = some (.frz o u))
    (hs : ∀ i x v τ H, KeyAt H u i x v → i < szU u → Pv i τ H → g x τ H fun τ2 H2 => tt τ2 H2 fun b H3 => if b = true then te τ2 H3 fun v H4 => ∃ acc, H4 D = some (.lst acc) ∧ acc.length < sizeLine ∧ Pv (i + 1) τ2 (upd H4 D (.lst (acc ++ [v]))) else Pv (i + 1) τ2 H3)
    (hd : ∀ τ H, Pv (szU u) τ H → Q H) : lcW σ0 g tt te (Itk d o u) H1 D Q := by
  refine ⟨fun i m τ H => m = szU u - i ∧ i ≤ szU u ∧ Pv i τ H, ⟨szU u, by simp, Nat.zero_le _, h0⟩, ?_⟩
  rintro i m τ H ⟨rfl, hi, p⟩
  have q := hl i τ H hi p
  by_cases hlt : i < szU u
  · refine .inr ⟨⟨q, hlt⟩, Pv (i + 1), fun τ' H' p' => ⟨szU u - (i + 1), by omega, rfl, hlt, p'⟩, fun x H' y => ?_⟩
    obtain ⟨e, v, k⟩ := y
    subst e
    exact hs i x v τ _ k hlt p
  · have e : i = szU u := by omega
    subst e
    exact .inl ⟨⟨q, Nat.le_refl _⟩, hd τ H p⟩
section
open PySem.SeqAt
open PySem.AutoSeq1 (wpAny_loadPart')
open PySem.MeetsSeq PySem.MeetsSeq2 PySem.MeetsSeq3
end
section
variable {prog : Program} {w : World} {A : Around} {E : Value → Shared → Prop} {s : Shared}
end
end L2
namespace L2
open PySem PySem.Spec PyProof.Rows
section
variable {prog : Program} {w : World} {A : Around} {R : Result → Shared → Prop} {it : Addr} {fp wr : List Addr} {P : Nat → Value → Prop} {St : Nat → Heap → Prop}
end
section
variable {prog : Program} {w : World} {A : Around} {E : Value → Shared → Prop} {s : Shared}
end
section
variable {X : Cx}
end
section
variable {prog : Program} {w : World} {A : Around} {R : Result → Shared → Prop} {it : Addr} {fp wr : List Addr} {P : Nat → Value → Prop} {St : Nat → Heap → Prop}
end
section
variable {prog : Program} {w : World} {A : Around} {E : Value → Shared → Prop} {s : Shared}
end
section
variable {X : Cx}
end
end L2
namespace L2
open PySem PySem.Spec PyProof.Rows
abbrev IPr := List Int × List Int
abbrev Prs2 (H : Hp) (as : List Addr) (ls : List IPr) : Prop := Paired (fun a (e : IPr) => ∃ x y, H a = some (.tup [.ref x, .ref y]) ∧ H x = some (.tup (e.1.map V.int)) ∧ H y = some (.tup (e.2.map V.int))) as ls
theorem Prs2.at {H : Hp} : ∀ {as : List Addr} {cs : List IPr} {i : Nat} {a : Addr}, Prs2 H as cs → as[i]? = some a → ∃ c x y, cs[i]? = some c ∧ H a = some (.tup [.ref x, .ref y]) ∧ H x = some (.tup (c.1.map V.int)) ∧ H y = some (.tup (c.2.map V.int))
  | _, _, 0, _, .cons (b := c) h t, e => by cases e; obtain ⟨x, y, h1, h2, h3⟩ := h; exact ⟨c, x, y, rfl, h1, h2, h3⟩
  | _, _, i + 1, _, .cons h t, e => Prs2.at (i := i) t e
  | _, _, _, _, .nil, e => by simp at e
theorem Prs2.same {H H' : Hp} {as : List Addr} {cs : List IPr} (h : Prs2 H as cs) (e : Same H H') : Prs2 H' as cs := Paired.mapP h fun _ _ ⟨x, y, h1, h2, h3⟩ => ⟨x, y, e _ _ h1, e _ _ h2, e _ _ h3⟩
theorem Prs2.tups {H H' : Hp} {as : List Addr} {cs : List IPr} (h : Prs2 H as cs) (e : ∀ b xs, H b = some (.tup xs) → H' b = some (.tup xs)) : Prs2 H' as cs := Paired.mapP h fun _ _ ⟨x, y, h1, h2, h3⟩ => ⟨x, y, e _ _ h1, e _ _ h2, e _ _ h3⟩
def dtE (e : IPr) : PyData := .tuple [.tuple (e.1.map PyData.int), .tuple (e.2.map PyData.int)]
theorem Prs2.dp {K : PySem.W.Frag} {H : Hp} {a x y : Addr} {e : IPr} (h1 : H a = some (.tup [.ref x, .ref y])) (h2 : H x = some (.tup (e.1.map V.int))) (h3 : H y = some (.tup (e.2.map V.int))) : Dp K H (.ref a) (dtE e) :=
  .tup (SqT.of h1) (.cons (Dp.ints (SqT.of h2)) (.cons (Dp.ints (SqT.of h3)) .nil))
section
variable {X : Cx}
end
end L2
namespace L2
open PySem PySem.Spec PyProof.Rows
end L2
namespace L2
open PySem PySem.Spec PyProof.Rows
def exO (a : Addr) (o : Obj) : HO := .ext fun h => h.get? a = some o
theorem exO_ok {P : Program} {w : World} {H : Hp} {h : Heap} {a : Addr} {o : Obj} (e : h.get? a = some o) : ObjOk P w H h a (exO a o) := ⟨e, ⟨o, e⟩, fun _ _ e1 k => k _ e1⟩
end L2
namespace L2
open PySem PySem.Spec PyProof.Rows
structure LamScope (ps : List Str) (clos : List (Str × Addr)) (scope : Scope) : Prop where
  kind : scope.kind = .function
  co : scope.isCoroutine = false
  gen : scope.isGenerator = false
  nocell : ∀ x ∈ scope.names, x.2 ≠ .cell
  par : ∀ x ∈ ps, scope.names.lookup x = some .local
  free : ∀ x, scope.names.lookup x = some .free → ∃ c, clos.lookup x = some c
  fr : ∀ x ∈ clos.map (·.1), scope.names.lookup x = some .free
  nd : (ps ++ clos.map (·.1)).Nodup
  inj : ∀ x y c, clos.lookup x = some c → clos.lookup y = some c → x = y
end L2
namespace L2
open PySem PySem.Spec PyProof.Rows
end L2
namespace L2
open PySem PySem.Spec PyProof.Rows
theorem hok_own {P : Program} {w : World} {H : Hp} {h : Heap} {c : Addr} {o : Obj} (ok : HOk P w H h) (hc : H c = none) (ho : h.get? c = some o) : HOk P w (upd H c (exO c o)) h := fun a u e => by
  by_cases ha : a = c
  · subst ha
    rw [upd_same] at e; cases e
    exact exO_ok ho
  · rw [upd_ne ha] at e
    exact (ok a u e).stay (fun _ _ _ z => z) (fun b z => by rw [upd_ne (ne_of_none z hc)]; exact z) (fun b xs z => by rw [upd_ne (ne_of_none z hc)]; exact z)
theorem Env0.own {P : Program} {w : World} {K : PySem.W.Frag} {mg : Str → Option Value} {base : Heap} {A : Around} {outer : List Env} {s : Shared} {H : Hp} {c : Addr} {o : Obj} (e : Env0 P w K mg base A outer s H) (hc : H c = none) (ho : s.heap.get? c = some o) (nb : base.get? c = none) (nf : c ∉ frs outer) :
    Env0 P w K mg base A outer s (upd H c (exO c o)) :=
  ⟨e.frames, e.mod, fun b ob z => ⟨(e.bs b ob z).1, by rw [upd_ne (fun q => by rw [q, nb] at z; cases z)]; exact (e.bs b ob z).2⟩, e.bsz, e.funs, fun b hb => by rw [upd_ne (fun (q : b = c) => nf (by rw [← q]; exact hb))]; exact e.frf b hb, hok_own e.hok hc ho, e.bare⟩
section
variable {X : Cx} {pins : List (Addr × Obj)} {σ : St} {H : Hp} {s : Shared}
end
section
variable {M : Model} {A : Around} {E : Value → Shared → Prop} {s : Shared} {env : Env} {pos : Pos} {f : Addr} {Q : Value → Shared → Prop}
end
section
variable {X : Cx}
end
end L2
namespace L2
open PySem PySem.Spec PyProof.Rows
section
variable {X : Cx}
end
end L2
namespace L2
open PySem PySem.Spec PyProof.Rows
section
variable {P : Program} {w : World} {K : PySem.W.Frag} {mg : Str → Option Value} {base : Heap}
end
theorem call_lenU {X : Cx} : CallR X (.builtin "len") (fun xs H Q => ∃ a u, xs = [V.ref a] ∧ Rd H a u ∧ DictU u ∧ Q (.int (szU u : Nat)) H) := by
  intro pins s σ H xs us Q I r h
  obtain ⟨a, u, rfl, ha, hu, q⟩ := h
  cases u with
  | dT kvs => exact call_lenDT pins s σ H _ us Q I r ⟨a, kvs, rfl, ha, q⟩
  | dK kvs =>
    obtain ⟨v, rfl, rx⟩ := vals1 r
    cases rx
    exact d_len I ha fun t s' I' => ⟨.int _, H, I', ⟨t, rfl⟩, q⟩
  | _ => exact hu.elim
end L2
namespace L2
open PySem PySem.Spec PyProof.Rows
end L2
namespace L2
open PySem PySem.Spec PyProof.Rows
namespace TabA
open SetTable
variable (t : SetTable) (hashAt : Nat → Int) (h : Int)
def Good (N : Nat) (p : Probe) : Prop := ∀ f, N ≤ f → ∃ j, probe.go t hashAt h f p = some (.empty j none)
variable {t hashAt h}
theorem Good.mono {N M : Nat} {p : Probe} (g : Good t hashAt h N p) (l : N ≤ M) : Good t hashAt h M p := fun f hf => g f (Nat.le_trans l hf)
def it (M : Nat) : Nat → Nat → Nat
  | 0, a => a
  | k + 1, a => (it M k a * 5 + 1) % M
def cnt (o : Array (Option Nat)) : Nat := o.toList.countP Option.isSome
structure Ow (o : Array (Option Nat)) (k : Nat) : Prop where
  sz : o.size = 32
  ct : cnt o = k
  lt : ∀ (j v : Nat), o[j]? = some (some v) → v < k
end TabA
def addT2 (t : SetTable) (es : Array (Int × Value)) (h : Int) (x : Value) : Option (SetTable × Array (Int × Value)) :=
  if t.gaveWay = true then none else
  match t.probe (hAt es) h (t.probeStart h) with
  | some (.empty j none) => if (t.put j).1.fits (SetTable.insertAt es (t.put j).2 (h, x)).size = true then
      (if (t.put j).1.tooFull = true then
        (match (t.put j).1.relaid ((SetTable.insertAt es (t.put j).2 (h, x)).map (·.1)) (SetTable.grown (es.size + 1)) with
        | some (t2, order) => if (order.filterMap ((SetTable.insertAt es (t.put j).2 (h, x))[·]?)).size = (SetTable.insertAt es (t.put j).2 (h, x)).size then some (t2, order.filterMap ((SetTable.insertAt es (t.put j).2 (h, x))[·]?)) else none
        | none => none)
      else some ((t.put j).1, SetTable.insertAt es (t.put j).2 (h, x))) else none
  | _ => none
section
variable {prog : Program} {w : World} {A : Around} {E : Value → Shared → Prop} {s : Shared}
theorem relay_of {a : Addr} {o : Obj} {es : Array (Int × Value)} {ep wanted : Nat} {t t2 : SetTable} {order : Array Nat} {Q : Unit → Shared → Prop} (ho : s.heap.get? a = some o) (hd : o.data = .set es ep t) (hf : t.fits es.size = true) (hw : SetTable.sizeAbove wanted ≤ sizeLine)
    (e : t.relaid (es.map (·.1)) wanted = some (t2, order)) (hz : (order.filterMap (es[·]?)).size = es.size) (hs : es.size < 1000) (h : Q () { s with heap := s.heap.update a (Obj.putSet (order.filterMap (es[·]?)) t2) }) :
    wpAny (model prog w) A (setRelay a wanted) Q E s := by
  unfold setRelay
  refine wpAny_bind (wpAny_setState_of ho hd hf ?_)
  dsimp only
  rw [if_neg (by omega), e]
  refine wpAny_bind ?_
  show wpAny _ _ (if ((order.filterMap (es[·]?)).size != es.size) = true then _ else _) _ _ _
  rw [if_neg (by simp [hz])]
  refine wpAny_pure ?_
  dsimp only
  exact wpAny_storeSet_of ho hd h (by have : sizeLine = 2 ^ 24 := rfl; omega)
theorem setAdd_free2 {K : Type} [DecidableEq K] {knd : HeapKind prog w K} {a b : Addr} {k : K} {o : Obj} {es es' : Array (Int × Value)} {ep : Nat} {t t' : SetTable} {Q : Bool → Shared → Prop} (hr : knd.room A) (hk : knd.is s.heap k b) (ho : s.heap.get? a = some o) (hd : o.data = .set es ep t) (hf : t.fits es.size = true) (hz : es'.size < 1000) (hsz : es.size < 999)
    (hv : ∀ (tk : Nat) (Q' : Bool → Shared → Prop), Q' true { s with toks := tk } → wpAny (model prog w) A (hashByValue 8 (.ref b)) Q' E { s with toks := tk })
    (e : addT2 t es (knd.hash k) (.ref b) = some (t', es')) (hsa : SetTable.sizeAbove (SetTable.grown (es.size + 1)) ≤ sizeLine)
    (h : ∀ h' ep', Heap.SameBut a s.heap h' → h'.get? a = some { o with data := .set es' ep' t' } → Q true { s with heap := h', toks := s.toks + knd.draws k }) :
    wpAny (model prog w) A (setAdd a (.ref b)) Q E s := by
  unfold addT2 at e
  split at e
  · cases e
  · rename_i hg
    split at e
    · rename_i j hp
      split at e
      · rename_i hfit
        have hiz : (SetTable.insertAt es (t.put j).2 (knd.hash k, Value.ref b)).size = es.size + 1 := by
          have := (SetTable.insertAt_perm es (t.put j).2 (knd.hash k, Value.ref b)).length_eq
          simpa using this
        unfold setAdd
        refine wpAny_holding (wpAny_bind (knd.pyHash hr hk ?_))
        unfold setAddHashed
        refine wpAny_holding ?_
        show wpAny _ _ (setAddHashedIn a (.ref b) (knd.hash k) (99999 + 1)) _ _ _
        unfold setAddHashedIn
        refine wpAny_bind (wpAny_setState_of (s := { s with toks := s.toks + knd.draws k }) ho hd hf ?_)
        dsimp only
        rw [if_neg (show ¬ byScan (.ref b) es = true by simp [byScan, Value.scannable])]
        refine wpAny_bind ?_
        unfold setSearch
        show wpAny _ _ (setSearchFrom a (.ref b) (knd.hash k) true (99999 + 1) none) _ _ _
        unfold setSearchFrom
        refine wpAny_bind (wpAny_setState_of (s := { s with toks := s.toks + knd.draws k }) ho hd hf ?_)
        dsimp only
        rw [if_neg hg]
        split
        · rename_i met hm
          have em : met = .empty j none := Option.some.inj (hm.symm.trans hp)
          subst em
          dsimp only
          refine wpAny_pure ?_
          dsimp only
          refine wpAny_bind (wpAny_setState_of (s := { s with toks := s.toks + knd.draws k }) ho hd hf ?_)
          dsimp only
          have tail : wpAny (model prog w) A (storeSet a (SetTable.insertAt es (t.put j).2 (knd.hash k, .ref b)) (t.put j).1 >>= fun _ => if (!false && (t.put j).1.tooFull) = true then (setRelay a (SetTable.grown (es.size + 1)) >>= fun _ => pure true) else pure true) Q E { s with toks := s.toks + knd.draws k } := by
            refine wpAny_bind (wpAny_storeSet_of (s := { s with toks := s.toks + knd.draws k }) ho hd ?_ (by have : sizeLine = 2 ^ 24 := rfl; omega))
            have g1 := Heap.get?_update_self (Obj.putSet (SetTable.insertAt es (t.put j).2 (knd.hash k, .ref b)) (t.put j).1) ho (by rw [putSet_of _ _ hd]; rfl)
            rw [putSet_of _ _ hd] at g1
            split at e
            · rename_i hfull
              rw [if_pos (by simpa using hfull)]
              split at e
              · rename_i t2 order hrl
                split at e
                · rename_i hq
                  injection e with e
                  injection e with e1 e2
                  subst e1 e2
                  refine wpAny_bind (relay_of (s := { s with heap := _, toks := s.toks + knd.draws k }) g1 rfl hfit hsa hrl hq (by omega) ?_)
                  refine wpAny_pure (h _ (ep + 1 + 1) ((Heap.SameBut.update ..).trans (Heap.SameBut.update ..)) ?_)
                  have := Heap.get?_update_self (Obj.putSet (order.filterMap ((SetTable.insertAt es (t.put j).2 (knd.hash k, Value.ref b))[·]?)) t2) g1 (by rw [putSet_of _ _ rfl]; rfl)
                  rw [putSet_of _ _ rfl] at this
                  exact this
                · cases e
              · cases e
            · rename_i hfull
              injection e with e
              injection e with e1 e2
              subst e1 e2
              rw [if_neg (by simpa using hfull)]
              exact wpAny_pure (h _ _ (Heap.SameBut.update ..) g1)
          split
          · refine wpAny_bind (hv _ _ ?_)
            rw [if_pos (rfl : true = true)]
            exact tail
          · refine wpAny_bind (wpAny_pure ?_)
            rw [if_pos (rfl : true = true)]
            exact tail
        · rename_i hm
          exact (hm _ hp).elim
      · cases e
    · cases e
end
section
variable {prog : Program} {w : World} {A : Around} {R : Result → Shared → Prop} {I : Addr} {fp wr : List Addr} {G : Array GenState → Array GenState → Prop} {n : Nat} {P : Nat → Value → Prop} {St : Nat → Shared → Prop}
theorem loop_tups2 (W : WalksS prog w A.in1 I fp wr G n P St) (S : Addr) (hSf : S ∉ fp) (knd : HeapKind prog w (List Int)) (hroom : knd.room A.in1) (his : ∀ h k b, ITup h k b → knd.is h k b) (ad : Nat → Addr) (key : Nat → List Int) (hval : ∀ i v, P i v → v = .ref (ad i))
    (had : ∀ i, i < n → ad i ≠ S ∧ ad i ∉ wr) (T : Nat → SetTable) (Es : Nat → Array (Int × Value)) (hadd : ∀ i, i < n → addT2 (T i) (Es i) (knd.hash (key i)) (.ref (ad i)) = some (T (i + 1), Es (i + 1))) (hfit : ∀ i, i ≤ n → (T i).fits (Es i).size = true ∧ (Es i).size < 1000 ∧ SetTable.sizeAbove (SetTable.grown ((Es i).size + 1)) ≤ sizeLine ∧ (Es i).size < 999) :
    ∀ (k i : Nat) (s : Shared), n - i = k → i ≤ n → St i s → (∀ j, j < n → ITup s.heap (key j) (ad j)) → (∃ o ep, s.heap.get? S = some o ∧ o.ExactSet ∧ o.data = .set (Es i) ep (T i)) →
      (∀ s', Moved (S :: wr) G s s' → (∃ o ep, s'.heap.get? S = some o ∧ o.ExactSet ∧ o.data = .set (Es n) ep (T n)) → R (.ok (.ret .none)) s') →
      codeAny (model prog w) A (.builtin "set.update.loop" ⟨[.ref S, .ref I], []⟩) R s := by
  have hSw : S ∉ wr := fun h => hSf (W.sub _ h)
  have more : ∀ b ∈ wr, b ∈ S :: wr := fun b hb => List.mem_cons_of_mem _ hb
  have it_kept : ∀ {h h' : Heap} {k b}, ITup h k b → (∀ o, h.get? b = some o → h'.get? b = some o) → ITup h' k b := fun ⟨o, its, c, h1, h2⟩ f => ⟨o, its, c, f o h1, h2⟩
  intro k
  induction k with
  | zero =>
    intro i s hk hi hst ht hS hR
    obtain rfl : i = n := by omega
    refine codeAny_builtin F.entry_set_update_loop ?_
    rw [Around.under_plainId F.plain_set_update_loop _]
    show wpAny _ A.in1 (pyNext (.ref I) >>= _) _ _ s
    refine wpAny_bind (W.done s _ _ hst fun s' hm => wpAny_pure (hR s' (hm.mono more) ?_))
    obtain ⟨o, ep, h1, h2⟩ := hS
    exact ⟨o, ep, hm.heap S _ hSw h1, h2⟩
  | succ k ih =>
    intro i s hk hi hst ht hS hR
    have hlt : i < n := by omega
    refine codeAny_builtin F.entry_set_update_loop ?_
    rw [Around.under_plainId F.plain_set_update_loop _]
    show wpAny _ A.in1 (pyNext (.ref I) >>= _) _ _ s
    refine wpAny_bind (W.item i s _ _ hlt hst fun v s' hP hst' hm => ?_)
    obtain rfl := hval i v hP
    obtain ⟨o, ep, h1, h2, h3⟩ := hS
    have ht' : ∀ j, j < n → ITup s'.heap (key j) (ad j) := fun j hj => it_kept (ht j hj) fun o q => hm.heap _ o (had j hj).2 q
    obtain ⟨ob, its, c, g1, g2, g3, g4⟩ := id (ht' i hlt)
    show wpAny _ A.in1 (holding [Value.ref (ad i)] (setAdd S (.ref (ad i))) >>= _) _ _ s'
    refine wpAny_bind (wpAny_holding ?_)
    refine setAdd_free2 (knd := knd) (s := s') hroom (his _ _ _ (ht' i hlt)) (hm.heap S _ hSw h1) h3 (hfit i hi).1 (hfit (i + 1) hlt).2.1 (hfit i hi).2.2.2 (fun tk Q' q => hbv_ints (s := { s' with toks := tk }) g1 g2 g3 (fun v hv => ?_) q) (hadd i hlt) (hfit i hi).2.2.1 fun h' ep' sb hg => ?_
    · exact g4.allInts v (by simpa using hv)
    · refine wpAny_pure ⟨plainId_quiet F.plain_set_update_loop _, ih (i + 1) _ (by omega) hlt (W.frame _ s' _ _ hst' (Nat.le_add_right _ _) fun b hb o e => ?_) (fun j hj => it_kept (ht' j hj) fun o q => ?_) ⟨_, _, hg, h2, rfl⟩ fun s'' hm'' hS'' => ?_⟩
      · rw [sb.2 b (fun z => hSf (z ▸ hb))]; exact e
      · rw [sb.2 _ (had j hj).1]; exact q
      · refine hR s'' (Moved.trans W.gtrans ((hm.mono more).then_heap (Nat.le_add_right _ _) fun b o hb e => ?_) hm'') hS''
        rw [sb.2 b (fun z => hb (by rw [z]; exact List.mem_cons_self))]; exact e
end
set_option maxHeartbeats 3200000 in
theorem call_set_tups2 {prog : Program} {w : World} {A : Around} {E : Value → Shared → Prop} {s : Shared} {l : Addr} {as : List Addr} {Q : Value → Shared → Prop} (hh : A.handled = none) (hl : s.heap.IsList l (as.map Value.ref).toArray)
    (knd : HeapKind prog w (List Int)) (hroom : knd.room A.in1.in1.in1) (his : ∀ h k b, ITup h k b → knd.is h k b) (key : Nat → List Int) (htup : ∀ j, j < as.length → ITup s.heap (key j) (as.getD j 0))
    (T : Bool → Nat → SetTable) (Es : Bool → Nat → Array (Int × Value)) (h0 : ∀ led, T led 0 = .fresh 0 0 led ∧ Es led 0 = #[]) (hadd : ∀ led i, i < as.length → addT2 (T led i) (Es led i) (knd.hash (key i)) (.ref (as.getD i 0)) = some (T led (i + 1), Es led (i + 1)))
    (hfit : ∀ led i, i ≤ as.length → (T led i).fits (Es led i).size = true ∧ (Es led i).size < 1000 ∧ SetTable.sizeAbove (SetTable.grown ((Es led i).size + 1)) ≤ sizeLine ∧ (Es led i).size < 999)
    (h : ∀ (led : Bool) (h' : Heap) (tk : Nat), (∃ o ep, h'.get? s.heap.objs.size = some o ∧ o.ExactSet ∧ o.data = .set (Es led as.length) ep (T led as.length)) → (∀ b o, b < s.heap.objs.size → s.heap.get? b = some o → h'.get? b = some o) →
      Q (.ref s.heap.objs.size) { s with heap := h', toks := tk }) : wpAny (model prog w) A (call (.type "set") [.ref l]) Q E s := by
  obtain ⟨c0, tl0, hmro⟩ := F.called_set.mro
  have made := F.called_set.made
  have sub := F.called_set.sub
  have nt := F.called_set.notType
  have cc := F.called_set.canCreate
  have ck := F.typeCall_set_1 (.ref l)
  refine wpAny_call (codeAny_of_tree ?_)
  show wpAny _ _ (callAny (.type "set") ⟨[.ref l], []⟩) _ _ _
  refine wpAny_pure ⟨Code.quiet_builtin _ (by decide +kernel), codeAny_builtin F.entry_type_call ?_⟩
  rw [Around.under_plain (weight_type_call_type "set" [.ref l] []) rfl]
  repeat (any_goals (first | assumption | wp_step))
  refine codeAny_mono (code_set_new_1 (.ref l) (E := E) (Q₁ := fun v s₁ => ∃ led : Bool, v = .ref s.heap.objs.size ∧ s₁ = { s with heap := s.heap.push (set0 led) }) fun led => ⟨led, rfl, rfl⟩) fun r s₁ hr => ?_
  match r, hr with
  | .error e, hr => exact hr
  | .ok (.ret v), ⟨led, ev, es⟩ =>
    subst ev es
    have hS : (s.heap.push (set0 led)).get? s.heap.objs.size = some (set0 led) := Heap.get?_push_size _ rfl
    have hT : Shared.TypeIs { s with heap := s.heap.push (set0 led) } (.ref s.heap.objs.size) "set" := ⟨_, hS, rfl⟩
    have li := F.called_set.init.lookup
    have bi := F.called_set.init.bind (.ref s.heap.objs.size)
    repeat (any_goals (first | assumption | wp_step))
    refine codeAny_mono (codeAny_call_builtin (R := wants (fun r s₂ => r = .none ∧ ∃ h' tk, s₂ = { s with heap := h', toks := tk } ∧ (∃ o ep, h'.get? s.heap.objs.size = some o ∧ o.ExactSet ∧ o.data = .set (Es led as.length) ep (T led as.length)) ∧
      ∀ b o, b < s.heap.objs.size → s.heap.get? b = some o → h'.get? b = some o) E) F.called_set.init.plain F.entry_set_init (check_set_init_1 hT ?_)) fun r₂ s₂ hr₂ => ?_
    · have lt : l < s.heap.objs.size := by obtain ⟨o, ho, _⟩ := hl; exact Heap.lt_size ho
      obtain ⟨⟨oc, od, odt, osl⟩, hol, hcl, nl, hdl⟩ := id hl
      simp only at hcl hdl
      subst hcl hdl
      have hol' : (s.heap.push (set0 led)).get? l = some ⟨.type "list", od, .seq (as.map Value.ref).toArray nl, osl⟩ := Heap.get?_push_of_some _ hol
      have n1 := F.sub_list_set
      have n2 := F.sub_list_frozenset
      have n3 : (Value.type "list" == Value.type "dict") = false := by decide
      have hl1 : (s.heap.push (set0 led)).IsList l (as.map Value.ref).toArray := ⟨_, hol', rfl, nl, rfl⟩
      unfold Builtin.«set.__init__» noKeywords Builtin.Frozenset.updateFrom
      generalize ePI : pyIter = PI
      wp_walk
      subst ePI
      refine wpAny_pyIter_list hl1 (wpAny_bind (wpAny_runValue ?_))
      have sz1 : (s.heap.push (set0 led)).objs.size = s.heap.objs.size + 1 := Heap.size_push ..
      have hd3 : A.in1.in1.in1.handled = none := by simp [hh]
      have neI : l ≠ (s.heap.push (set0 led)).objs.size := by rw [sz1]; exact Nat.ne_of_lt (Nat.lt_succ_of_lt lt)
      have nS : s.heap.objs.size ∉ [(s.heap.push (set0 led)).objs.size, l] := by
        rw [sz1]
        intro z
        rcases List.mem_cons.mp z with z | z
        · exact absurd z (Nat.ne_of_lt (Nat.lt_succ_self _))
        · exact absurd (List.mem_singleton.mp z) (Nat.ne_of_gt lt)
      have hld : ∀ j, j < as.length → as.getD j 0 < s.heap.objs.size := fun j hj => by obtain ⟨o, _, _, h1, _⟩ := htup j hj; exact Heap.lt_size h1
      refine loop_tups2 ((Walks.list hd3 _ l neI (as.map Value.ref).toArray).toS) s.heap.objs.size nS knd hroom his (fun i => as.getD i 0) key (fun i v hv => ?_) (fun i hi => ?_) (T led) (Es led) (fun i hi => hadd led i (by simpa using hi)) (fun i hi => hfit led i (by simpa using hi))
        ((as.map Value.ref).toArray.size - 0) 0 _ (by omega) (Nat.zero_le _) ⟨⟨_, Heap.get?_push_size _ rfl, rfl, rfl⟩, (hl1.push _)⟩ (fun j hj => ?_) ?_ fun s' hm hS' => ?_
      · have hv' : (as.map Value.ref).toArray[i]? = some v := hv
        rw [List.getElem?_toArray, List.getElem?_map] at hv'
        obtain ⟨x, hx, rfl⟩ := Option.map_eq_some_iff.mp hv'
        show _ = Value.ref (as.getD i 0)
        rw [List.getD_eq_getElem?_getD, hx]; rfl
      · have hi' : i < as.length := by simpa using hi
        have := hld i hi'
        refine ⟨Nat.ne_of_lt this, fun z => ?_⟩
        have z' := List.mem_singleton.mp z
        rw [sz1] at z'
        exact absurd z' (Nat.ne_of_lt (Nat.lt_succ_of_lt this))
      · obtain ⟨o, its, c, q1, q2⟩ := htup j (by simpa using hj)
        exact ⟨o, its, c, Heap.get?_push_of_some _ (Heap.get?_push_of_some _ q1), q2⟩
      · refine ⟨_, 0, Heap.get?_push_of_some _ hS, ⟨rfl, rfl, rfl⟩, ?_⟩
        rw [(h0 led).1, (h0 led).2]
      · obtain ⟨h', g', d', tk', os'⟩ := s'
        obtain rfl : g' = s.gens := hm.gens
        obtain rfl : d' = s.drawn := hm.drawn
        obtain rfl : os' = s.os := hm.os
        refine wpAny_pure ?_
        show wpAny _ _ (ret Value.none) _ _ _
        refine wpAny_pure ⟨rfl, h', tk', rfl, by simpa using hS', fun b o hb e => hm.heap b o (fun z => ?_) (Heap.get?_push_of_some _ (Heap.get?_push_of_some _ e))⟩
        rcases List.mem_cons.mp z with z | z
        · exact absurd z (Nat.ne_of_lt hb)
        · have z' := List.mem_singleton.mp z
          rw [sz1] at z'
          exact absurd z' (Nat.ne_of_lt (Nat.lt_succ_of_lt hb))
    · match r₂, hr₂ with
      | .error e, z => exact z
      | .ok (.ret v), ⟨e1, h', tk, e2, z1, z2⟩ =>
        subst e1 e2
        repeat (any_goals (first | assumption | wp_step))
        exact h led h' tk z1 z2
      | .ok .next, z => exact z.elim
      | .ok .brk, z => exact z.elim
      | .ok .cont, z => exact z.elim
  | .ok .next, hr => exact hr.elim
  | .ok .brk, hr => exact hr.elim
  | .ok .cont, hr => exact hr.elim
structure SI (t : SetTable) (es : Array (Int × Value)) (n : Nat) (hs : List Int) : Prop where
  dm : t.dummies = #[]
  ms : t.mask = 7 ∧ n < 5 ∨ t.mask = 31 ∧ n ≤ 18
  pl : t.place.size = n
  sz : es.size = n
  hm : ∀ e ∈ es, e.1 ∈ hs
theorem SI.fits {t : SetTable} {es : Array (Int × Value)} {n : Nat} {hs : List Int} (I : SI t es n hs) : t.fits es.size = true := by
  unfold SetTable.fits SetTable.fill
  rw [I.pl, I.sz, I.dm]
  simp
  rcases I.ms with q | q <;> omega
end L2
namespace L2
open PySem PySem.Spec PyProof.Rows
section
variable {prog : Program} {w : World} {κ : Type} [DecidableEq κ] {knd : HeapKind prog w κ} {A : Around} {E : Value → Shared → Prop} {s : Shared}
end
section
variable {X : Cx}
end
end L2
namespace L2
open PySem PySem.Spec PyProof.Rows
section
variable {prog : Program} {w : World}
abbrev TI2 (prog : Program) (w : World) : HeapKind prog w (List Int) := tupleKind (intKind prog w)
def IsPK (prog : Program) (w : World) (h : Heap) (k : List Int × List Int) (b : Addr) : Prop := ∃ o n x y, h.get? b = some o ∧ o.cls = .type "tuple" ∧ o.data = .seq #[.ref x, .ref y] n ∧ (TI2 prog w).is h k.1 x ∧ (TI2 prog w).is h k.2 y
variable {A : Around} {E : Value → Shared → Prop} {s : Shared}
theorem IsPK.typeIs {k : List Int × List Int} {b : Addr} (x : IsPK prog w s.heap k b) : s.TypeIs (.ref b) "tuple" := let ⟨o, _, _, _, ho, hc, _⟩ := x; ⟨o, ho, hc⟩
theorem IsPK.inj {h : Heap} {a : Addr} {x y : List Int × List Int} (hx : IsPK prog w h x a) (hy : IsPK prog w h y a) : x = y := by
  obtain ⟨o, n, b, c, ho, _, hd, h1, h2⟩ := hx
  obtain ⟨o', n', b', c', ho', _, hd', h1', h2'⟩ := hy
  obtain rfl : o = o' := Option.some.inj (ho.symm.trans ho')
  rw [hd] at hd'
  injection hd' with e _
  simp at e
  obtain ⟨rfl, rfl⟩ := e
  exact Prod.ext (IsTupleKey.inj h1 h1') (IsTupleKey.inj h2 h2')
theorem IsPK.keeps {h h' : Heap} {k : List Int × List Int} {a d : Addr} {o : Obj} {es ep} (x : IsPK prog w h k a) (ho : h.get? d = some o) (hd : o.data = .dict es ep) (hs : Heap.SameBut d h h') : IsPK prog w h' k a := by
  obtain ⟨o', n, b, c, ho', hc, hd', h1, h2⟩ := x
  have hne : a ≠ d := by
    rintro rfl
    obtain rfl : o' = o := Option.some.inj (ho'.symm.trans ho)
    rw [hd] at hd'; exact nomatch hd'
  exact ⟨o', n, b, c, (hs.2 a hne).trans ho', hc, hd', h1.keeps ho hd hs, h2.keeps ho hd hs⟩
end
end L2
namespace L2
open PySem PySem.Spec PyProof.Rows
abbrev PKey := (List Int × List Int) × Addr
def PkAt (H : Hp) (k : List Int × List Int) (b : Addr) : Prop := ∃ c d, H b = some (.tup [.ref c, .ref d]) ∧ H c = some (.tup (k.1.map V.int)) ∧ H d = some (.tup (k.2.map V.int))
def PKs (H : Hp) (xs : List PKey) : Prop := xs.length ≤ 1000 ∧ (xs.map (·.1)).Nodup ∧ ∀ x ∈ xs, PkAt H x.1 x.2
section
variable {X : Cx}
end
theorem PkAt.keeps {H H' : Hp} {k : List Int × List Int} {b : Addr} (p : PkAt H k b) (ht : ∀ b ys, H b = some (.tup ys) → H' b = some (.tup ys)) : PkAt H' k b := let ⟨c, d, h1, h2, h3⟩ := p; ⟨c, d, ht _ _ h1, ht _ _ h2, ht _ _ h3⟩
theorem PKs.keeps {H H' : Hp} {xs : List PKey} (p : PKs H xs) (ht : ∀ b ys, H b = some (.tup ys) → H' b = some (.tup ys)) : PKs H' xs := ⟨p.1, p.2.1, fun x hx => (p.2.2 x hx).keeps ht⟩
theorem Room.two {k : Nat} {A : Around} (r : Room k A) : A.units + 2 < cLine := by have := r.un; omega
end L2
namespace L2
open PySem PySem.Spec PyProof.Rows
section
variable {X : Cx}
end
def PSG (X : Cx) (body : List Stmt) (t : (V → St → Hp → Prop) → St → Hp → Prop) : Prop := ∀ (pins : List (Addr × Obj)) (s : Shared) (σ : St) (H : Hp) (G : V → St → Hp → Prop), Inv X pins σ H s → t G σ H →
  wpAny (model X.prog X.w) X.A (execs body X.env) (fun fl s' => ∃ u v σ' H', fl = .ret u ∧ Inv X pins σ' H' s' ∧ RelV v u ∧ G v σ' H') (fun e s' => X.xe e s') s
section
variable {X : Cx}
end
theorem Un.own {fs : List Addr} {H H' : Hp} {h h' : Heap} {c : Addr} {x : HO} (u : Un fs [] H H' h h') (hn : h.get? c = none) (hc : H' c = none) : Un fs [] H (upd H' c x) h h' where
  keep := u.keep
  slot := u.slot
  free := fun b o e n hx => by rw [upd_ne (fun z => by rw [z, hn] at e; cases e)]; exact u.free b o e n hx
  there := u.there
  tups := fun b xs e => by have z := u.tups b xs e; rw [upd_ne (ne_of_none z hc)]; exact z
  frzs := fun b o y e => by have z := u.frzs b o y e; rw [upd_ne (ne_of_none z hc)]; exact z
  tbls := fun b ps e => by obtain ⟨more, z⟩ := u.tbls b ps e; exact ⟨more, by rw [upd_ne (ne_of_none z hc)]; exact z⟩
theorem PSG.nox {X : Cx} {st : List Stmt} {t : (V → St → Hp → Prop) → St → Hp → Prop} (h : PSG X.nox st t) : PSG X st t := fun pins s σ H G I hw =>
  wpAny_mono (h pins s σ H G (I.wish _) hw) (fun _ _ ⟨u, v, σ', H', e, I', r, q⟩ => ⟨u, v, σ', H', e, I'.unwish, r, q⟩) fun _ _ z => False.elim z
section
variable {P : Program} {w : World} {K : PySem.W.Frag} {mg : Str → Option Value} {base : Heap}
end
end L2
namespace TS
open PySem PyProof.Rows
structure SOrd (r : Keyed → Keyed → Bool) : Prop where
  asym : ∀ {x y}, r x y = true → r y x = false
  ntr : ∀ {x y z}, r y x = false → r z y = false → r z x = false
def Ask (M : Model) (A : Around) (E : Value → Shared → Prop) (s : Shared) (κ : SortKind) (S : Keyed → Prop) (r : Keyed → Keyed → Bool) : Prop :=
  ∀ {st : SortSt} {x y : Keyed} {Q : Option Bool → SortSt → Prop}, kindOf st = κ → S x → S y → Q (some (r x y)) st → wpS M A E s (lt' x y) Q st
section
variable {M : Model} {A : Around} {E : Value → Shared → Prop} {s : Shared} {κ : SortKind} {S : Keyed → Prop} {r : Keyed → Keyed → Bool}
theorem wpS_elem {arr : Array Keyed} {i : Nat} {x : Keyed} {st : SortSt} {Q : Keyed → SortSt → Prop} (h : arr[i]? = some x) (q : Q x st) : wpS M A E s (elem' arr i) Q st := by
  rw [elem'_eq, h]
  exact wpS_pure q
def gallop' : Bool → Keyed → Array Keyed → Nat → Nat → Nat → StateT SortSt Sem (Option Nat) := sortPriv% PySem.Builtin.gallop
def beyond' (left : Bool) (key : Keyed) (arr : Array Keyed) (base i : Nat) : StateT SortSt Sem (Option Bool) := do
  let x ← elem' arr (base + i)
  if left then lt' x key else return (← lt' key x).map (!·)
theorem gallop'_eq (left : Bool) (key : Keyed) (arr : Array Keyed) (base n hint : Nat) : gallop' left key arr base n hint = (do
  let mut lastofs := 0
  let mut ofs := 1
  let mut lo := 0
  let mut hi := 0
  let some right ← beyond' left key arr base hint | return none
  if right then
    let maxofs := n - hint
    for _ in [0:n] do
      if ofs ≥ maxofs then break
      let some more ← beyond' left key arr base (hint + ofs) | return none
      if !more then break
      lastofs := ofs
      ofs := 2 * ofs + 1
    lo := hint + lastofs + 1
    hi := hint + min ofs maxofs
  else
    let maxofs := hint + 1
    for _ in [0:n] do
      if ofs ≥ maxofs then break
      let some found ← beyond' left key arr base (hint - ofs) | return none
      if found then break
      lastofs := ofs
      ofs := 2 * ofs + 1
    lo := hint + 1 - min ofs maxofs
    hi := hint - lastofs
  for _ in [0:n] do
    if lo ≥ hi then break
    let m := lo + (hi - lo) / 2
    let some more ← beyond' left key arr base m | return none
    if more then lo := m + 1 else hi := m
  return some hi) := rfl
theorem wpS_beyond (K : Ask M A E s κ S r) {left : Bool} {key x : Keyed} {arr : Array Keyed} {base i : Nat} {st : SortSt} {Q : Option Bool → SortSt → Prop} (hk : kindOf st = κ) (hS : S key) (hx : arr[base + i]? = some x) (hX : S x) (q : Q (some (if left then r x key else !(r key x))) st) :
    wpS M A E s (beyond' left key arr base i) Q st := by
  unfold beyond'
  refine wpS_bind (wpS_elem hx ?_)
  cases left with
  | true => exact K hk hX hS q
  | false => exact wpS_bind (K hk hS hX (wpS_pure q))
def binLoop (left : Bool) (key : Keyed) (arr : Array Keyed) (base n lo0 hi0 : Nat) : StateT SortSt Sem (Option Nat) := do
  let mut lo := lo0
  let mut hi := hi0
  for _ in [0:n] do
    if lo ≥ hi then break
    let m := lo + (hi - lo) / 2
    let some more ← beyond' left key arr base m | return none
    if more then lo := m + 1 else hi := m
  return some hi
theorem wpS_gallop (K : Ask M A E s κ S r) {left : Bool} {key : Keyed} {arr : Array Keyed} {base n hint : Nat} {st : SortSt} {Q : Option Nat → SortSt → Prop} (hk : kindOf st = κ) (hS : S key) (hh : hint < n) (p : Nat → Bool)
    (hp : ∀ i, i < n → ∃ x, arr[base + i]? = some x ∧ S x ∧ (if left then r x key else !(r key x)) = p i) (mono : ∀ i j, i ≤ j → j < n → p j = true → p i = true)
    (q : ∀ k, k ≤ n → (∀ i, i < k → p i = true) → (∀ i, k ≤ i → i < n → p i = false) → Q (some k) st) : wpS M A E s (gallop' left key arr base n hint) Q st := by
  rw [gallop'_eq]
  have bey : ∀ {i : Nat} {Q : Option Bool → SortSt → Prop}, i < n → Q (some (p i)) st → wpS M A E s (beyond' left key arr base i) Q st := fun {i Q} hi h => by
    obtain ⟨x, h1, h2, h3⟩ := hp i hi
    refine wpS_beyond K hk hS h1 h2 ?_
    rw [h3]; exact h
  have nmono : ∀ i j, i ≤ j → j < n → p i = false → p j = false := fun i j hij hj h => by
    cases e : p j with
    | false => rfl
    | true => rw [mono i j hij hj e] at h; cases h
  have bin : ∀ lo hi, lo ≤ hi → hi ≤ n → (∀ i, i < lo → p i = true) → (∀ i, hi ≤ i → i < n → p i = false) → wpS M A E s (binLoop left key arr base n lo hi) Q st := fun lo hi h1 h2 h3 h4 => by
    unfold binLoop
    refine wpS_bind (wpS_mono (wpS_forRange (I := fun x c st' => st' = st ∧ ∃ l h, c = (none, l, h) ∧ l ≤ h ∧ h ≤ n ∧ h - l ≤ n - x ∧ (∀ i, i < l → p i = true) ∧ ∀ i, h ≤ i → i < n → p i = false)
      (Q := fun c st' => st' = st ∧ ∃ l, c = (none, l, l) ∧ l ≤ n ∧ (∀ i, i < l → p i = true) ∧ ∀ i, l ≤ i → i < n → p i = false) ?_ ?_ ⟨rfl, lo, hi, rfl, h1, h2, by omega, h3, h4⟩) ?_)
    · rintro x c st' _ hx ⟨rfl, l, h, rfl, a1, a2, a3, a4, a5⟩
      dsimp only
      by_cases e : l ≥ h
      · rw [if_pos e]
        have : l = h := by omega
        subst this
        exact wpS_pure ⟨rfl, l, rfl, a2, a4, a5⟩
      · rw [if_neg e]
        refine wpS_bind (bey (by omega) ?_)
        dsimp only
        cases em : p (l + (h - l) / 2) with
        | true =>
          rw [if_pos rfl]
          exact wpS_pure ⟨rfl, _, _, rfl, by omega, a2, by omega, fun i hi => mono i _ (by omega) (by omega) em, a5⟩
        | false =>
          rw [if_neg (by simp)]
          exact wpS_pure ⟨rfl, _, _, rfl, by omega, by omega, by omega, a4, fun i hi hn => nmono _ i hi hn em⟩
    · rintro c st' ⟨rfl, l, h, rfl, a1, a2, a3, a4, a5⟩
      have : l = h := by omega
      subst this
      exact ⟨rfl, l, rfl, a2, a4, a5⟩
    · rintro c st' ⟨rfl, l, rfl, a2, a4, a5⟩
      exact wpS_pure (q l a2 a4 a5)
  refine wpS_bind (bey hh ?_)
  dsimp only
  cases hr : p hint with
  | true =>
    rw [if_pos rfl]
    refine wpS_bind (wpS_mono (wpS_forRange (I := fun x c st' => st' = st ∧ ∃ l o, c = (none, l, o) ∧ l < o ∧ x + 1 ≤ o ∧ l < n - hint ∧ p (hint + l) = true)
      (Q := fun c st' => st' = st ∧ ∃ l o, c = (none, l, o) ∧ l < o ∧ l < n - hint ∧ p (hint + l) = true ∧ (o ≥ n - hint ∨ p (hint + o) = false)) ?_ ?_ ⟨rfl, 0, 1, rfl, by omega, by omega, by omega, hr⟩) ?_)
    · rintro x c st' _ hx ⟨rfl, l, o, rfl, a1, a2, a3, a4⟩
      dsimp only
      by_cases e : o ≥ n - hint
      · rw [if_pos e]
        exact wpS_pure ⟨rfl, l, o, rfl, a1, a3, a4, .inl e⟩
      · rw [if_neg e]
        refine wpS_bind (bey (by omega) ?_)
        dsimp only
        cases em : p (hint + o) with
        | true =>
          rw [if_neg (by simp)]
          exact wpS_pure ⟨rfl, _, _, rfl, by omega, by omega, by omega, em⟩
        | false =>
          rw [if_pos (by simp)]
          exact wpS_pure ⟨rfl, l, o, rfl, a1, a3, a4, .inr em⟩
    · rintro c st' ⟨rfl, l, o, rfl, a1, a2, a3, a4⟩
      exact ⟨rfl, l, o, rfl, a1, a3, a4, .inl (by omega)⟩
    · rintro c st' ⟨rfl, l, o, rfl, a1, a3, a4, a5⟩
      refine bin (hint + l + 1) (hint + min o (n - hint)) (by omega) (by omega) (fun i hi => mono i _ (by omega) (by omega) a4) fun i hi hn => ?_
      rcases a5 with a5 | a5
      · omega
      · exact nmono _ i (by omega) hn a5
  | false =>
    rw [if_neg (by simp)]
    refine wpS_bind (wpS_mono (wpS_forRange (I := fun x c st' => st' = st ∧ ∃ l o, c = (none, l, o) ∧ l < o ∧ x + 1 ≤ o ∧ l < hint + 1 ∧ p (hint - l) = false)
      (Q := fun c st' => st' = st ∧ ∃ l o, c = (none, l, o) ∧ l < o ∧ l < hint + 1 ∧ p (hint - l) = false ∧ (o ≥ hint + 1 ∨ p (hint - o) = true)) ?_ ?_ ⟨rfl, 0, 1, rfl, by omega, by omega, by omega, hr⟩) ?_)
    · rintro x c st' _ hx ⟨rfl, l, o, rfl, a1, a2, a3, a4⟩
      dsimp only
      by_cases e : o ≥ hint + 1
      · rw [if_pos e]
        exact wpS_pure ⟨rfl, l, o, rfl, a1, a3, a4, .inl e⟩
      · rw [if_neg e]
        refine wpS_bind (bey (by omega) ?_)
        dsimp only
        cases em : p (hint - o) with
        | true =>
          rw [if_pos rfl]
          exact wpS_pure ⟨rfl, l, o, rfl, a1, a3, a4, .inr em⟩
        | false =>
          rw [if_neg (by simp)]
          exact wpS_pure ⟨rfl, _, _, rfl, by omega, by omega, by omega, em⟩
    · rintro c st' ⟨rfl, l, o, rfl, a1, a2, a3, a4⟩
      exact ⟨rfl, l, o, rfl, a1, a3, a4, .inl (by omega)⟩
    · rintro c st' ⟨rfl, l, o, rfl, a1, a3, a4, a5⟩
      refine bin (hint + 1 - min o (hint + 1)) (hint - l) (by omega) (by omega) (fun i hi => ?_) fun i hi hn => nmono _ i hi hn a4
      rcases a5 with a5 | a5
      · omega
      · exact mono i _ (by omega) (by omega) a5
def setMinGallop' : Nat → StateT SortSt Sem Unit := sortPriv% PySem.Builtin.setMinGallop
def mergeLo' : Array Keyed → Array Keyed → StateT SortSt Sem (Array Keyed) := sortPriv% PySem.Builtin.mergeLo
theorem mergeLo'_eq (a b : Array Keyed) : mergeLo' a b = (do
  rule "list.sort.merge-lo"
  let total := a.size + b.size
  let done (out : Array Keyed) (ia ib : Nat) := out ++ a.extract ia a.size ++ b.extract ib b.size
  let lastOfA (out : Array Keyed) (ia ib : Nat) := out ++ b.extract ib b.size ++ a.extract ia a.size
  let mut out : Array Keyed := #[← elem' b 0]
  let mut ia := 0
  let mut ib := 1
  if ib == b.size then return done out ia ib
  if ia + 1 == a.size then return lastOfA out ia ib
  let mut minGallop := gallopOf (← get)
  for _ in [0:total] do
    let mut acount := 0
    let mut bcount := 0
    for _ in [0:total] do
      let some bWins ← lt' (← elem' b ib) (← elem' a ia) | return done out ia ib
      if bWins then
        out := out.push (← elem' b ib); ib := ib + 1; bcount := bcount + 1; acount := 0
        if ib == b.size then return done out ia ib
        if bcount ≥ minGallop then break
      else
        out := out.push (← elem' a ia); ia := ia + 1; acount := acount + 1; bcount := 0
        if ia + 1 == a.size then return lastOfA out ia ib
        if acount ≥ minGallop then break
    rule "list.sort.gallop"
    minGallop := minGallop + 1
    for _ in [0:total] do
      if minGallop > 1 then minGallop := minGallop - 1
      setMinGallop' minGallop
      let some k ← gallop' false (← elem' b ib) a ia (a.size - ia) 0 | return done out ia ib
      acount := k
      if k > 0 then
        out := out ++ a.extract ia (ia + k); ia := ia + k
        if ia + 1 == a.size then return lastOfA out ia ib
        if ia == a.size then return done out ia ib
      out := out.push (← elem' b ib); ib := ib + 1
      if ib == b.size then return done out ia ib
      let some k ← gallop' true (← elem' a ia) b ib (b.size - ib) 0 | return done out ia ib
      bcount := k
      if k > 0 then
        out := out ++ b.extract ib (ib + k); ib := ib + k
        if ib == b.size then return done out ia ib
      out := out.push (← elem' a ia); ia := ia + 1
      if ia + 1 == a.size then return lastOfA out ia ib
      if acount < 7 && bcount < 7 then break
    minGallop := minGallop + 1
    setMinGallop' minGallop
  unsupported "internal:list.sort.merge-bound") := rfl
abbrev Srt (r : Keyed → Keyed → Bool) (l : List Keyed) : Prop := l.Pairwise fun x y => r y x = false
structure SG (st st' : SortSt) : Prop where
  kind : kindOf st' = kindOf st
  arr : arrOf st' = arrOf st
  pend : pendingOf st' = pendingOf st
  fail : failedOf st' = failedOf st
theorem SG.refl (st : SortSt) : SG st st := ⟨rfl, rfl, rfl, rfl⟩
theorem SG.trans {a b c : SortSt} (h : SG a b) (g : SG b c) : SG a c := ⟨g.kind.trans h.kind, g.arr.trans h.arr, g.pend.trans h.pend, g.fail.trans h.fail⟩
structure MI (r : Keyed → Keyed → Bool) (A B X : List Keyed) (i j : Nat) : Prop where
  ha : Srt r (X ++ A.drop i)
  hb : Srt r (X ++ B.drop j)
  pm : (X ++ (A.drop i ++ B.drop j)).Perm (A ++ B)
theorem srt_mid {X Z Y : List Keyed} (h1 : Srt r (X ++ Z)) (h2 : Srt r (X ++ Y)) (h : ∀ z ∈ Z, ∀ y ∈ Y, r y z = false) : Srt r (X ++ Z ++ Y) := by
  rw [Srt, List.pairwise_append] at h2 ⊢
  refine ⟨h1, h2.2.1, fun x hx y hy => ?_⟩
  rcases List.mem_append.mp hx with hx | hx
  · exact h2.2.2 x hx y hy
  · exact h x hx y hy
theorem MI.takeA {A B X : List Keyed} {i j : Nat} (h : MI r A B X i j) (k : Nat) (le : ∀ x ∈ (A.drop i).take k, ∀ y ∈ B.drop j, r y x = false) : MI r A B (X ++ (A.drop i).take k) (i + k) j := by
  have e : A.drop i = (A.drop i).take k ++ A.drop (i + k) := by rw [← List.drop_drop]; exact (List.take_append_drop k _).symm
  have ha := h.ha
  rw [e, ← List.append_assoc] at ha
  refine ⟨ha, srt_mid (List.Pairwise.sublist (List.sublist_append_left _ _) ha) h.hb le, ?_⟩
  have pm := h.pm
  rw [e] at pm
  refine List.Perm.trans ?_ pm
  rw [List.append_assoc, List.append_assoc]
theorem MI.takeB {A B X : List Keyed} {i j : Nat} (h : MI r A B X i j) (k : Nat) (le : ∀ x ∈ (B.drop j).take k, ∀ y ∈ A.drop i, r y x = false) : MI r A B (X ++ (B.drop j).take k) i (j + k) := by
  have e : B.drop j = (B.drop j).take k ++ B.drop (j + k) := by rw [← List.drop_drop]; exact (List.take_append_drop k _).symm
  have hb := h.hb
  rw [e, ← List.append_assoc] at hb
  refine ⟨srt_mid (List.Pairwise.sublist (List.sublist_append_left _ _) hb) h.ha le, hb, ?_⟩
  have pm := h.pm
  rw [e] at pm
  refine List.Perm.trans ?_ pm
  rw [List.append_assoc]
  refine List.Perm.append_left _ ?_
  rw [← List.append_assoc, ← List.append_assoc]
  exact List.Perm.append_right _ List.perm_append_comm
def Good (r : Keyed → Keyed → Bool) (A B l : List Keyed) : Prop := Srt r l ∧ l.Perm (A ++ B)
theorem ex_drop (a : Array Keyed) (i : Nat) : (a.extract i).toList = a.toList.drop i := by
  simp
  exact List.take_of_length_le (by simp)
theorem ex_mid (a : Array Keyed) (i k : Nat) : (a.extract i (i + k)).toList = (a.toList.drop i).take k := by
  rw [Array.toList_extract, List.extract_eq_drop_take]
  congr 1
  omega
theorem MI.done {a b out : Array Keyed} {i j : Nat} (h : MI r a.toList b.toList out.toList i j) (e : i = a.size ∨ j = b.size) : Good r a.toList b.toList (out ++ a.extract i ++ b.extract j).toList := by
  rw [Array.toList_append, Array.toList_append, ex_drop, ex_drop]
  refine ⟨?_, by rw [List.append_assoc]; exact h.pm⟩
  rcases e with e | e
  · rw [show a.toList.drop i = [] by rw [e]; simp, List.append_nil]; exact h.hb
  · rw [show b.toList.drop j = [] by rw [e]; simp, List.append_nil]; exact h.ha
theorem MI.last {a b out : Array Keyed} {i j : Nat} (h : MI r a.toList b.toList out.toList i j) (hl : ∀ x ∈ a.toList.drop i, ∀ y ∈ b.toList, r x y = false) : Good r a.toList b.toList (out ++ b.extract j ++ a.extract i).toList := by
  rw [Array.toList_append, Array.toList_append, ex_drop, ex_drop]
  refine ⟨srt_mid h.hb h.ha fun z hz y hy => hl y hy z (List.mem_of_mem_drop hz), ?_⟩
  refine List.Perm.trans ?_ h.pm
  rw [List.append_assoc]
  exact List.Perm.append_left _ List.perm_append_comm
theorem MI.len {A B X : List Keyed} {i j : Nat} (h : MI r A B X i j) (hi : i ≤ A.length) (hj : j ≤ B.length) : X.length = i + j := by
  have := h.pm.length_eq
  simp only [List.length_append, List.length_drop] at this
  omega
theorem one_take {l : List Keyed} {i : Nat} {x : Keyed} (h : l[i]? = some x) : (l.drop i).take 1 = [x] := by
  have hi := (List.getElem?_eq_some_iff.mp h).1
  rw [List.drop_eq_getElem_cons hi]
  simp [(List.getElem?_eq_some_iff.mp h).2]
theorem srt_drop {l : List Keyed} (hs : Srt r l) (O : SOrd r) {i : Nat} {x : Keyed} (h : l[i]? = some x) : ∀ y ∈ l.drop i, r y x = false := by
  have hi := (List.getElem?_eq_some_iff.mp h).1
  have e : l.drop i = x :: l.drop (i + 1) := by rw [List.drop_eq_getElem_cons hi, (List.getElem?_eq_some_iff.mp h).2]
  have hd : Srt r (l.drop i) := List.Pairwise.sublist (List.drop_sublist _ _) hs
  intro y hy
  rw [e] at hd hy
  rcases List.mem_cons.mp hy with rfl | hy
  · cases q : r y y with
    | false => rfl
    | true => exact (O.asym q).symm ▸ q ▸ rfl
  · exact (List.pairwise_cons.mp hd).1 y hy
theorem arr_get {a : Array Keyed} {i : Nat} (h : i < a.size) : ∃ x, a[i]? = some x ∧ a.toList[i]? = some x := ⟨a[i], getElem?_pos a i h, by simp⟩
abbrev S7 := Option (Array Keyed) × Array Keyed × Nat × Nat × Nat × Nat × Nat
def loJ2 (a b : Array Keyed) (i mg ac bc : Nat) (out : Array Keyed) (j : Nat) : StateT SortSt Sem (ForInStep S7) := do
  let x ← elem' a i
  if (i + 1 + 1 == a.size) = true then pure (.done (some (out.push x ++ b.extract j ++ a.extract (i + 1)), out.push x, i + 1, j, mg, ac, bc))
  else if (decide (ac < 7) && decide (bc < 7)) = true then pure (.done (none, out.push x, i + 1, j, mg, ac, bc)) else pure (.yield (none, out.push x, i + 1, j, mg, ac, bc))
def loJ1 (a b : Array Keyed) (j mg ac bc : Nat) (out : Array Keyed) (i : Nat) : StateT SortSt Sem (ForInStep S7) := do
  let y ← elem' b j
  if (j + 1 == b.size) = true then pure (.done (some (out.push y ++ a.extract i ++ b.extract (j + 1)), out.push y, i, j + 1, mg, ac, bc))
  else do
    let x ← elem' a i
    let g ← gallop' true x b (j + 1) (b.size - (j + 1)) 0
    match g with
    | some k =>
      if k > 0 then
        if (j + 1 + k == b.size) = true then pure (.done (some (out.push y ++ b.extract (j + 1) (j + 1 + k) ++ a.extract i ++ b.extract (j + 1 + k)), out.push y ++ b.extract (j + 1) (j + 1 + k), i, j + 1 + k, mg, ac, k))
        else loJ2 a b i mg ac k (out.push y ++ b.extract (j + 1) (j + 1 + k)) (j + 1 + k)
      else loJ2 a b i mg ac k (out.push y) (j + 1)
    | _ => pure (.done (some (out.push y ++ a.extract i ++ b.extract (j + 1)), out.push y, i, j + 1, mg, ac, bc))
structure Two (S : Keyed → Prop) (r : Keyed → Keyed → Bool) (a b : Array Keyed) : Prop where
  Sa : ∀ x ∈ a.toList, S x
  Sb : ∀ x ∈ b.toList, S x
  sa : Srt r a.toList
  sb : Srt r b.toList
theorem wpS_setMin {st : SortSt} {g : Nat} {Q : Unit → SortSt → Prop} (q : ∀ st', SG st st' → Q () st') : wpS M A E s (setMinGallop' g) Q st := by
  show wpS M A E s (modify fun st => SortSt.mk' (kindOf st) (arrOf st) (pendingOf st) g (failedOf st)) Q st
  exact wpS_modify (q _ ⟨rfl, rfl, rfl, rfl⟩)
theorem wpS_gallF (K : Ask M A E s κ S r) (O : SOrd r) {a : Array Keyed} {key : Keyed} {st : SortSt} {i n h : Nat} {Q : Option Nat → SortSt → Prop} (hk : kindOf st = κ) (hS : S key) (Sa : ∀ x ∈ a.toList, S x) (sa : Srt r a.toList) (hi : i + n ≤ a.size) (hh : h < n)
    (q : ∀ k, k ≤ n → (∀ x ∈ (a.toList.drop i).take k, r key x = false) → (∀ m, i + k ≤ m → m < i + n → ∀ x, a.toList[m]? = some x → r key x = true) → Q (some k) st) : wpS M A E s (gallop' false key a i n h) Q st := by
  have at' : ∀ m, m < n → ∃ x, a[i + m]? = some x ∧ a.toList[i + m]? = some x := fun m hm => arr_get (by omega)
  refine wpS_gallop K hk hS hh (fun m => match a.toList[i + m]? with | some x => !(r key x) | none => false) (fun m hm => ?_) (fun m m' h1 h2 h3 => ?_) (fun k h1 h2 h3 => q k h1 (fun x hx => ?_) fun m hm1 hm2 x hx => ?_)
  · obtain ⟨x, e1, e2⟩ := at' m hm
    refine ⟨x, e1, Sa x (List.mem_of_getElem? e2), ?_⟩
    rw [e2]
    rfl
  · obtain ⟨x, _, e⟩ := at' m (by omega)
    obtain ⟨x', _, e'⟩ := at' m' h2
    rw [e'] at h3
    rw [e]
    dsimp only at h3 ⊢
    have q1 : r key x' = false := by simpa using h3
    have q2 : r x' x = false := by
      refine srt_drop sa O e x' ?_
      exact List.mem_iff_getElem?.mpr ⟨m' - m, by rw [List.getElem?_drop, show i + m + (m' - m) = i + m' by omega]; exact e'⟩
    rw [O.ntr q2 q1]
    rfl
  · obtain ⟨m, hm⟩ := List.mem_iff_getElem?.mp hx
    have hmk : m < k := by have := (List.getElem?_eq_some_iff.mp hm).1; rw [List.length_take] at this; omega
    rw [List.getElem?_take_of_lt hmk, List.getElem?_drop] at hm
    have := h2 m hmk
    rw [hm] at this
    simpa using this
  · have := h3 (m - i) (by omega) (by omega)
    rw [show i + (m - i) = m by omega, hx] at this
    simpa using this
theorem wpS_gallT (K : Ask M A E s κ S r) (O : SOrd r) {a : Array Keyed} {key : Keyed} {st : SortSt} {i n h : Nat} {Q : Option Nat → SortSt → Prop} (hk : kindOf st = κ) (hS : S key) (Sa : ∀ x ∈ a.toList, S x) (sa : Srt r a.toList) (hi : i + n ≤ a.size) (hh : h < n)
    (q : ∀ k, k ≤ n → (∀ x ∈ (a.toList.drop i).take k, r x key = true) → (∀ m, i + k ≤ m → m < i + n → ∀ x, a.toList[m]? = some x → r x key = false) → Q (some k) st) : wpS M A E s (gallop' true key a i n h) Q st := by
  have at' : ∀ m, m < n → ∃ x, a[i + m]? = some x ∧ a.toList[i + m]? = some x := fun m hm => arr_get (by omega)
  refine wpS_gallop K hk hS hh (fun m => match a.toList[i + m]? with | some x => r x key | none => false) (fun m hm => ?_) (fun m m' h1 h2 h3 => ?_) (fun k h1 h2 h3 => q k h1 (fun x hx => ?_) fun m hm1 hm2 x hx => ?_)
  · obtain ⟨x, e1, e2⟩ := at' m hm
    refine ⟨x, e1, Sa x (List.mem_of_getElem? e2), ?_⟩
    rw [e2]
    rfl
  · obtain ⟨x, _, e⟩ := at' m (by omega)
    obtain ⟨x', _, e'⟩ := at' m' h2
    rw [e'] at h3
    rw [e]
    dsimp only at h3 ⊢
    have q2 : r x' x = false := by
      refine srt_drop sa O e x' ?_
      exact List.mem_iff_getElem?.mpr ⟨m' - m, by rw [List.getElem?_drop, show i + m + (m' - m) = i + m' by omega]; exact e'⟩
    cases qq : r x key with
    | true => rfl
    | false => rw [O.ntr qq q2] at h3; cases h3
  · obtain ⟨m, hm⟩ := List.mem_iff_getElem?.mp hx
    have hmk : m < k := by have := (List.getElem?_eq_some_iff.mp hm).1; rw [List.length_take] at this; omega
    rw [List.getElem?_take_of_lt hmk, List.getElem?_drop] at hm
    have := h2 m hmk
    rw [hm] at this
    exact this
  · have := h3 (m - i) (by omega) (by omega)
    rw [show i + (m - i) = m by omega, hx] at this
    exact this
def Lo (r : Keyed → Keyed → Bool) (a b : Array Keyed) (o0 : Nat) (c : S7) : Prop := ∃ out i j mg ac bc, c = (none, out, i, j, mg, ac, bc) ∧ MI r a.toList b.toList out.toList i j ∧ i + 1 < a.size ∧ j < b.size ∧ o0 ≤ out.size
def Fn (r : Keyed → Keyed → Bool) (a b : Array Keyed) (c : S7) : Prop := ∃ res rest, c = (some res, rest) ∧ Good r a.toList b.toList res.toList
def OkJ (r : Keyed → Keyed → Bool) (a b : Array Keyed) (o0 : Nat) : ForInStep S7 → Prop
  | .done c => Fn r a b c ∨ Lo r a b o0 c
  | .yield c => Lo r a b o0 c
theorem MI.pushA {a b out : Array Keyed} {i j : Nat} {x : Keyed} (h : MI r a.toList b.toList out.toList i j) (hx : a.toList[i]? = some x) (le : ∀ y ∈ b.toList.drop j, r y x = false) : MI r a.toList b.toList (out.push x).toList (i + 1) j := by
  have := h.takeA 1 (by rw [one_take hx]; intro z hz; rw [List.mem_singleton.mp hz]; exact le)
  rw [one_take hx] at this
  rw [Array.toList_push]; exact this
theorem MI.pushB {a b out : Array Keyed} {i j : Nat} {x : Keyed} (h : MI r a.toList b.toList out.toList i j) (hx : b.toList[j]? = some x) (le : ∀ y ∈ a.toList.drop i, r y x = false) : MI r a.toList b.toList (out.push x).toList i (j + 1) := by
  have := h.takeB 1 (by rw [one_take hx]; intro z hz; rw [List.mem_singleton.mp hz]; exact le)
  rw [one_take hx] at this
  rw [Array.toList_push]; exact this
theorem wpS_loJ2 {a b out : Array Keyed} {i j mg ac bc o0 : Nat} {st : SortSt} {x : Keyed} {Q : ForInStep S7 → SortSt → Prop} (hl : ∀ x ∈ a.toList.drop (a.size - 1), ∀ y ∈ b.toList, r x y = false) (hM : MI r a.toList b.toList out.toList i j) (hi : i + 1 < a.size) (hj : j < b.size)
    (hx : a[i]? = some x ∧ a.toList[i]? = some x) (le : ∀ y ∈ b.toList.drop j, r y x = false) (ho : o0 ≤ out.size) (q : ∀ res, OkJ r a b o0 res → Q res st) : wpS M A E s (loJ2 a b i mg ac bc out j) Q st := by
  unfold loJ2
  refine wpS_bind (wpS_elem hx.1 ?_)
  have hM' := hM.pushA hx.2 le
  by_cases e : i + 1 + 1 = a.size
  · rw [if_pos (by simpa using e)]
    exact wpS_pure (q _ (.inl ⟨_, _, rfl, hM'.last (by rw [show i + 1 = a.size - 1 by omega]; exact hl)⟩))
  · rw [if_neg (by simpa using e)]
    have lo : ∀ mg ac bc, Lo r a b o0 (none, out.push x, i + 1, j, mg, ac, bc) := fun mg ac bc => ⟨_, _, _, _, _, _, rfl, hM', by omega, hj, by rw [Array.size_push]; omega⟩
    split
    · exact wpS_pure (q _ (.inr (lo _ _ _)))
    · exact wpS_pure (q _ (lo _ _ _))
theorem wpS_loJ1 (K : Ask M A E s κ S r) (O : SOrd r) {a b out : Array Keyed} {i j mg ac bc o0 : Nat} {st : SortSt} {y : Keyed} {Q : ForInStep S7 → SortSt → Prop} (T : Two S r a b) (hk : kindOf st = κ) (hl : ∀ x ∈ a.toList.drop (a.size - 1), ∀ y ∈ b.toList, r x y = false) (hM : MI r a.toList b.toList out.toList i j) (hi : i + 1 < a.size) (hj : j < b.size)
    (hy : b[j]? = some y ∧ b.toList[j]? = some y) (le : ∀ z ∈ a.toList.drop i, r z y = false) (ho : o0 ≤ out.size) (q : ∀ res, OkJ r a b o0 res → Q res st) : wpS M A E s (loJ1 a b j mg ac bc out i) Q st := by
  unfold loJ1
  refine wpS_bind (wpS_elem hy.1 ?_)
  have hM' := hM.pushB hy.2 le
  by_cases e : j + 1 = b.size
  · rw [if_pos (by simpa using e)]
    exact wpS_pure (q _ (.inl ⟨_, _, rfl, hM'.done (.inr e)⟩))
  rw [if_neg (by simpa using e)]
  obtain ⟨x, hx⟩ := arr_get (a := a) (i := i) (by omega)
  refine wpS_bind (wpS_elem hx.1 ?_)
  refine wpS_bind (wpS_gallT K O hk (T.Sa x (List.mem_of_getElem? hx.2)) T.Sb T.sb (by omega) (by omega) fun k hk1 h1 h2 => ?_)
  dsimp only
  have xle := srt_drop T.sa O hx.2
  have rest : ∀ y ∈ b.toList.drop (j + 1 + k), r y x = false := fun z hz => by
    obtain ⟨m, hm⟩ := List.mem_iff_getElem?.mp hz
    rw [List.getElem?_drop] at hm
    have := (List.getElem?_eq_some_iff.mp hm).1
    rw [Array.length_toList] at this
    exact h2 _ (by omega) (by omega) z hm
  by_cases k0 : k > 0
  · rw [if_pos k0]
    have hM2 := hM'.takeB k fun z hz w hw => O.ntr (O.asym (h1 z hz)) (xle w hw)
    have e2 : (out.push y ++ b.extract (j + 1) (j + 1 + k)).toList = (out.push y).toList ++ (b.toList.drop (j + 1)).take k := by rw [Array.toList_append, ex_mid]
    rw [← e2] at hM2
    by_cases e3 : j + 1 + k = b.size
    · rw [if_pos (by simpa using e3)]
      exact wpS_pure (q _ (.inl ⟨_, _, rfl, hM2.done (.inr e3)⟩))
    · rw [if_neg (by simpa using e3)]
      exact wpS_loJ2 hl hM2 hi (by omega) hx rest (by rw [Array.size_append, Array.size_push]; omega) q
  · rw [if_neg k0]
    have : k = 0 := by omega
    subst this
    exact wpS_loJ2 hl hM' hi (by omega) hx rest (by rw [Array.size_push]; omega) q
theorem wpS_mergeLo (K : Ask M A E s κ S r) (O : SOrd r) {a b : Array Keyed} {st : SortSt} {Q : Array Keyed → SortSt → Prop} (T : Two S r a b) (hk : kindOf st = κ) (na : 0 < a.size) (nb : 0 < b.size) (hf : ∀ y, b.toList[0]? = some y → ∀ x ∈ a.toList, r x y = false)
    (hl : ∀ x ∈ a.toList.drop (a.size - 1), ∀ y ∈ b.toList, r x y = false) (q : ∀ l st', SG st st' → Good r a.toList b.toList l.toList → Q l st') : wpS M A E s (mergeLo' a b) Q st := by
  rw [mergeLo'_eq]
  refine wpS_bind (wpS_lift (wpAny_rule ⟨rfl, ?_⟩))
  obtain ⟨y0, h0⟩ := arr_get (a := b) nb
  refine wpS_bind (wpS_elem h0.1 ?_)
  dsimp only
  have M0 : MI r a.toList b.toList (#[] : Array Keyed).toList 0 0 := ⟨by simpa using T.sa, by simpa using T.sb, by simp⟩
  have M1 : MI r a.toList b.toList #[y0].toList 0 1 := M0.pushB h0.2 (by simpa using hf y0 h0.2)
  by_cases e1 : 1 = b.size
  · rw [if_pos (by simpa using e1)]
    exact wpS_pure (q _ _ (SG.refl _) (M1.done (.inr e1)))
  rw [if_neg (by simpa using e1)]
  by_cases e2 : 0 + 1 = a.size
  · rw [if_pos (by simpa using e2)]
    exact wpS_pure (q _ _ (SG.refl _) (M1.last (by rw [show 0 = a.size - 1 by omega]; exact hl)))
  rw [if_neg (by simpa using e2)]
  refine wpS_bind (wpS_get ?_)
  refine wpS_bind (wpS_mono (wpS_forRange
    (I := fun x c st' => SG st st' ∧ ∃ out i j mg, c = (none, out, i, j, mg) ∧ MI r a.toList b.toList out.toList i j ∧ i + 1 < a.size ∧ j < b.size ∧ x + 1 ≤ out.size)
    (Q := fun c st' => SG st st' ∧ ∃ res rest, c = (some res, rest) ∧ Good r a.toList b.toList res.toList) ?step ?fin ⟨SG.refl _, _, _, _, _, rfl, M1, by omega, by omega, by simp⟩) ?post)
  case fin =>
    rintro c st' ⟨_, out, i, j, mg, rfl, hM, hi, hj, ho⟩
    exfalso
    have := hM.len (by rw [Array.length_toList]; omega) (by rw [Array.length_toList]; omega)
    rw [Array.length_toList] at this
    omega
  case post =>
    rintro c st' ⟨sg, res, rest, rfl, g⟩
    exact wpS_pure (q _ _ sg g)
  case step =>
    rintro x c st1 _ hx ⟨sg, out, i, j, mg, rfl, hM, hi, hj, ho⟩
    dsimp only
    have hk1 : kindOf st1 = κ := sg.kind.trans hk
    refine wpS_bind (wpS_mono (wpS_forRange
      (I := fun x' c st' => st' = st1 ∧ ∃ o i j ac bc, c = (none, o, i, j, ac, bc) ∧ MI r a.toList b.toList o.toList i j ∧ i + 1 < a.size ∧ j < b.size ∧ out.size + x' ≤ o.size)
      (Q := fun c st' => st' = st1 ∧ ((∃ res rest, c = (some res, rest) ∧ Good r a.toList b.toList res.toList) ∨ ∃ o i j ac bc, c = (none, o, i, j, ac, bc) ∧ MI r a.toList b.toList o.toList i j ∧ i + 1 < a.size ∧ j < b.size ∧ out.size + 1 ≤ o.size)) ?s1 ?f1 ⟨rfl, out, i, j, 0, 0, rfl, hM, hi, hj, by omega⟩) ?p1)
    case f1 =>
      rintro c st' ⟨rfl, o, i, j, ac, bc, rfl, hM, hi, hj, ho⟩
      exact ⟨rfl, .inr ⟨o, i, j, ac, bc, rfl, hM, hi, hj, by omega⟩⟩
    case s1 =>
      rintro x' c st' _ hx' ⟨rfl, o, i, j, ac, bc, rfl, hM, hi, hj, ho⟩
      dsimp only
      obtain ⟨y, hy⟩ := arr_get hj
      obtain ⟨z, hz⟩ := arr_get (a := a) (i := i) (by omega)
      refine wpS_bind (wpS_elem hy.1 (wpS_bind (wpS_elem hz.1 (wpS_bind (K hk1 (T.Sb y (List.mem_of_getElem? hy.2)) (T.Sa z (List.mem_of_getElem? hz.2)) ?_)))))
      have zle := srt_drop T.sa O hz.2
      have yle := srt_drop T.sb O hy.2
      dsimp only
      cases hw : r y z with
      | true =>
        rw [if_pos rfl]
        refine wpS_bind (wpS_elem hy.1 ?_)
        have hM' := hM.pushB hy.2 fun w hw' => O.ntr (O.asym hw) (zle w hw')
        by_cases e : j + 1 = b.size
        · rw [if_pos (by simpa using e)]
          exact wpS_pure ⟨rfl, .inl ⟨_, _, rfl, hM'.done (.inr e)⟩⟩
        · rw [if_neg (by simpa using e)]
          split
          · exact wpS_pure ⟨rfl, .inr ⟨_, _, _, _, _, rfl, hM', hi, by omega, by rw [Array.size_push]; omega⟩⟩
          · exact wpS_pure ⟨rfl, _, _, _, _, _, rfl, hM', hi, by omega, by rw [Array.size_push]; omega⟩
      | false =>
        rw [if_neg (by simp)]
        refine wpS_bind (wpS_elem hz.1 ?_)
        have hM' := hM.pushA hz.2 fun w hw' => O.ntr hw (yle w hw')
        by_cases e : i + 1 + 1 = a.size
        · rw [if_pos (by simpa using e)]
          exact wpS_pure ⟨rfl, .inl ⟨_, _, rfl, hM'.last (by rw [show i + 1 = a.size - 1 by omega]; exact hl)⟩⟩
        · rw [if_neg (by simpa using e)]
          split
          · exact wpS_pure ⟨rfl, .inr ⟨_, _, _, _, _, rfl, hM', by omega, hj, by rw [Array.size_push]; omega⟩⟩
          · exact wpS_pure ⟨rfl, _, _, _, _, _, rfl, hM', by omega, hj, by rw [Array.size_push]; omega⟩
    case p1 =>
      rintro c st' ⟨rfl, ⟨res, rest, rfl, g⟩ | ⟨o, i, j, ac, bc, rfl, hM, hi, hj, ho⟩⟩
      · exact wpS_pure ⟨sg, _, _, rfl, g⟩
      · dsimp only
        refine wpS_bind (wpS_lift (wpAny_rule ⟨rfl, ?_⟩))
        refine wpS_bind (wpS_mono (wpS_forRange
          (I := fun x' c st'' => SG st st'' ∧ Lo r a b (out.size + 1) c)
          (Q := fun c st'' => SG st st'' ∧ (Fn r a b c ∨ Lo r a b (out.size + 1) c)) ?s2 ?f2 ⟨sg, _, _, _, _, _, _, rfl, hM, hi, hj, by omega⟩) ?p2)
        case f2 =>
          rintro c st'' ⟨h1, h2⟩
          exact ⟨h1, .inr h2⟩
        case p2 =>
          rintro c st'' ⟨sg2, ⟨res, rest, rfl, g⟩ | ⟨o, i, j, mg, ac, bc, rfl, hM, hi, hj, ho⟩⟩
          · exact wpS_pure ⟨sg2, _, _, rfl, g⟩
          · exact wpS_bind (wpS_setMin fun st3 sg3 => wpS_pure ⟨sg2.trans sg3, _, _, _, _, rfl, hM, hi, hj, by show x + 1 + 1 ≤ o.size; omega⟩)
        case s2 =>
          rintro x' c st2 _ hx' ⟨sg2, o, i, j, mg, ac, bc, rfl, hM, hi, hj, ho⟩
          dsimp only
          have body : ∀ mg : Nat, wpS M A E s (do
              setMinGallop' mg
              let y ← elem' b j
              let g ← gallop' false y a i (a.size - i) 0
              match g with
              | some k =>
                if k > 0 then
                  if (i + k + 1 == a.size) = true then pure (ForInStep.done ((some (o ++ a.extract i (i + k) ++ b.extract j ++ a.extract (i + k)), o ++ a.extract i (i + k), i + k, j, mg, k, bc) : S7))
                  else if (i + k == a.size) = true then pure (ForInStep.done ((some (o ++ a.extract i (i + k) ++ a.extract (i + k) ++ b.extract j), o ++ a.extract i (i + k), i + k, j, mg, k, bc) : S7))
                  else loJ1 a b j mg k bc (o ++ a.extract i (i + k)) (i + k)
                else loJ1 a b j mg k bc o i
              | _ => pure (ForInStep.done ((some (o ++ a.extract i ++ b.extract j), o, i, j, mg, ac, bc) : S7)))
              (fun res st' => match res with | .done c => SG st st' ∧ (Fn r a b c ∨ Lo r a b (out.size + 1) c) | .yield c => SG st st' ∧ Lo r a b (out.size + 1) c) st2 := fun mg => by
            refine wpS_bind (wpS_setMin fun st3 sg3 => ?_)
            have sg4 := sg2.trans sg3
            obtain ⟨y, hy⟩ := arr_get hj
            refine wpS_bind (wpS_elem hy.1 ?_)
            have fin : ∀ res, OkJ r a b (out.size + 1) res → (match res with | .done c => SG st st3 ∧ (Fn r a b c ∨ Lo r a b (out.size + 1) c) | .yield c => SG st st3 ∧ Lo r a b (out.size + 1) c) := fun res h => by
              cases res with
              | done c => exact ⟨sg4, h⟩
              | yield c => exact ⟨sg4, h⟩
            refine wpS_bind (wpS_gallF K O (sg4.kind.trans hk) (T.Sb y (List.mem_of_getElem? hy.2)) T.Sa T.sa (by omega) (by omega) fun k hk1 h1 h2 => ?_)
            dsimp only
            have yle := srt_drop T.sb O hy.2
            have rest : ∀ z ∈ a.toList.drop (i + k), r z y = false := fun z hz => by
              obtain ⟨m, hm⟩ := List.mem_iff_getElem?.mp hz
              rw [List.getElem?_drop] at hm
              have := (List.getElem?_eq_some_iff.mp hm).1
              rw [Array.length_toList] at this
              exact O.asym (h2 _ (by omega) (by omega) z hm)
            by_cases k0 : k > 0
            · rw [if_pos k0]
              have hM2 := hM.takeA k fun z hz w hw => O.ntr (h1 z hz) (yle w hw)
              have e2 : (o ++ a.extract i (i + k)).toList = o.toList ++ (a.toList.drop i).take k := by rw [Array.toList_append, ex_mid]
              rw [← e2] at hM2
              by_cases e3 : i + k + 1 = a.size
              · rw [if_pos (by simpa using e3)]
                exact wpS_pure (fin (.done _) (Or.inl ⟨_, _, rfl, hM2.last (by rw [show i + k = a.size - 1 by omega]; exact hl)⟩))
              · rw [if_neg (by simpa using e3)]
                by_cases e4 : i + k = a.size
                · rw [if_pos (by simpa using e4)]
                  exact wpS_pure (fin (.done _) (Or.inl ⟨_, _, rfl, hM2.done (.inl e4)⟩))
                · rw [if_neg (by simpa using e4)]
                  exact wpS_loJ1 K O T (sg4.kind.trans hk) hl hM2 (by omega) hj hy rest (by rw [Array.size_append]; omega) fin
            · rw [if_neg k0]
              have : k = 0 := by omega
              subst this
              exact wpS_loJ1 K O T (sg4.kind.trans hk) hl hM hi hj hy rest ho fin
          by_cases hmg : mg > 1
          · rw [if_pos hmg]
            refine wpS_mono (body (mg - 1)) fun res st' h => ?_
            cases res <;> exact h
          · rw [if_neg hmg]
            refine wpS_mono (body mg) fun res st' h => ?_
            cases res <;> exact h
def mergeHi' : Array Keyed → Array Keyed → StateT SortSt Sem (Array Keyed) := sortPriv% PySem.Builtin.mergeHi
theorem mergeHi'_eq (a b : Array Keyed) : mergeHi' a b = (do
  rule "list.sort.merge-hi"
  let total := a.size + b.size
  let done (out : Array Keyed) (na nb : Nat) := a.extract 0 na ++ b.extract 0 nb ++ out.reverse
  let firstOfB (out : Array Keyed) (na nb : Nat) := b.extract 0 nb ++ a.extract 0 na ++ out.reverse
  let mut na := a.size - 1
  let mut nb := b.size
  let mut out : Array Keyed := #[← elem' a na]
  if na == 0 then return done out na nb
  if nb == 1 then return firstOfB out na nb
  let mut minGallop := gallopOf (← get)
  for _ in [0:total] do
    let mut acount := 0
    let mut bcount := 0
    for _ in [0:total] do
      let some aWins ← lt' (← elem' b (nb - 1)) (← elem' a (na - 1)) | return done out na nb
      if aWins then
        na := na - 1; out := out.push (← elem' a na); acount := acount + 1; bcount := 0
        if na == 0 then return done out na nb
        if acount ≥ minGallop then break
      else
        nb := nb - 1; out := out.push (← elem' b nb); bcount := bcount + 1; acount := 0
        if nb == 1 then return firstOfB out na nb
        if bcount ≥ minGallop then break
    rule "list.sort.gallop"
    minGallop := minGallop + 1
    for _ in [0:total] do
      if minGallop > 1 then minGallop := minGallop - 1
      setMinGallop' minGallop
      let some at_ ← gallop' false (← elem' b (nb - 1)) a 0 na (na - 1) | return done out na nb
      let k := na - at_
      acount := k
      if k > 0 then
        out := out ++ (a.extract at_ na).reverse; na := at_
        if na == 0 then return done out na nb
      nb := nb - 1; out := out.push (← elem' b nb)
      if nb == 1 then return firstOfB out na nb
      let some at_ ← gallop' true (← elem' a (na - 1)) b 0 nb (nb - 1) | return done out na nb
      let k := nb - at_
      bcount := k
      if k > 0 then
        out := out ++ (b.extract at_ nb).reverse; nb := at_
        if nb == 1 then return firstOfB out na nb
        if nb == 0 then return done out na nb
      na := na - 1; out := out.push (← elem' a na)
      if na == 0 then return done out na nb
      if acount < 7 && bcount < 7 then break
    minGallop := minGallop + 1
    setMinGallop' minGallop
  unsupported "internal:list.sort.merge-bound") := rfl
structure MH (r : Keyed → Keyed → Bool) (A B R : List Keyed) (i j : Nat) : Prop where
  ha : Srt r (A.take i ++ R)
  hb : Srt r (B.take j ++ R)
  pm : ((A.take i ++ B.take j) ++ R).Perm (A ++ B)
theorem srt_mid' {X Z Y : List Keyed} (h1 : Srt r (Z ++ Y)) (h2 : Srt r (X ++ Y)) (h : ∀ x ∈ X, ∀ z ∈ Z, r z x = false) : Srt r (X ++ (Z ++ Y)) := by
  rw [Srt, List.pairwise_append] at h2 ⊢
  refine ⟨h2.1, h1, fun x hx y hy => ?_⟩
  rcases List.mem_append.mp hy with hy | hy
  · exact h x hx y hy
  · exact h2.2.2 x hx y hy
theorem take_split (A : List Keyed) {i k : Nat} (h : k ≤ i) : A.take i = A.take k ++ (A.take i).drop k := by
  have := (List.take_append_drop k (A.take i)).symm
  rwa [List.take_take, Nat.min_eq_left h] at this
theorem MH.takeA {A B R : List Keyed} {i j : Nat} (h : MH r A B R i j) {k : Nat} (hk : k ≤ i) (le : ∀ y ∈ B.take j, ∀ z ∈ (A.take i).drop k, r z y = false) : MH r A B ((A.take i).drop k ++ R) k j := by
  have ha := h.ha
  rw [take_split A hk, List.append_assoc] at ha
  refine ⟨ha, srt_mid' (List.Pairwise.sublist (List.sublist_append_right _ _) ha) h.hb le, ?_⟩
  refine List.Perm.trans ?_ h.pm
  rw [take_split A hk]
  simp only [List.append_assoc]
  refine List.Perm.append_left _ ?_
  rw [← List.append_assoc, ← List.append_assoc]
  refine List.Perm.append_right _ ?_
  rw [show (List.drop k (List.take k A ++ List.drop k (List.take i A))) = (A.take i).drop k by rw [← take_split A hk]]
  exact List.perm_append_comm
theorem MH.takeB {A B R : List Keyed} {i j : Nat} (h : MH r A B R i j) {k : Nat} (hk : k ≤ j) (le : ∀ x ∈ A.take i, ∀ z ∈ (B.take j).drop k, r z x = false) : MH r A B ((B.take j).drop k ++ R) i k := by
  have hb := h.hb
  rw [take_split B hk, List.append_assoc] at hb
  refine ⟨srt_mid' (List.Pairwise.sublist (List.sublist_append_right _ _) hb) h.ha le, hb, ?_⟩
  refine List.Perm.trans ?_ h.pm
  have e : B.take j ++ R = B.take k ++ ((B.take j).drop k ++ R) := by rw [← List.append_assoc, ← take_split B hk]
  simp only [List.append_assoc]
  rw [e]
theorem ex_take (a : Array Keyed) {i : Nat} (h : i ≤ a.size) : (a.extract 0 i).toList = a.toList.take i := by
  rw [Array.toList_extract, List.extract_eq_drop_take]
  simp
theorem MH.done {a b out : Array Keyed} {i j : Nat} (h : MH r a.toList b.toList out.toList.reverse i j) (hi : i ≤ a.size) (hj : j ≤ b.size) (e : i = 0 ∨ j = 0) : Good r a.toList b.toList (a.extract 0 i ++ b.extract 0 j ++ out.reverse).toList := by
  rw [Array.toList_append, Array.toList_append, ex_take a hi, ex_take b hj, Array.toList_reverse]
  refine ⟨?_, h.pm⟩
  rcases e with e | e
  · rw [e, List.take_zero, List.nil_append]; exact h.hb
  · rw [e, List.take_zero, List.append_nil]; exact h.ha
theorem MH.first {a b out : Array Keyed} {i j : Nat} (h : MH r a.toList b.toList out.toList.reverse i j) (hi : i ≤ a.size) (hj : j ≤ b.size) (hl : ∀ y ∈ b.toList.take j, ∀ x ∈ a.toList, r x y = false) : Good r a.toList b.toList (b.extract 0 j ++ a.extract 0 i ++ out.reverse).toList := by
  rw [Array.toList_append, Array.toList_append, ex_take a hi, ex_take b hj, Array.toList_reverse, List.append_assoc]
  refine ⟨srt_mid' h.ha h.hb fun y hy x hx => hl y hy x (List.mem_of_mem_take hx), ?_⟩
  refine List.Perm.trans ?_ h.pm
  rw [← List.append_assoc]
  exact List.Perm.append_right _ List.perm_append_comm
theorem MH.len {A B R : List Keyed} {i j : Nat} (h : MH r A B R i j) (hi : i ≤ A.length) (hj : j ≤ B.length) : R.length + i + j = A.length + B.length := by
  have := h.pm.length_eq
  simp only [List.length_append, List.length_take] at this
  omega
theorem one_last {l : List Keyed} {i : Nat} {x : Keyed} (hi : 0 < i) (h : l[i - 1]? = some x) : (l.take i).drop (i - 1) = [x] := by
  have hl := (List.getElem?_eq_some_iff.mp h).1
  have e : (l.take i)[i - 1]? = some x := by rw [List.getElem?_take_of_lt (by omega)]; exact h
  have := one_take e
  rw [List.take_of_length_le (by rw [List.length_drop, List.length_take]; omega)] at this
  exact this
theorem MH.pushA {a b out : Array Keyed} {i j : Nat} {x : Keyed} (h : MH r a.toList b.toList out.toList.reverse i j) (hi : 0 < i) (hx : a.toList[i - 1]? = some x) (le : ∀ y ∈ b.toList.take j, r x y = false) : MH r a.toList b.toList (out.push x).toList.reverse (i - 1) j := by
  have := h.takeA (k := i - 1) (by omega) (by rw [one_last hi hx]; intro y hy z hz; rw [List.mem_singleton.mp hz]; exact le y hy)
  rw [one_last hi hx] at this
  rw [Array.toList_push, List.reverse_append]; exact this
theorem MH.pushB {a b out : Array Keyed} {i j : Nat} {x : Keyed} (h : MH r a.toList b.toList out.toList.reverse i j) (hj : 0 < j) (hx : b.toList[j - 1]? = some x) (le : ∀ y ∈ a.toList.take i, r x y = false) : MH r a.toList b.toList (out.push x).toList.reverse i (j - 1) := by
  have := h.takeB (k := j - 1) (by omega) (by rw [one_last hj hx]; intro y hy z hz; rw [List.mem_singleton.mp hz]; exact le y hy)
  rw [one_last hj hx] at this
  rw [Array.toList_push, List.reverse_append]; exact this
theorem ex_rev (out a : Array Keyed) (k i : Nat) (h : i ≤ a.size) : (out ++ (a.extract k i).reverse).toList.reverse = (a.toList.take i).drop k ++ out.toList.reverse := by
  rw [Array.toList_append, List.reverse_append, Array.toList_reverse, List.reverse_reverse, Array.toList_extract, List.extract_eq_drop_take, List.drop_take]
theorem srt_take {l : List Keyed} (hs : Srt r l) (O : SOrd r) {i : Nat} {x : Keyed} (hi : 0 < i) (h : l[i - 1]? = some x) : ∀ y ∈ l.take i, r x y = false := fun y hy => by
  obtain ⟨m, hm⟩ := List.mem_iff_getElem?.mp hy
  have hmi : m < i := by have := (List.getElem?_eq_some_iff.mp hm).1; rw [List.length_take] at this; omega
  rw [List.getElem?_take_of_lt hmi] at hm
  refine srt_drop hs O hm x ?_
  exact List.mem_iff_getElem?.mpr ⟨i - 1 - m, by rw [List.getElem?_drop, show m + (i - 1 - m) = i - 1 by omega]; exact h⟩
abbrev H7 := Option (Array Keyed) × Nat × Nat × Array Keyed × Nat × Nat × Nat
def hiJ2 (a b : Array Keyed) (i mg ac bc : Nat) (out : Array Keyed) (j : Nat) : StateT SortSt Sem (ForInStep H7) := do
  let x ← elem' a (i - 1)
  if (i - 1 == 0) = true then pure (.done (some (a.extract 0 (i - 1) ++ b.extract 0 j ++ (out.push x).reverse), i - 1, j, out.push x, mg, ac, bc))
  else if (decide (ac < 7) && decide (bc < 7)) = true then pure (.done (none, i - 1, j, out.push x, mg, ac, bc)) else pure (.yield (none, i - 1, j, out.push x, mg, ac, bc))
def hiJ1 (a b : Array Keyed) (j mg ac bc : Nat) (out : Array Keyed) (i : Nat) : StateT SortSt Sem (ForInStep H7) := do
  let y ← elem' b (j - 1)
  if (j - 1 == 1) = true then pure (.done (some (b.extract 0 (j - 1) ++ a.extract 0 i ++ (out.push y).reverse), i, j - 1, out.push y, mg, ac, bc))
  else do
    let x ← elem' a (i - 1)
    let g ← gallop' true x b 0 (j - 1) (j - 1 - 1)
    match g with
    | some k =>
      if j - 1 - k > 0 then
        if (k == 1) = true then pure (.done (some (b.extract 0 k ++ a.extract 0 i ++ (out.push y ++ (b.extract k (j - 1)).reverse).reverse), i, k, out.push y ++ (b.extract k (j - 1)).reverse, mg, ac, j - 1 - k))
        else if (k == 0) = true then pure (.done (some (a.extract 0 i ++ b.extract 0 k ++ (out.push y ++ (b.extract k (j - 1)).reverse).reverse), i, k, out.push y ++ (b.extract k (j - 1)).reverse, mg, ac, j - 1 - k))
        else hiJ2 a b i mg ac (j - 1 - k) (out.push y ++ (b.extract k (j - 1)).reverse) k
      else hiJ2 a b i mg ac (j - 1 - k) (out.push y) (j - 1)
    | _ => pure (.done (some (a.extract 0 i ++ b.extract 0 (j - 1) ++ (out.push y).reverse), i, j - 1, out.push y, mg, ac, bc))
def Lh (r : Keyed → Keyed → Bool) (a b : Array Keyed) (o0 : Nat) (c : H7) : Prop := ∃ out i j mg ac bc, c = (none, i, j, out, mg, ac, bc) ∧ MH r a.toList b.toList out.toList.reverse i j ∧ 0 < i ∧ i ≤ a.size ∧ 1 < j ∧ j ≤ b.size ∧ o0 ≤ out.size
def Fh (r : Keyed → Keyed → Bool) (a b : Array Keyed) (c : H7) : Prop := ∃ res rest, c = (some res, rest) ∧ Good r a.toList b.toList res.toList
def OkH (r : Keyed → Keyed → Bool) (a b : Array Keyed) (o0 : Nat) : ForInStep H7 → Prop
  | .done c => Fh r a b c ∨ Lh r a b o0 c
  | .yield c => Lh r a b o0 c
theorem wpS_hiJ2 {a b out : Array Keyed} {i j mg ac bc o0 : Nat} {st : SortSt} {x : Keyed} {Q : ForInStep H7 → SortSt → Prop} (hM : MH r a.toList b.toList out.toList.reverse i j) (hi : 0 < i) (hi' : i ≤ a.size) (hj : 1 < j) (hj' : j ≤ b.size)
    (hx : a[i - 1]? = some x ∧ a.toList[i - 1]? = some x) (le : ∀ y ∈ b.toList.take j, r x y = false) (ho : o0 ≤ out.size) (q : ∀ res, OkH r a b o0 res → Q res st) : wpS M A E s (hiJ2 a b i mg ac bc out j) Q st := by
  unfold hiJ2
  refine wpS_bind (wpS_elem hx.1 ?_)
  have hM' := hM.pushA hi hx.2 le
  by_cases e : i - 1 = 0
  · rw [if_pos (by simpa using e)]
    exact wpS_pure (q _ (.inl ⟨_, _, rfl, hM'.done (by omega) hj' (.inl e)⟩))
  · rw [if_neg (by simpa using e)]
    have lo : ∀ mg ac bc, Lh r a b o0 (none, i - 1, j, out.push x, mg, ac, bc) := fun mg ac bc => ⟨_, _, _, _, _, _, rfl, hM', by omega, by omega, hj, hj', by rw [Array.size_push]; omega⟩
    split
    · exact wpS_pure (q _ (.inr (lo _ _ _)))
    · exact wpS_pure (q _ (lo _ _ _))
theorem wpS_hiJ1 (K : Ask M A E s κ S r) (O : SOrd r) {a b out : Array Keyed} {i j mg ac bc o0 : Nat} {st : SortSt} {y : Keyed} {Q : ForInStep H7 → SortSt → Prop} (T : Two S r a b) (hk : kindOf st = κ) (hf : ∀ y ∈ b.toList.take 1, ∀ x ∈ a.toList, r x y = false) (hM : MH r a.toList b.toList out.toList.reverse i j) (hi : 0 < i) (hi' : i ≤ a.size) (hj : 1 < j) (hj' : j ≤ b.size)
    (hy : b[j - 1]? = some y ∧ b.toList[j - 1]? = some y) (le : ∀ z ∈ a.toList.take i, r y z = false) (ho : o0 ≤ out.size) (q : ∀ res, OkH r a b o0 res → Q res st) : wpS M A E s (hiJ1 a b j mg ac bc out i) Q st := by
  unfold hiJ1
  refine wpS_bind (wpS_elem hy.1 ?_)
  have hM' := hM.pushB (by omega) hy.2 le
  by_cases e : j - 1 = 1
  · rw [if_pos (by simpa using e)]
    exact wpS_pure (q _ (.inl ⟨_, _, rfl, hM'.first hi' (by omega) (by rw [e]; exact hf)⟩))
  rw [if_neg (by simpa using e)]
  obtain ⟨x, hx⟩ := arr_get (a := a) (i := i - 1) (by omega)
  refine wpS_bind (wpS_elem hx.1 ?_)
  refine wpS_bind (wpS_gallT K O hk (T.Sa x (List.mem_of_getElem? hx.2)) T.Sb T.sb (by omega) (by omega) fun k hk1 h1 h2 => ?_)
  dsimp only
  have xge := srt_take T.sa O hi hx.2
  have low : ∀ z ∈ b.toList.take k, r x z = false := fun z hz => O.asym (h1 z (by simpa using hz))
  by_cases k0 : j - 1 - k > 0
  · rw [if_pos k0]
    have hM2 := hM'.takeB (k := k) (by omega) fun w hw z hz => by
      obtain ⟨m, hm⟩ := List.mem_iff_getElem?.mp hz
      rw [List.getElem?_drop] at hm
      have hlt := (List.getElem?_eq_some_iff.mp hm).1
      rw [List.length_take] at hlt
      rw [List.getElem?_take_of_lt (by omega)] at hm
      exact O.ntr (xge w hw) (h2 _ (by omega) (by omega) z hm)
    rw [← ex_rev _ _ _ _ (by omega)] at hM2
    by_cases e3 : k = 1
    · rw [if_pos (by simpa using e3)]
      exact wpS_pure (q _ (.inl ⟨_, _, rfl, hM2.first hi' (by omega) (by rw [e3]; exact hf)⟩))
    · rw [if_neg (by simpa using e3)]
      by_cases e4 : k = 0
      · rw [if_pos (by simpa using e4)]
        exact wpS_pure (q _ (.inl ⟨_, _, rfl, hM2.done hi' (by omega) (.inr e4)⟩))
      · rw [if_neg (by simpa using e4)]
        exact wpS_hiJ2 hM2 hi hi' (by omega) (by omega) hx low (by rw [Array.size_append, Array.size_push]; omega) q
  · rw [if_neg k0]
    have : k = j - 1 := by omega
    rw [this] at low
    exact wpS_hiJ2 hM' hi hi' (by omega) (by omega) hx low (by rw [Array.size_push]; omega) q
theorem wpS_mergeHi (K : Ask M A E s κ S r) (O : SOrd r) {a b : Array Keyed} {st : SortSt} {Q : Array Keyed → SortSt → Prop} (T : Two S r a b) (hk : kindOf st = κ) (na : 0 < a.size) (nb : 0 < b.size) (hf : ∀ y ∈ b.toList.take 1, ∀ x ∈ a.toList, r x y = false)
    (hl : ∀ x ∈ a.toList.drop (a.size - 1), ∀ y ∈ b.toList, r x y = false) (q : ∀ l st', SG st st' → Good r a.toList b.toList l.toList → Q l st') : wpS M A E s (mergeHi' a b) Q st := by
  rw [mergeHi'_eq]
  refine wpS_bind (wpS_lift (wpAny_rule ⟨rfl, ?_⟩))
  obtain ⟨x0, h0⟩ := arr_get (a := a) (i := a.size - 1) (by omega)
  refine wpS_bind (wpS_elem h0.1 ?_)
  dsimp only
  have M0 : MH r a.toList b.toList (#[] : Array Keyed).toList.reverse a.size b.size := by
    have ea : a.toList.take a.size = a.toList := List.take_of_length_le (by simp)
    have eb : b.toList.take b.size = b.toList := List.take_of_length_le (by simp)
    exact ⟨by rw [ea]; simpa using T.sa, by rw [eb]; simpa using T.sb, by rw [ea, eb]; simp⟩
  have x0m : x0 ∈ a.toList.drop (a.size - 1) := List.mem_iff_getElem?.mpr ⟨0, by rw [List.getElem?_drop]; exact h0.2⟩
  have M1 : MH r a.toList b.toList #[x0].toList.reverse (a.size - 1) b.size := M0.pushA na h0.2 fun y hy => hl x0 x0m y (List.mem_of_mem_take hy)
  by_cases e1 : a.size - 1 = 0
  · rw [if_pos (by simpa using e1)]
    exact wpS_pure (q _ _ (SG.refl _) (M1.done (by omega) (by omega) (.inl e1)))
  rw [if_neg (by simpa using e1)]
  by_cases e2 : b.size = 1
  · rw [if_pos (by simpa using e2)]
    exact wpS_pure (q _ _ (SG.refl _) (M1.first (by omega) (by omega) (by rw [e2]; exact hf)))
  rw [if_neg (by simpa using e2)]
  refine wpS_bind (wpS_get ?_)
  refine wpS_bind (wpS_mono (wpS_forRange
    (I := fun x c st' => SG st st' ∧ ∃ out i j mg, c = (none, i, j, out, mg) ∧ MH r a.toList b.toList out.toList.reverse i j ∧ 0 < i ∧ i ≤ a.size ∧ 1 < j ∧ j ≤ b.size ∧ x + 1 ≤ out.size)
    (Q := fun c st' => SG st st' ∧ ∃ res rest, c = (some res, rest) ∧ Good r a.toList b.toList res.toList) ?step ?fin ⟨SG.refl _, _, _, _, _, rfl, M1, by omega, by omega, by omega, by omega, by simp⟩) ?post)
  case fin =>
    rintro c st' ⟨_, out, i, j, mg, rfl, hM, hi, hi', hj, hj', ho⟩
    exfalso
    have := hM.len (by rw [Array.length_toList]; omega) (by rw [Array.length_toList]; omega)
    rw [List.length_reverse, Array.length_toList, Array.length_toList, Array.length_toList] at this
    omega
  case post =>
    rintro c st' ⟨sg, res, rest, rfl, g⟩
    exact wpS_pure (q _ _ sg g)
  case step =>
    rintro x c st1 _ hx ⟨sg, out, i, j, mg, rfl, hM, hi, hi', hj, hj', ho⟩
    dsimp only
    have hk1 : kindOf st1 = κ := sg.kind.trans hk
    refine wpS_bind (wpS_mono (wpS_forRange
      (I := fun x' c st' => st' = st1 ∧ ∃ o i j ac bc, c = (none, i, j, o, ac, bc) ∧ MH r a.toList b.toList o.toList.reverse i j ∧ 0 < i ∧ i ≤ a.size ∧ 1 < j ∧ j ≤ b.size ∧ out.size + x' ≤ o.size)
      (Q := fun c st' => st' = st1 ∧ ((∃ res rest, c = (some res, rest) ∧ Good r a.toList b.toList res.toList) ∨ ∃ o i j ac bc, c = (none, i, j, o, ac, bc) ∧ MH r a.toList b.toList o.toList.reverse i j ∧ 0 < i ∧ i ≤ a.size ∧ 1 < j ∧ j ≤ b.size ∧ out.size + 1 ≤ o.size)) ?s1 ?f1 ⟨rfl, out, i, j, 0, 0, rfl, hM, hi, hi', hj, hj', by omega⟩) ?p1)
    case f1 =>
      rintro c st' ⟨rfl, o, i, j, ac, bc, rfl, hM, hi, hi', hj, hj', ho⟩
      exact ⟨rfl, .inr ⟨o, i, j, ac, bc, rfl, hM, hi, hi', hj, hj', by omega⟩⟩
    case s1 =>
      rintro x' c st' _ hx' ⟨rfl, o, i, j, ac, bc, rfl, hM, hi, hi', hj, hj', ho⟩
      dsimp only
      obtain ⟨y, hy⟩ := arr_get (a := b) (i := j - 1) (by omega)
      obtain ⟨z, hz⟩ := arr_get (a := a) (i := i - 1) (by omega)
      refine wpS_bind (wpS_elem hy.1 (wpS_bind (wpS_elem hz.1 (wpS_bind (K hk1 (T.Sb y (List.mem_of_getElem? hy.2)) (T.Sa z (List.mem_of_getElem? hz.2)) ?_)))))
      have zge := srt_take T.sa O hi hz.2
      have yge := srt_take T.sb O (by omega) hy.2
      dsimp only
      cases hw : r y z with
      | true =>
        rw [if_pos rfl]
        refine wpS_bind (wpS_elem hz.1 ?_)
        have hM' := hM.pushA hi hz.2 fun w hw' => O.ntr (yge w hw') (O.asym hw)
        by_cases e : i - 1 = 0
        · rw [if_pos (by simpa using e)]
          exact wpS_pure ⟨rfl, .inl ⟨_, _, rfl, hM'.done (by omega) hj' (.inl e)⟩⟩
        · rw [if_neg (by simpa using e)]
          split
          · exact wpS_pure ⟨rfl, .inr ⟨_, _, _, _, _, rfl, hM', by omega, by omega, hj, hj', by rw [Array.size_push]; omega⟩⟩
          · exact wpS_pure ⟨rfl, _, _, _, _, _, rfl, hM', by omega, by omega, hj, hj', by rw [Array.size_push]; omega⟩
      | false =>
        rw [if_neg (by simp)]
        refine wpS_bind (wpS_elem hy.1 ?_)
        have hM' := hM.pushB (by omega) hy.2 fun w hw' => O.ntr (zge w hw') hw
        by_cases e : j - 1 = 1
        · rw [if_pos (by simpa using e)]
          exact wpS_pure ⟨rfl, .inl ⟨_, _, rfl, hM'.first hi' (by omega) (by rw [e]; exact hf)⟩⟩
        · rw [if_neg (by simpa using e)]
          split
          · exact wpS_pure ⟨rfl, .inr ⟨_, _, _, _, _, rfl, hM', hi, hi', by omega, by omega, by rw [Array.size_push]; omega⟩⟩
          · exact wpS_pure ⟨rfl, _, _, _, _, _, rfl, hM', hi, hi', by omega, by omega, by rw [Array.size_push]; omega⟩
    case p1 =>
      rintro c st' ⟨rfl, ⟨res, rest, rfl, g⟩ | ⟨o, i, j, ac, bc, rfl, hM, hi, hi', hj, hj', ho⟩⟩
      · exact wpS_pure ⟨sg, _, _, rfl, g⟩
      · dsimp only
        refine wpS_bind (wpS_lift (wpAny_rule ⟨rfl, ?_⟩))
        refine wpS_bind (wpS_mono (wpS_forRange
          (I := fun x' c st'' => SG st st'' ∧ Lh r a b (out.size + 1) c)
          (Q := fun c st'' => SG st st'' ∧ (Fh r a b c ∨ Lh r a b (out.size + 1) c)) ?s2 ?f2 ⟨sg, _, _, _, _, _, _, rfl, hM, hi, hi', hj, hj', by omega⟩) ?p2)
        case f2 =>
          rintro c st'' ⟨h1, h2⟩
          exact ⟨h1, .inr h2⟩
        case p2 =>
          rintro c st'' ⟨sg2, ⟨res, rest, rfl, g⟩ | ⟨o, i, j, mg, ac, bc, rfl, hM, hi, hi', hj, hj', ho⟩⟩
          · exact wpS_pure ⟨sg2, _, _, rfl, g⟩
          · exact wpS_bind (wpS_setMin fun st3 sg3 => wpS_pure ⟨sg2.trans sg3, _, _, _, _, rfl, hM, hi, hi', hj, hj', by show x + 1 + 1 ≤ o.size; omega⟩)
        case s2 =>
          rintro x' c st2 _ hx' ⟨sg2, o, i, j, mg, ac, bc, rfl, hM, hi, hi', hj, hj', ho⟩
          dsimp only
          have body : ∀ mg : Nat, wpS M A E s (do
              setMinGallop' mg
              let y ← elem' b (j - 1)
              let g ← gallop' false y a 0 i (i - 1)
              match g with
              | some k =>
                if i - k > 0 then
                  if (k == 0) = true then pure (ForInStep.done ((some (a.extract 0 k ++ b.extract 0 j ++ (o ++ (a.extract k i).reverse).reverse), k, j, o ++ (a.extract k i).reverse, mg, i - k, bc) : H7))
                  else hiJ1 a b j mg (i - k) bc (o ++ (a.extract k i).reverse) k
                else hiJ1 a b j mg (i - k) bc o i
              | _ => pure (ForInStep.done ((some (a.extract 0 i ++ b.extract 0 j ++ o.reverse), i, j, o, mg, ac, bc) : H7)))
              (fun res st' => match res with | .done c => SG st st' ∧ (Fh r a b c ∨ Lh r a b (out.size + 1) c) | .yield c => SG st st' ∧ Lh r a b (out.size + 1) c) st2 := fun mg => by
            refine wpS_bind (wpS_setMin fun st3 sg3 => ?_)
            have sg4 := sg2.trans sg3
            obtain ⟨y, hy⟩ := arr_get (a := b) (i := j - 1) (by omega)
            refine wpS_bind (wpS_elem hy.1 ?_)
            have fin : ∀ res, OkH r a b (out.size + 1) res → (match res with | .done c => SG st st3 ∧ (Fh r a b c ∨ Lh r a b (out.size + 1) c) | .yield c => SG st st3 ∧ Lh r a b (out.size + 1) c) := fun res h => by
              cases res with
              | done c => exact ⟨sg4, h⟩
              | yield c => exact ⟨sg4, h⟩
            refine wpS_bind (wpS_gallF K O (sg4.kind.trans hk) (T.Sb y (List.mem_of_getElem? hy.2)) T.Sa T.sa (by omega) (by omega) fun k hk1 h1 h2 => ?_)
            dsimp only
            have yge := srt_take T.sb O (by omega) hy.2
            have low : ∀ z ∈ a.toList.take k, r y z = false := fun z hz => h1 z (by simpa using hz)
            by_cases k0 : i - k > 0
            · rw [if_pos k0]
              have hM2 := hM.takeA (k := k) (by omega) fun w hw z hz => by
                obtain ⟨m, hm⟩ := List.mem_iff_getElem?.mp hz
                rw [List.getElem?_drop] at hm
                have hlt := (List.getElem?_eq_some_iff.mp hm).1
                rw [List.length_take] at hlt
                rw [List.getElem?_take_of_lt (by omega)] at hm
                exact O.ntr (yge w hw) (O.asym (h2 _ (by omega) (by omega) z hm))
              rw [← ex_rev _ _ _ _ (by omega)] at hM2
              by_cases e3 : k = 0
              · rw [if_pos (by simpa using e3)]
                exact wpS_pure (fin (.done _) (Or.inl ⟨_, _, rfl, hM2.done (by omega) hj' (.inl e3)⟩))
              · rw [if_neg (by simpa using e3)]
                exact wpS_hiJ1 K O T (sg4.kind.trans hk) hf hM2 (by omega) (by omega) hj hj' hy low (by rw [Array.size_append]; omega) fin
            · rw [if_neg k0]
              have : k = i := by omega
              rw [this] at low
              exact wpS_hiJ1 K O T (sg4.kind.trans hk) hf hM hi hi' hj hj' hy low ho fin
          by_cases hmg : mg > 1
          · rw [if_pos hmg]
            refine wpS_mono (body (mg - 1)) fun res st' h => ?_
            cases res <;> exact h
          · rw [if_neg hmg]
            refine wpS_mono (body mg) fun res st' h => ?_
            cases res <;> exact h
end
end TS
namespace TS
open PySem PyProof.Rows
def Sl (r : Keyed → Keyed → Bool) (a : Array Keyed) (lo n : Nat) : Prop := ∀ m m' x x', lo ≤ m → m ≤ m' → m' < lo + n → a[m]? = some x → a[m']? = some x' → r x' x = false
def Dn (r : Keyed → Keyed → Bool) (a : Array Keyed) (lo n : Nat) : Prop := ∀ m m' x x', lo ≤ m → m ≤ m' → m' < lo + n → a[m]? = some x → a[m']? = some x' → r x x' = false
structure Kp (lo hi : Nat) (a a' : Array Keyed) : Prop where
  pm : a'.Perm a
  out : ∀ k, k < lo ∨ hi ≤ k → a'[k]? = a[k]?
theorem Kp.refl {lo hi : Nat} (a : Array Keyed) : Kp lo hi a a := ⟨Array.Perm.refl _, fun _ _ => rfl⟩
theorem Kp.trans {lo hi : Nat} {a b c : Array Keyed} (h : Kp lo hi a b) (g : Kp lo hi b c) : Kp lo hi a c := ⟨g.pm.trans h.pm, fun k hk => (g.out k hk).trans (h.out k hk)⟩
theorem Kp.size {lo hi : Nat} {a b : Array Keyed} (h : Kp lo hi a b) : b.size = a.size := h.pm.size_eq
theorem Kp.wide {lo hi lo' hi' : Nat} {a b : Array Keyed} (h : Kp lo hi a b) (h1 : lo' ≤ lo) (h2 : hi ≤ hi') : Kp lo' hi' a b := ⟨h.pm, fun k hk => h.out k (by omega)⟩
structure SA (lo hi : Nat) (st st' : SortSt) : Prop where
  kind : kindOf st' = kindOf st
  pend : pendingOf st' = pendingOf st
  fail : failedOf st' = failedOf st
  arr : Kp lo hi (arrOf st) (arrOf st')
theorem SA.refl {lo hi : Nat} (st : SortSt) : SA lo hi st st := ⟨rfl, rfl, rfl, Kp.refl _⟩
theorem SA.trans {lo hi : Nat} {a b c : SortSt} (h : SA lo hi a b) (g : SA lo hi b c) : SA lo hi a c := ⟨g.kind.trans h.kind, g.pend.trans h.pend, g.fail.trans h.fail, h.arr.trans g.arr⟩
section
variable {M : Model} {A : Around} {E : Value → Shared → Prop} {s : Shared} {κ : SortKind} {S : Keyed → Prop} {r : Keyed → Keyed → Bool}
theorem rr (O : SOrd r) (x : Keyed) : r x x = false := by
  cases q : r x x with
  | false => rfl
  | true => rw [O.asym q] at q; cases q
def In (S : Keyed → Prop) (a : Array Keyed) : Prop := ∀ (k : Nat) (x : Keyed), a[k]? = some x → S x
theorem In.kp {a b : Array Keyed} {lo hi : Nat} (h : In S a) (k : Kp lo hi a b) : In S b := fun i x hx => by
  have hi := (Array.getElem?_eq_some_iff.mp hx).1
  have hm : x ∈ b := Array.mem_of_getElem? hx
  have := (k.pm.mem_iff).mp hm
  obtain ⟨j, hj⟩ := Array.getElem?_of_mem this
  exact h j x hj
theorem wpS_ltA (K : Ask M A E s κ S r) {st : SortSt} {i j : Nat} {x y : Keyed} {Q : Option Bool → SortSt → Prop} (hk : kindOf st = κ) (hS : In S (arrOf st)) (hx : (arrOf st)[i]? = some x) (hy : (arrOf st)[j]? = some y) (q : Q (some (r x y)) st) : wpS M A E s (ltAt' i j) Q st := by
  rw [ltAt'_eq]
  refine wpS_bind (wpS_get (wpS_bind (wpS_elem hx (wpS_bind (wpS_elem hy ?_)))))
  exact K hk (hS i x hx) (hS j y hy) q
theorem get_lt {a : Array Keyed} {i : Nat} (h : i < a.size) : ∃ x, a[i]? = some x := ⟨a[i], getElem?_pos a i h⟩
theorem wpS_rev {st : SortSt} {i j : Nat} {Q : Unit → SortSt → Prop} (hj : j ≤ (arrOf st).size) (q : ∀ st', SA i j st st' → (∀ k, (arrOf st')[k]? = if i ≤ k ∧ k < j then (arrOf st)[i + j - 1 - k]? else (arrOf st)[k]?) → Q () st') : wpS M A E s (reverseSlice' i j) Q st := by
  rw [reverseSlice'_eq]
  refine wpS_modify (q _ ⟨rfl, rfl, rfl, mirror_perm _ _ _ _, fun k hk => ?_⟩ fun k => getElem?_mirror_all hj k)
  show (mirror (arrOf st) i j ((j - i) / 2))[k]? = _
  rw [getElem?_mirror_all hj, if_neg (by omega)]
def ascL (lo a nrem : Nat) : StateT SortSt Sem AscSt :=
  forIn [a:nrem] ((none, a) : AscSt) fun _ __s => do
    let __x ← ltAt' (lo + __s.snd) (lo + __s.snd - 1)
    match __x with
    | some smaller => if smaller = true then pure (ForInStep.done (none, __s.snd)) else pure (ForInStep.yield (none, __s.snd + 1))
    | _ => pure (ForInStep.done (some none, __s.snd))
theorem wpS_ascL (K : Ask M A E s κ S r) (O : SOrd r) {st : SortSt} {lo a nrem : Nat} {Q : AscSt → SortSt → Prop} (hk : kindOf st = κ) (hS : In S (arrOf st)) (hn : lo + nrem ≤ (arrOf st).size) (ha : 1 ≤ a) (han : a ≤ nrem) (hs : Sl r (arrOf st) lo a)
    (q : ∀ n, a ≤ n → n ≤ nrem → Sl r (arrOf st) lo n → (n < nrem → ∀ x y, (arrOf st)[lo + n]? = some x → (arrOf st)[lo + n - 1]? = some y → r x y = true) → Q (none, n) st) : wpS M A E s (ascL lo a nrem) Q st := by
  unfold ascL
  refine wpS_forRange (I := fun x c st' => st' = st ∧ c = (none, x) ∧ Sl r (arrOf st) lo x) ?_ ?_ ⟨rfl, rfl, hs⟩
  · rintro n c st' h1 h2 ⟨rfl, rfl, hs'⟩
    dsimp only
    obtain ⟨x, hx⟩ := get_lt (a := arrOf st') (i := lo + n) (by omega)
    obtain ⟨y, hy⟩ := get_lt (a := arrOf st') (i := lo + n - 1) (by omega)
    refine wpS_bind (wpS_ltA K hk hS hx hy ?_)
    dsimp only
    cases hw : r x y with
    | true =>
      rw [if_pos rfl]
      exact wpS_pure (q n h1 (by omega) hs' fun _ x' y' e1 e2 => by rw [hx] at e1; rw [hy] at e2; cases e1; cases e2; exact hw)
    | false =>
      rw [if_neg (by simp)]
      refine wpS_pure ⟨rfl, rfl, fun m m' z z' b1 b2 b3 e1 e2 => ?_⟩
      by_cases hm : m' < lo + n
      · exact hs' m m' z z' b1 b2 hm e1 e2
      · have hm' : m' = lo + n := by omega
        subst hm'
        rw [hx] at e2; cases e2
        by_cases hmm : m = lo + n
        · subst hmm; rw [hx] at e1; cases e1; exact rr O _
        · exact O.ntr (hs' m (lo + n - 1) z y b1 (by omega) (by omega) e1 hy) hw
  · rintro c st' ⟨rfl, rfl, hs'⟩
    rw [show max a nrem = nrem by omega] at hs' ⊢
    exact q nrem han (Nat.le_refl _) hs' fun h => (Nat.lt_irrefl _ h).elim
theorem wpS_tail3g (K : Ask M A E s κ S r) (O : SOrd r) {st : SortSt} {lo n nrem : Nat} {Q : Option Nat → SortSt → Prop} {k : AscSt → StateT SortSt Sem (Option Nat)} (hkk : ∀ n, k (none, n) = pure (some n)) (hk : kindOf st = κ) (hS : In S (arrOf st)) (hn : lo + nrem ≤ (arrOf st).size) (h1 : 1 ≤ n) (h2 : n ≤ nrem) (hs : Dn r (arrOf st) lo n)
    (q : ∀ m st', SA lo (lo + nrem) st st' → 1 ≤ m → m ≤ nrem → Sl r (arrOf st') lo m → Q (some m) st') : wpS M A E s (reverseSlice' lo (lo + n) >>= fun _ => ascL lo n nrem >>= fun c => k c) Q st := by
  refine wpS_bind (wpS_rev (by omega) fun st1 sa ge => ?_)
  have sz := sa.arr.size
  refine wpS_bind (wpS_ascL K O (sa.kind.trans hk) (hS.kp sa.arr) (by omega) h1 h2 (fun m m' x x' b1 b2 b3 e1 e2 => ?_) fun m c1 c2 c3 _ => ?_)
  · rw [ge, if_pos (by omega)] at e1 e2
    exact hs _ _ x' x (by omega) (by omega) (by omega) e2 e1
  · rw [hkk]
    exact wpS_pure (q m st1 ⟨sa.kind, sa.pend, sa.fail, sa.arr.wide (Nat.le_refl _) (by omega)⟩ (by omega) c2 c3)
def descL (lo n nrem : Nat) : StateT SortSt Sem DescSt :=
  forIn [n:nrem] ((none, n, 0) : DescSt) fun _ __s => do
    let __x ← ltAt' (lo + __s.snd.fst) (lo + __s.snd.fst - 1)
    match __x with
    | some smaller =>
      if smaller = true then
        if __s.snd.snd > 0 then do
          reverseSlice' (lo + __s.snd.fst - (__s.snd.snd + 1)) (lo + __s.snd.fst)
          pure (ForInStep.yield (none, __s.snd.fst + 1, 0))
        else pure (ForInStep.yield (none, __s.snd.fst + 1, 0))
      else do
        let __x ← ltAt' (lo + __s.snd.fst - 1) (lo + __s.snd.fst)
        match __x with
        | some larger =>
          if larger = true then pure (ForInStep.done (none, __s.snd.fst, __s.snd.snd))
          else pure (ForInStep.yield (none, __s.snd.fst + 1, __s.snd.snd + 1))
        | _ => pure (ForInStep.done (some none, __s.snd.fst, __s.snd.snd))
    | _ => pure (ForInStep.done (some none, __s.snd.fst, __s.snd.snd))
theorem dn_rev {a a' : Array Keyed} {lo n i : Nat} (hs : Dn r a lo n) (hi : lo ≤ i) (hin : i < lo + n) (eqv : ∀ m m' x x', i ≤ m → m < lo + n → i ≤ m' → m' < lo + n → a[m]? = some x → a[m']? = some x' → r x x' = false)
    (ge : ∀ k, a'[k]? = if i ≤ k ∧ k < lo + n then a[i + (lo + n) - 1 - k]? else a[k]?) : Dn r a' lo n := fun m m' x x' b1 b2 b3 e1 e2 => by
  rw [ge] at e1 e2
  by_cases c1 : i ≤ m ∧ m < lo + n
  · rw [if_pos c1] at e1
    rw [if_pos (by omega)] at e2
    exact eqv _ _ x x' (by omega) (by omega) (by omega) (by omega) e1 e2
  · rw [if_neg c1] at e1
    by_cases c2 : i ≤ m' ∧ m' < lo + n
    · rw [if_pos c2] at e2
      exact hs m _ x x' b1 (by omega) (by omega) e1 e2
    · rw [if_neg c2] at e2
      exact hs m m' x x' b1 b2 b3 e1 e2
def Like (r : Keyed → Keyed → Bool) (a : Array Keyed) (i e : Nat) : Prop := ∀ m m' x x', i ≤ m → m < e → i ≤ m' → m' < e → a[m]? = some x → a[m']? = some x' → r x x' = false
theorem wpS_descL (K : Ask M A E s κ S r) (O : SOrd r) {st : SortSt} {lo n nrem : Nat} {Q : DescSt → SortSt → Prop} (hk : kindOf st = κ) (hS : In S (arrOf st)) (hn : lo + nrem ≤ (arrOf st).size) (h1 : 1 ≤ n) (h2 : n ≤ nrem) (hs : Dn r (arrOf st) lo n)
    (q : ∀ m neq st', SA lo (lo + nrem) st st' → n ≤ m → m ≤ nrem → neq + 1 ≤ m → Dn r (arrOf st') lo m → Like r (arrOf st') (lo + m - (neq + 1)) (lo + m) → Q (none, m, neq) st') : wpS M A E s (descL lo n nrem) Q st := by
  unfold descL
  refine wpS_forRange (I := fun x c st' => ∃ neq, c = (none, x, neq) ∧ SA lo (lo + nrem) st st' ∧ neq + 1 ≤ x ∧ Dn r (arrOf st') lo x ∧ Like r (arrOf st') (lo + x - (neq + 1)) (lo + x)) ?_ ?_
    ⟨0, rfl, SA.refl _, by omega, hs, fun m m' x x' c1 c2 c3 c4 e1 e2 => ?_⟩
  · rintro x c st1 a1 a2 ⟨neq, rfl, sa, a3, hd, hlk⟩
    dsimp only
    have hk1 := sa.kind.trans hk
    have hS1 := hS.kp sa.arr
    have sz := sa.arr.size
    obtain ⟨y, hy⟩ := get_lt (a := arrOf st1) (i := lo + x) (by omega)
    obtain ⟨z, hz⟩ := get_lt (a := arrOf st1) (i := lo + x - 1) (by omega)
    refine wpS_bind (wpS_ltA K hk1 hS1 hy hz ?_)
    dsimp only
    have more : ∀ {b : Array Keyed}, Dn r b lo x → (∀ w, b[lo + x - 1]? = some w → r w y = false) → b[lo + x]? = some y → (∃ w, b[lo + x - 1]? = some w) → Dn r b lo (x + 1) := fun hd hl hy' ⟨w, hw⟩ m m' u u' b1 b2 b3 e1 e2 => by
      by_cases hm : m' < lo + x
      · exact hd m m' u u' b1 b2 hm e1 e2
      · have hm' : m' = lo + x := by omega
        subst hm'
        rw [hy'] at e2; cases e2
        by_cases hmm : m = lo + x
        · subst hmm; rw [hy'] at e1; cases e1; exact rr O _
        · exact O.ntr (hl w hw) (hd m (lo + x - 1) u w b1 (by omega) (by omega) e1 hw)
    cases hw : r y z with
    | true =>
      rw [if_pos rfl]
      have single : ∀ b : Array Keyed, Like r b (lo + (x + 1) - (0 + 1)) (lo + (x + 1)) := fun b m m' u u' c1 c2 c3 c4 e1 e2 => by
        have : m = m' := by omega
        subst this
        rw [e1] at e2; cases e2; exact rr O _
      by_cases hq : neq > 0
      · rw [if_pos hq]
        refine wpS_bind (wpS_rev (by omega) fun st2 sa2 ge => ?_)
        have hd2 : Dn r (arrOf st2) lo x := dn_rev (i := lo + x - (neq + 1)) hd (by omega) (by omega) (fun m m' u u' c1 c2 c3 c4 e1 e2 => hlk m m' u u' c1 c2 c3 c4 e1 e2) ge
        refine wpS_pure ⟨0, rfl, sa.trans ⟨sa2.kind, sa2.pend, sa2.fail, sa2.arr.wide (by omega) (by omega)⟩, by omega, more hd2 (fun w ew => ?_) ?_ (get_lt (by have := sa2.arr.size; omega)), single _⟩
        · rw [ge, if_pos (by omega)] at ew
          have l1 := hlk (lo + x - 1) _ z w (by omega) (by omega) (by omega) (by omega) hz ew
          have l2 := hlk _ (lo + x - 1) w z (by omega) (by omega) (by omega) (by omega) ew hz
          exact O.ntr (O.asym hw) l2
        · rw [ge, if_neg (by omega)]; exact hy
      · rw [if_neg hq]
        exact wpS_pure ⟨0, rfl, sa, by omega, more hd (fun w ew => by rw [hz] at ew; cases ew; exact O.asym hw) hy ⟨z, hz⟩, single _⟩
    | false =>
      rw [if_neg (by simp)]
      refine wpS_bind (wpS_ltA K hk1 hS1 hz hy ?_)
      dsimp only
      cases hv : r z y with
      | true =>
        rw [if_pos rfl]
        exact wpS_pure (q x neq st1 sa a1 (by omega) a3 hd hlk)
      | false =>
        rw [if_neg (by simp)]
        refine wpS_pure ⟨neq + 1, rfl, sa, by omega, more hd (fun w ew => by rw [hz] at ew; cases ew; exact hv) hy ⟨z, hz⟩, fun m m' u u' c1 c2 c3 c4 e1 e2 => ?_⟩
        have toZ : ∀ k w, lo + x - (neq + 1) ≤ k → k < lo + x → (arrOf st1)[k]? = some w → r w z = false ∧ r z w = false := fun k w d1 d2 e => ⟨hlk k (lo + x - 1) w z d1 d2 (by omega) (by omega) e hz, hlk (lo + x - 1) k z w (by omega) (by omega) d1 d2 hz e⟩
        by_cases g1 : m = lo + x
        · subst g1
          rw [hy] at e1; cases e1
          by_cases g2 : m' = lo + x
          · subst g2; rw [hy] at e2; cases e2; exact rr O _
          · exact O.ntr (toZ m' u' (by omega) (by omega) e2).2 hw
        · by_cases g2 : m' = lo + x
          · subst g2
            rw [hy] at e2; cases e2
            exact O.ntr hv (toZ m u (by omega) (by omega) e1).1
          · exact hlk m m' u u' (by omega) (by omega) (by omega) (by omega) e1 e2
  · rintro c st1 ⟨neq, rfl, sa, a3, hd, hlk⟩
    rw [show max n nrem = nrem by omega] at *
    exact q nrem neq st1 sa h2 (Nat.le_refl _) a3 hd hlk
  · have : m = m' := by omega
    subst this
    rw [e1] at e2; cases e2; exact rr O _
theorem wpS_descPg (K : Ask M A E s κ S r) (O : SOrd r) {st : SortSt} {lo n nrem : Nat} {Q : Option Nat → SortSt → Prop} {k2 : DescSt → StateT SortSt Sem (Option Nat)} {T : Nat → StateT SortSt Sem (Option Nat)} (h : ∀ m neq, k2 (none, m, neq) = if neq > 0 then (reverseSlice' (lo + m - (neq + 1)) (lo + m) >>= fun _ => T m) else T m)
    (hk : kindOf st = κ) (hS : In S (arrOf st)) (hn : lo + nrem ≤ (arrOf st).size) (h1 : 1 ≤ n) (h2 : n < nrem) (hs : Dn r (arrOf st) lo (n + 1))
    (hT : ∀ m st', SA lo (lo + nrem) st st' → n + 1 ≤ m → m ≤ nrem → Dn r (arrOf st') lo m → wpS M A E s (T m) Q st') : wpS M A E s ((liftM (rule "list.sort.descending-run") : StateT SortSt Sem Unit) >>= fun _ => descL lo (n + 1) nrem >>= fun c => k2 c) Q st := by
  refine wpS_bind (wpS_lift (wpAny_rule ⟨rfl, ?_⟩))
  refine wpS_bind (wpS_descL K O hk hS hn (by omega) h2 hs fun m neq st1 sa a1 a2 a3 hd hlk => ?_)
  rw [h]
  have sz := sa.arr.size
  by_cases hq : neq > 0
  · rw [if_pos hq]
    refine wpS_bind (wpS_rev (by omega) fun st2 sa2 ge => ?_)
    exact hT m st2 (sa.trans ⟨sa2.kind, sa2.pend, sa2.fail, sa2.arr.wide (by omega) (by omega)⟩) a1 a2 (dn_rev hd (by omega) (by omega) (fun m m' u u' c1 c2 c3 c4 e1 e2 => hlk m m' u u' c1 c2 c3 c4 e1 e2) ge)
  · rw [if_neg hq]
    exact hT m st1 sa a1 a2 hd
theorem wpS_countRun (K : Ask M A E s κ S r) (O : SOrd r) {st : SortSt} {lo nrem : Nat} {Q : Option Nat → SortSt → Prop} (hk : kindOf st = κ) (hS : In S (arrOf st)) (hn : lo + nrem ≤ (arrOf st).size) (h1 : 1 ≤ nrem)
    (q : ∀ m st', SA lo (lo + nrem) st st' → 1 ≤ m → m ≤ nrem → Sl r (arrOf st') lo m → Q (some m) st') : wpS M A E s (countRun' lo nrem) Q st := by
  rw [countRun'_eq]
  have one : Sl r (arrOf st) lo 1 := fun m m' x x' b1 b2 b3 e1 e2 => by
    have : m = m' := by omega
    subst this
    rw [e1] at e2; cases e2; exact rr O _
  refine wpS_bind (wpS_ascL (a := 1) K O hk hS hn (Nat.le_refl _) h1 one fun n a1 a2 hs fall => ?_)
  dsimp only
  by_cases e : n = nrem
  · rw [if_pos (by simpa using e)]
    exact wpS_pure (q n st (SA.refl _) a1 a2 hs)
  rw [if_neg (by simpa using e)]
  have hlt : n < nrem := by omega
  obtain ⟨y, hy⟩ := get_lt (a := arrOf st) (i := lo + n) (by omega)
  obtain ⟨z, hz⟩ := get_lt (a := arrOf st) (i := lo + n - 1) (by omega)
  have hyz := fall hlt y z hy hz
  have part : ∀ st1 (k : AscSt → StateT SortSt Sem (Option Nat)), (∀ n, k (none, n) = pure (some n)) → SA lo (lo + nrem) st st1 → ∀ m st2, SA lo (lo + nrem) st1 st2 → n + 1 ≤ m → m ≤ nrem → Dn r (arrOf st2) lo m → wpS M A E s (reverseSlice' lo (lo + m) >>= fun _ => ascL lo m nrem >>= fun c => k c) Q st2 := fun st1 k hkk sa m st2 sa2 c1 c2 hd => by
    have sa' := sa.trans sa2
    have sz := sa'.arr.size
    exact wpS_tail3g K O hkk (sa'.kind.trans hk) (hS.kp sa'.arr) (by omega) (by omega) c2 hd fun k st3 sa3 b1 b2 b3 => q k st3 (sa'.trans sa3) b1 b2 b3
  by_cases hn1 : n > 1
  · rw [if_pos hn1]
    obtain ⟨x, hx⟩ := get_lt (a := arrOf st) (i := lo) (by omega)
    refine wpS_bind (wpS_ltA K hk hS hx hz ?_)
    dsimp only
    cases hw : r x z with
    | true =>
      rw [if_pos rfl]
      exact wpS_pure (q n st (SA.refl _) a1 a2 hs)
    | false =>
      rw [if_neg (by simp)]
      refine wpS_bind (wpS_rev (by omega) fun st1 sa ge => ?_)
      have like : ∀ m m' u u', lo ≤ m → m < lo + n → lo ≤ m' → m' < lo + n → (arrOf st)[m]? = some u → (arrOf st)[m']? = some u' → r u u' = false := fun m m' u u' c1 c2 c3 c4 e1 e2 => by
        have g1 := hs m' (lo + n - 1) u' z c3 (by omega) (by omega) e2 hz
        have g2 := hs lo m x u (Nat.le_refl _) c1 (by omega) hx e1
        exact O.ntr (O.ntr g1 hw) g2
      have sa' : SA lo (lo + nrem) st st1 := ⟨sa.kind, sa.pend, sa.fail, sa.arr.wide (Nat.le_refl _) (by omega)⟩
      have sz1 := sa'.arr.size
      refine wpS_descPg (k2 := _) (T := fun m => _) K O (fun m neq => rfl) (sa'.kind.trans hk) (hS.kp sa'.arr) (by omega) a1 hlt (fun m m' u u' b1 b2 b3 e1 e2 => ?_) (part st1 _ (fun _ => rfl) sa')
      rw [ge] at e1 e2
      by_cases c2 : lo ≤ m' ∧ m' < lo + n
      · rw [if_pos c2] at e2
        rw [if_pos (by omega)] at e1
        exact like _ _ u u' (by omega) (by omega) (by omega) (by omega) e1 e2
      · have hm' : m' = lo + n := by omega
        subst hm'
        rw [if_neg c2, hy] at e2
        cases e2
        by_cases c1 : lo ≤ m ∧ m < lo + n
        · rw [if_pos c1] at e1
          have g := like (lo + n - 1) _ z u (by omega) (by omega) (by omega) (by omega) hz e1
          have g' := like _ (lo + n - 1) u z (by omega) (by omega) (by omega) (by omega) e1 hz
          exact O.ntr (O.asym hyz) g'
        · have : m = lo + n := by omega
          subst this
          rw [if_neg c1, hy] at e1
          cases e1
          exact rr O _
  · rw [if_neg hn1]
    have n1 : n = 1 := by omega
    refine wpS_descPg (k2 := _) (T := fun m => _) K O (fun m neq => rfl) hk hS (by omega) a1 hlt (fun m m' u u' b1 b2 b3 e1 e2 => ?_) (part st _ (fun _ => rfl) (SA.refl _))
    by_cases c1 : m = m'
    · subst c1; rw [e1] at e2; cases e2; exact rr O _
    · have c2 : m = lo + n - 1 := by omega
      have c3 : m' = lo + n := by omega
      rw [c2, hz] at e1
      rw [c3, hy] at e2
      cases e1; cases e2
      exact O.asym hyz
theorem wpS_binSort (K : Ask M A E s κ S r) (O : SOrd r) {st : SortSt} {lo n ok : Nat} {Q : Bool → SortSt → Prop} (hk : kindOf st = κ) (hS : In S (arrOf st)) (hn : lo + n ≤ (arrOf st).size) (h1 : 1 ≤ ok) (h2 : ok ≤ n) (hs : Sl r (arrOf st) lo ok)
    (q : ∀ st', SA lo (lo + n) st st' → Sl r (arrOf st') lo n → Q true st') : wpS M A E s (binarySort' lo n ok) Q st := by
  rw [binarySort'_eq]
  rw [show max ok 1 = ok by omega]
  refine wpS_bind (wpS_mono (wpS_forRange (I := fun x c st' => c = (none, ()) ∧ SA lo (lo + n) st st' ∧ Sl r (arrOf st') lo x) (Q := fun c st' => c = (none, ()) ∧ SA lo (lo + n) st st' ∧ Sl r (arrOf st') lo n) ?step ?fin ⟨rfl, SA.refl _, hs⟩) ?post)
  case fin =>
    rintro c st' ⟨rfl, sa, hs'⟩
    rw [show max ok n = n by omega] at hs'
    exact ⟨rfl, sa, hs'⟩
  case post =>
    rintro c st' ⟨rfl, sa, hs'⟩
    exact wpS_pure (q st' sa hs')
  case step =>
    rintro k c st1 a1 a2 ⟨rfl, sa, hs1⟩
    dsimp only
    have sz := sa.arr.size
    have hk1 := sa.kind.trans hk
    have hS1 := hS.kp sa.arr
    obtain ⟨p, hp⟩ := get_lt (a := arrOf st1) (i := lo + k) (by omega)
    refine wpS_bind (wpS_mono (wpS_forRange (I := fun x c st' => st' = st1 ∧ ∃ l h, c = (none, l, h) ∧ l ≤ h ∧ h ≤ k ∧ h - l ≤ k - x ∧ (∀ i x, i < l → (arrOf st1)[lo + i]? = some x → r p x = false) ∧ ∀ i x, h ≤ i → i < k → (arrOf st1)[lo + i]? = some x → r p x = true)
      (Q := fun c st' => st' = st1 ∧ ∃ l, c = (none, l, l) ∧ l ≤ k ∧ (∀ i x, i < l → (arrOf st1)[lo + i]? = some x → r p x = false) ∧ ∀ i x, l ≤ i → i < k → (arrOf st1)[lo + i]? = some x → r p x = true) ?s ?f ⟨rfl, 0, k, rfl, by omega, by omega, by omega, (fun i x h => by omega), fun i x h1 h2 => by omega⟩) ?pp)
    case s =>
      rintro x c st' _ hx ⟨rfl, l, h, rfl, b1, b2, b3, b4, b5⟩
      dsimp only
      by_cases e : l ≥ h
      · rw [if_pos e]
        have : l = h := by omega
        subst this
        exact wpS_pure ⟨rfl, l, rfl, b2, b4, b5⟩
      · rw [if_neg e]
        obtain ⟨y, hy⟩ := get_lt (a := arrOf st') (i := lo + (l + h) / 2) (by omega)
        refine wpS_bind (wpS_ltA K hk1 hS1 hp hy ?_)
        dsimp only
        cases hw : r p y with
        | true =>
          rw [if_pos rfl]
          refine wpS_pure ⟨rfl, _, _, rfl, by omega, by omega, by omega, b4, fun i z c1 c2 ez => ?_⟩
          have g := hs1 (lo + (l + h) / 2) (lo + i) y z (by omega) (by omega) (by omega) hy ez
          cases hz : r p z with
          | true => rfl
          | false => exact absurd (O.ntr g hz) (by rw [hw]; simp)
        | false =>
          rw [if_neg (by simp)]
          refine wpS_pure ⟨rfl, _, _, rfl, by omega, by omega, by omega, fun i z c1 ez => ?_, b5⟩
          exact O.ntr (hs1 (lo + i) (lo + (l + h) / 2) z y (by omega) (by omega) (by omega) ez hy) hw
    case f =>
      rintro c st' ⟨rfl, l, h, rfl, b1, b2, b3, b4, b5⟩
      have : l = h := by omega
      subst this
      exact ⟨rfl, l, rfl, b2, b4, b5⟩
    case pp =>
      rintro c st' ⟨rfl, l, rfl, b2, b4, b5⟩
      dsimp only
      rw [moveDown'_eq]
      have ge := getElem?_bubble (xs := arrOf st') (src := lo + k) (by omega) (k - l) (by omega)
      have ed : lo + k - (lo + l) = k - l := by omega
      refine wpS_bind (wpS_modify (wpS_pure ⟨rfl, sa.trans ⟨rfl, rfl, rfl, ?_, fun j hj => ?_⟩, fun m m' x x' c1 c2 c3 e1 e2 => ?_⟩))
      · exact bubble_perm _ _ _
      · show (bubble (arrOf st') (lo + k) (lo + k - (lo + l)))[j]? = _
        rw [ed, ge, if_neg (by omega), if_neg (by omega)]
      · have e1 : (bubble (arrOf st') (lo + k) (lo + k - (lo + l)))[m]? = some x := e1
        have e2 : (bubble (arrOf st') (lo + k) (lo + k - (lo + l)))[m']? = some x' := e2
        rw [ed, ge, show lo + k - (k - l) = lo + l by omega] at e1 e2
        by_cases g1 : m = lo + l
        · rw [if_pos g1, hp] at e1
          cases e1
          by_cases g2 : m' = lo + l
          · rw [if_pos g2, hp] at e2; cases e2; exact rr O _
          · rw [if_neg g2, if_pos (by omega)] at e2
            rw [show m' - 1 = lo + (m' - 1 - lo) by omega] at e2
            exact O.asym (b5 _ x' (by omega) (by omega) e2)
        · rw [if_neg g1] at e1
          by_cases g2 : m' = lo + l
          · rw [if_pos g2, hp] at e2
            cases e2
            rw [if_neg (by omega), show m = lo + (m - lo) by omega] at e1
            exact b4 _ x (by omega) e1
          · rw [if_neg g2] at e2
            by_cases g3 : lo + l < m ∧ m ≤ lo + k
            · rw [if_pos g3] at e1
              rw [if_pos (by omega)] at e2
              exact hs1 (m - 1) (m' - 1) x x' (by omega) (by omega) (by omega) e1 e2
            · rw [if_neg g3] at e1
              by_cases g4 : lo + l < m' ∧ m' ≤ lo + k
              · rw [if_pos g4] at e2
                exact hs1 m (m' - 1) x x' c1 (by omega) (by omega) e1 e2
              · rw [if_neg g4] at e2
                exact hs1 m m' x x' c1 c2 (by omega) e1 e2
end
end TS
namespace TS
open PySem PyProof.Rows
section
variable {M : Model} {A : Around} {E : Value → Shared → Prop} {s : Shared} {κ : SortKind} {S : Keyed → Prop} {r : Keyed → Keyed → Bool}
theorem wpS_gFs (K : Ask M A E s κ S r) (O : SOrd r) {a : Array Keyed} {key : Keyed} {st : SortSt} {i n h : Nat} {Q : Option Nat → SortSt → Prop} (hk : kindOf st = κ) (hS : S key) (Sa : In S a) (sa : Sl r a i n) (hi : i + n ≤ a.size) (hh : h < n)
    (q : ∀ k, k ≤ n → (∀ (m : Nat) x, i ≤ m → m < i + k → a[m]? = some x → r key x = false) → (∀ (m : Nat) x, i + k ≤ m → m < i + n → a[m]? = some x → r key x = true) → Q (some k) st) : wpS M A E s (gallop' false key a i n h) Q st := by
  have at' : ∀ m, m < n → ∃ x, a[i + m]? = some x := fun m hm => get_lt (by omega)
  refine wpS_gallop K hk hS hh (fun m => match a[i + m]? with | some x => !(r key x) | none => false) (fun m hm => ?_) (fun m m' h1 h2 h3 => ?_) (fun k h1 h2 h3 => q k h1 (fun m x hm1 hm2 hx => ?_) fun m x hm1 hm2 hx => ?_)
  · obtain ⟨x, e⟩ := at' m hm
    refine ⟨x, e, Sa _ x e, ?_⟩
    rw [e]
    rfl
  · obtain ⟨x, e⟩ := at' m (by omega)
    obtain ⟨x', e'⟩ := at' m' h2
    rw [e'] at h3
    rw [e]
    dsimp only at h3 ⊢
    have q1 : r key x' = false := by simpa using h3
    rw [O.ntr (sa (i + m) (i + m') x x' (by omega) (by omega) (by omega) e e') q1]
    rfl
  · have := h2 (m - i) (by omega)
    rw [show i + (m - i) = m by omega, hx] at this
    simpa using this
  · have := h3 (m - i) (by omega) (by omega)
    rw [show i + (m - i) = m by omega, hx] at this
    simpa using this
theorem wpS_gTs (K : Ask M A E s κ S r) (O : SOrd r) {a : Array Keyed} {key : Keyed} {st : SortSt} {i n h : Nat} {Q : Option Nat → SortSt → Prop} (hk : kindOf st = κ) (hS : S key) (Sa : In S a) (sa : Sl r a i n) (hi : i + n ≤ a.size) (hh : h < n)
    (q : ∀ k, k ≤ n → (∀ (m : Nat) x, i ≤ m → m < i + k → a[m]? = some x → r x key = true) → (∀ (m : Nat) x, i + k ≤ m → m < i + n → a[m]? = some x → r x key = false) → Q (some k) st) : wpS M A E s (gallop' true key a i n h) Q st := by
  have at' : ∀ m, m < n → ∃ x, a[i + m]? = some x := fun m hm => get_lt (by omega)
  refine wpS_gallop K hk hS hh (fun m => match a[i + m]? with | some x => r x key | none => false) (fun m hm => ?_) (fun m m' h1 h2 h3 => ?_) (fun k h1 h2 h3 => q k h1 (fun m x hm1 hm2 hx => ?_) fun m x hm1 hm2 hx => ?_)
  · obtain ⟨x, e⟩ := at' m hm
    refine ⟨x, e, Sa _ x e, ?_⟩
    rw [e]
    rfl
  · obtain ⟨x, e⟩ := at' m (by omega)
    obtain ⟨x', e'⟩ := at' m' h2
    rw [e'] at h3
    rw [e]
    dsimp only at h3 ⊢
    cases qq : r x key with
    | true => rfl
    | false => rw [O.ntr qq (sa (i + m) (i + m') x x' (by omega) (by omega) (by omega) e e')] at h3; cases h3
  · have := h2 (m - i) (by omega)
    rw [show i + (m - i) = m by omega, hx] at this
    exact this
  · have := h3 (m - i) (by omega) (by omega)
    rw [show i + (m - i) = m by omega, hx] at this
    exact this
theorem wr_back {k0 : Nat} : ∀ (ms : List Keyed) (k : Nat) (arr : Array Keyed) (P X R : List Keyed), arr.toList = P ++ X ++ R → X.length = ms.length → P.length = k0 + k →
    ((ms.zipIdx k).foldl (fun a (p, j) => a.setIfInBounds (k0 + j) p) arr).toList = P ++ ms ++ R
  | [], k, arr, P, X, R, h1, h2, h3 => by
    cases X with
    | nil => exact h1
    | cons _ _ => cases h2
  | m :: ms, k, arr, P, X, R, h1, h2, h3 => by
    cases X with
    | nil => cases h2
    | cons x X =>
      rw [List.zipIdx_cons, List.foldl_cons]
      have h2 : X.length = ms.length := by simpa using h2
      have := wr_back (k0 := k0) ms (k + 1) (arr.setIfInBounds (k0 + k) m) (P ++ [m]) X R (by
        rw [Array.toList_setIfInBounds, h1, ← h3]
        simp [List.set_append]) h2 (by rw [List.length_append, h3]; rfl)
      rw [this]
      simp
theorem mergeAt'_eq (i : Nat) : mergeAt' i = (do
  let s ← get
  let (some (sa, na, power), some (sb, nb, _)) := ((pendingOf s)[i]?, (pendingOf s)[i + 1]?) | unsupported "internal:list.sort.pending"
  set (setPending s (((pendingOf s).setIfInBounds i (sa, na + nb, power)).eraseIdxIfInBounds (i + 1)))
  let some k ← gallop' false (← elem' (arrOf s) sb) (arrOf s) sa na 0 | return false
  let (sa, na) := (sa + k, na - k)
  if na == 0 then return true
  let some nb ← gallop' true (← elem' (arrOf s) (sa + na - 1)) (arrOf s) sb nb (nb - 1) | return false
  if nb == 0 then return true
  let x := (arrOf s).extract sa sb
  let y := (arrOf s).extract sb (sb + nb)
  let merged ← if na ≤ nb then mergeLo' x y else mergeHi' x y
  modify fun s => setArr s (merged.toList.zipIdx.foldl (fun a (p, j) => a.setIfInBounds (sa + j) p) (arrOf s))
  return (failedOf (← get)).isNone) := rfl
theorem wpS_set {st st' : SortSt} {Q : PUnit → SortSt → Prop} (h : Q ⟨⟩ st') : wpS M A E s (set st' : StateT SortSt Sem PUnit) Q st := by
  unfold wpS; rw [StateT.run_set]; exact wpAny_pure ⟨rfl, h⟩
theorem ex_seg (a : Array Keyed) {i j : Nat} (h : j ≤ a.size) : (a.extract i j).toList = (a.toList.drop i).take (j - i) := by
  rw [Array.toList_extract, List.extract_eq_drop_take]
theorem seg_get {a : Array Keyed} {i j k : Nat} (hj : j ≤ a.size) (hk : k < j - i) : ((a.toList.drop i).take (j - i))[k]? = a[i + k]? := by
  rw [List.getElem?_take_of_lt hk, List.getElem?_drop, Array.getElem?_toList]
theorem seg_mem {a : Array Keyed} {i j : Nat} {x : Keyed} (hj : j ≤ a.size) (h : x ∈ (a.extract i j).toList) : ∃ m : Nat, i ≤ m ∧ m < j ∧ a[m]? = some x := by
  rw [ex_seg a hj] at h
  obtain ⟨k, hk⟩ := List.mem_iff_getElem?.mp h
  have hlt := (List.getElem?_eq_some_iff.mp hk).1
  rw [List.length_take, List.length_drop, Array.length_toList] at hlt
  rw [seg_get hj (by omega)] at hk
  exact ⟨i + k, by omega, by omega, hk⟩
theorem seg_srt {a : Array Keyed} {i j lo n : Nat} (hj : j ≤ a.size) (hs : Sl r a lo n) (h1 : lo ≤ i) (h2 : j ≤ lo + n) : Srt r (a.extract i j).toList := by
  rw [ex_seg a hj]
  refine List.pairwise_iff_getElem.mpr fun p q hp hq hpq => ?_
  have hlq := hq
  rw [List.length_take, List.length_drop, Array.length_toList] at hlq
  have e1 := seg_get (a := a) (i := i) (j := j) (k := p) hj (by omega)
  have e2 := seg_get (a := a) (i := i) (j := j) (k := q) hj (by omega)
  rw [List.getElem?_eq_getElem hp] at e1
  rw [List.getElem?_eq_getElem hq] at e2
  exact hs (i + p) (i + q) _ _ (by omega) (by omega) (by omega) e1.symm e2.symm
theorem wpS_mergeAt (K : Ask M A E s κ S r) (O : SOrd r) {st : SortSt} {i sa na p1 sb nb p2 : Nat} {Q : Bool → SortSt → Prop} (hk : kindOf st = κ) (hS : In S (arrOf st)) (hf : failedOf st = none) (h1 : (pendingOf st)[i]? = some (sa, na, p1)) (h2 : (pendingOf st)[i + 1]? = some (sb, nb, p2))
    (hab : sb = sa + na) (na0 : 0 < na) (nb0 : 0 < nb) (hz : sb + nb ≤ (arrOf st).size) (ha : Sl r (arrOf st) sa na) (hb : Sl r (arrOf st) sb nb)
    (q : ∀ st', kindOf st' = kindOf st → failedOf st' = none → pendingOf st' = ((pendingOf st).setIfInBounds i (sa, na + nb, p1)).eraseIdxIfInBounds (i + 1) → Kp sa (sb + nb) (arrOf st) (arrOf st') → Sl r (arrOf st') sa (na + nb) → Q true st') : wpS M A E s (mergeAt' i) Q st := by
  rw [mergeAt'_eq]
  refine wpS_bind (wpS_get ?_)
  rw [h1, h2]
  dsimp only
  refine wpS_bind (wpS_set ?_)
  obtain ⟨b0, eb0⟩ := get_lt (a := arrOf st) (i := sb) (by omega)
  obtain ⟨al, eal⟩ := get_lt (a := arrOf st) (i := sb - 1) (by omega)
  refine wpS_bind (wpS_elem eb0 ?_)
  have hk1 : kindOf (setPending st (((pendingOf st).setIfInBounds i (sa, na + nb, p1)).eraseIdxIfInBounds (i + 1))) = κ := hk
  refine wpS_bind (wpS_gFs K O hk1 (hS _ _ eb0) hS ha (by omega) na0 fun k k1 g1 g2 => ?_)
  dsimp only
  have b0le : ∀ (m : Nat) x, sb ≤ m → m < sb + nb → (arrOf st)[m]? = some x → r x b0 = false := fun m x c1 c2 e => hb sb m b0 x (Nat.le_refl _) c1 c2 eb0 e
  have alge : ∀ (m : Nat) x, sa ≤ m → m < sb → (arrOf st)[m]? = some x → r al x = false := fun m x c1 c2 e => ha m (sb - 1) x al c1 (by omega) (by omega) e eal
  by_cases e0 : na - k = 0
  · rw [if_pos (by simpa using e0)]
    refine wpS_pure (q _ rfl hf rfl (Kp.refl _) fun m m' x x' c1 c2 c3 e1 e2 => ?_)
    by_cases d1 : m' < sb
    · exact ha m m' x x' c1 c2 (by omega) e1 e2
    · by_cases d2 : m < sb
      · exact O.ntr (g1 m x c1 (by omega) e1) (b0le m' x' (by omega) (by omega) e2)
      · exact hb m m' x x' (by omega) c2 (by omega) e1 e2
  rw [if_neg (by simpa using e0)]
  have esa : sa + k + (na - k) - 1 = sb - 1 := by omega
  rw [esa]
  refine wpS_bind (wpS_elem eal ?_)
  refine wpS_bind (wpS_gTs K O hk1 (hS _ _ eal) hS hb hz (by omega) fun nb' k2 g3 g4 => ?_)
  dsimp only
  by_cases e5 : nb' = 0
  · rw [if_pos (by simpa using e5)]
    refine wpS_pure (q _ rfl hf rfl (Kp.refl _) fun m m' x x' c1 c2 c3 e1 e2 => ?_)
    by_cases d1 : m' < sb
    · exact ha m m' x x' c1 c2 (by omega) e1 e2
    · by_cases d2 : m < sb
      · exact O.ntr (alge m x c1 d2 e1) (g4 m' x' (by omega) (by omega) e2)
      · exact hb m m' x x' (by omega) c2 (by omega) e1 e2
  rw [if_neg (by simpa using e5)]
  have T : Two S r ((arrOf st).extract (sa + k) sb) ((arrOf st).extract sb (sb + nb')) :=
    ⟨fun x hx => by obtain ⟨m, _, _, e⟩ := seg_mem (by omega) hx; exact hS _ _ e, fun x hx => by obtain ⟨m, _, _, e⟩ := seg_mem (by omega) hx; exact hS _ _ e, seg_srt (by omega) ha (by omega) (by omega), seg_srt (by omega) hb (by omega) (by omega)⟩
  have zx : ((arrOf st).extract (sa + k) sb).size = sb - (sa + k) := by rw [Array.size_extract]; omega
  have zy : ((arrOf st).extract sb (sb + nb')).size = nb' := by rw [Array.size_extract]; omega
  have hfst : ∀ y, ((arrOf st).extract sb (sb + nb')).toList[0]? = some y → ∀ x ∈ ((arrOf st).extract (sa + k) sb).toList, r x y = false := fun y hy x hx => by
    rw [ex_seg _ (by omega), seg_get (by omega) (by omega), Nat.add_zero, eb0] at hy
    cases hy
    obtain ⟨m, d1, d2, e⟩ := seg_mem (by omega) hx
    exact O.asym (g2 m x d1 (by omega) e)
  have hlst : ∀ x ∈ ((arrOf st).extract (sa + k) sb).toList.drop (((arrOf st).extract (sa + k) sb).size - 1), ∀ y ∈ ((arrOf st).extract sb (sb + nb')).toList, r x y = false := fun x hx y hy => by
    obtain ⟨j, hj⟩ := List.mem_iff_getElem?.mp hx
    rw [List.getElem?_drop, zx] at hj
    have hlt := (List.getElem?_eq_some_iff.mp hj).1
    rw [Array.length_toList, zx] at hlt
    rw [ex_seg _ (by omega), seg_get (by omega) (by omega), show sa + k + (sb - (sa + k) - 1 + j) = sb - 1 by omega, eal] at hj
    cases hj
    obtain ⟨m, d1, d2, e⟩ := seg_mem (by omega) hy
    exact O.asym (g3 m y d1 (by omega) e)
  have fin : ∀ (l : Array Keyed) (st2 : SortSt), SG (setPending st (((pendingOf st).setIfInBounds i (sa, na + nb, p1)).eraseIdxIfInBounds (i + 1))) st2 → Good r ((arrOf st).extract (sa + k) sb).toList ((arrOf st).extract sb (sb + nb')).toList l.toList →
      wpS M A E s (do
        modify fun s => setArr s (List.foldl (fun a x => a.setIfInBounds (sa + k + x.snd) x.fst) (arrOf s) l.toList.zipIdx)
        let z ← get
        pure (failedOf z).isNone) Q st2 := fun l st2 sg ⟨sl, pl⟩ => by
    refine wpS_bind (wpS_modify (wpS_bind (wpS_get ?_)))
    have ear : arrOf st2 = arrOf st := sg.arr
    have eX : ((arrOf st).extract (sa + k) sb).toList ++ ((arrOf st).extract sb (sb + nb')).toList = ((arrOf st).toList.drop (sa + k)).take (sb + nb' - (sa + k)) := by
      rw [ex_seg _ (by omega), ex_seg _ (by omega), show sb + nb' - (sa + k) = (sb - (sa + k)) + (sb + nb' - sb) by omega, List.take_add, List.drop_drop, show sa + k + (sb - (sa + k)) = sb by omega]
    have el : (arrOf st).toList = (arrOf st).toList.take (sa + k) ++ ((arrOf st).toList.drop (sa + k)).take (sb + nb' - (sa + k)) ++ (arrOf st).toList.drop (sb + nb') := by
      have t1 := (List.take_append_drop (sa + k) (arrOf st).toList).symm
      have t2 := (List.take_append_drop (sb + nb' - (sa + k)) ((arrOf st).toList.drop (sa + k))).symm
      rw [List.drop_drop, show sa + k + (sb + nb' - (sa + k)) = sb + nb' by omega] at t2
      rw [List.append_assoc, ← t2]
      exact t1
    have lm : (((arrOf st).toList.drop (sa + k)).take (sb + nb' - (sa + k))).length = l.toList.length := by rw [← eX]; exact pl.length_eq.symm
    have lml : l.toList.length = sb + nb' - (sa + k) := by rw [← lm, List.length_take, List.length_drop, Array.length_toList]; omega
    have wb := wr_back (k0 := sa + k) l.toList 0 (arrOf st) ((arrOf st).toList.take (sa + k)) (((arrOf st).toList.drop (sa + k)).take (sb + nb' - (sa + k))) ((arrOf st).toList.drop (sb + nb')) el lm (by rw [List.length_take, Array.length_toList]; omega)
    rw [show (failedOf (setArr st2 (List.foldl (fun a x => a.setIfInBounds (sa + k + x.snd) x.fst) (arrOf st2) l.toList.zipIdx))).isNone = true by
      show (failedOf st2).isNone = true
      rw [sg.fail]
      show (failedOf st).isNone = true
      rw [hf]; rfl]
    have eb : arrOf (setArr st2 (List.foldl (fun a x => a.setIfInBounds (sa + k + x.snd) x.fst) (arrOf st2) l.toList.zipIdx)) = List.foldl (fun a x => a.setIfInBounds (sa + k + x.snd) x.fst) (arrOf st) l.toList.zipIdx := by
      show List.foldl (fun a x => a.setIfInBounds (sa + k + x.snd) x.fst) (arrOf st2) l.toList.zipIdx = _
      rw [ear]
    have wb' : (arrOf (setArr st2 (List.foldl (fun a x => a.setIfInBounds (sa + k + x.snd) x.fst) (arrOf st2) l.toList.zipIdx))).toList = (arrOf st).toList.take (sa + k) ++ l.toList ++ (arrOf st).toList.drop (sb + nb') := by rw [eb]; exact wb
    have ge : ∀ m : Nat, (arrOf (setArr st2 (List.foldl (fun a x => a.setIfInBounds (sa + k + x.snd) x.fst) (arrOf st2) l.toList.zipIdx)))[m]? = if m < sa + k then (arrOf st)[m]? else if m < sb + nb' then l.toList[m - (sa + k)]? else (arrOf st)[m]? := fun m => by
      rw [← Array.getElem?_toList, wb']
      have lt : ((arrOf st).toList.take (sa + k)).length = sa + k := by rw [List.length_take, Array.length_toList]; omega
      by_cases d1 : m < sa + k
      · rw [if_pos d1, List.append_assoc, List.getElem?_append_left (by omega), List.getElem?_take_of_lt d1, Array.getElem?_toList]
      · rw [if_neg d1]
        by_cases d2 : m < sb + nb'
        · rw [if_pos d2, List.getElem?_append_left (by rw [List.length_append]; omega), List.getElem?_append_right (by omega), lt]
        · rw [if_neg d2, List.getElem?_append_right (by rw [List.length_append]; omega), List.length_append, lt, lml, List.getElem?_drop, ← Array.getElem?_toList]
          congr 1
          omega
    refine wpS_pure (q _ sg.kind ?_ sg.pend ⟨?_, fun j hj => ?_⟩ fun m m' x x' c1 c2 c3 e1 e2 => ?_)
    · show failedOf st2 = none
      exact sg.fail.trans hf
    · refine Array.perm_iff_toList_perm.mpr ?_
      rw [wb']
      refine List.Perm.trans ?_ (List.Perm.of_eq el.symm)
      refine List.Perm.append_right _ (List.Perm.append_left _ ?_)
      rw [← eX]
      exact pl
    · rw [ge]
      by_cases d1 : j < sa + k
      · rw [if_pos d1]
      · rw [if_neg d1, if_neg (by omega)]
    · rw [ge] at e1 e2
      have mid : ∀ {j : Nat} {y : Keyed}, l.toList[j]? = some y → ∃ m0 : Nat, sa + k ≤ m0 ∧ m0 < sb + nb' ∧ (arrOf st)[m0]? = some y := fun {j y} h => by
        have hm := pl.mem_iff.mp (List.mem_of_getElem? h)
        rcases List.mem_append.mp hm with h' | h'
        · obtain ⟨m0, d1, d2, e⟩ := seg_mem (by omega) h'
          exact ⟨m0, d1, by omega, e⟩
        · obtain ⟨m0, d1, d2, e⟩ := seg_mem (by omega) h'
          exact ⟨m0, by omega, d2, e⟩
      by_cases d1 : m < sa + k
      · rw [if_pos d1] at e1
        by_cases d2 : m' < sa + k
        · rw [if_pos d2] at e2
          exact ha m m' x x' c1 c2 (by omega) e1 e2
        · rw [if_neg d2] at e2
          by_cases d3 : m' < sb + nb'
          · rw [if_pos d3] at e2
            obtain ⟨m0, f1, f2, f3⟩ := mid e2
            by_cases d4 : m0 < sb
            · exact ha m m0 x x' c1 (by omega) (by omega) e1 f3
            · exact O.ntr (g1 m x c1 d1 e1) (b0le m0 x' (by omega) (by omega) f3)
          · rw [if_neg d3] at e2
            exact O.ntr (g1 m x c1 d1 e1) (b0le m' x' (by omega) (by omega) e2)
      · rw [if_neg d1] at e1
        rw [if_neg (by omega)] at e2
        by_cases d3 : m < sb + nb'
        · rw [if_pos d3] at e1
          by_cases d4 : m' < sb + nb'
          · rw [if_pos d4] at e2
            by_cases d5 : m = m'
            · subst d5; rw [e1] at e2; cases e2; exact rr O _
            · have lt1 := (List.getElem?_eq_some_iff.mp e1)
              have lt2 := (List.getElem?_eq_some_iff.mp e2)
              have := List.pairwise_iff_getElem.mp sl (m - (sa + k)) (m' - (sa + k)) lt1.1 lt2.1 (by omega)
              rw [lt1.2, lt2.2] at this
              exact this
          · rw [if_neg d4] at e2
            obtain ⟨m0, f1, f2, f3⟩ := mid e1
            by_cases d5 : m0 < sb
            · exact O.ntr (alge m0 x (by omega) d5 f3) (g4 m' x' (by omega) (by omega) e2)
            · exact hb m0 m' x x' (by omega) (by omega) (by omega) f3 e2
        · rw [if_neg d3] at e1
          rw [if_neg (by omega)] at e2
          exact hb m m' x x' (by omega) c2 (by omega) e1 e2
  by_cases hle : na - k ≤ nb'
  · rw [if_pos hle]
    exact wpS_bind (wpS_mergeLo K O T hk1 (by omega) (by omega) hfst hlst fin)
  · rw [if_neg hle]
    refine wpS_bind (wpS_mergeHi K O T hk1 (by omega) (by omega) (fun y hy x hx => ?_) hlst fin)
    obtain ⟨j, hj⟩ := List.mem_iff_getElem?.mp hy
    have hlt := (List.getElem?_eq_some_iff.mp hj).1
    rw [List.length_take] at hlt
    have j0 : j = 0 := by omega
    subst j0
    rw [List.getElem?_take_of_lt (by omega)] at hj
    exact hfst y hj x hx
end
end TS
namespace TS
open PySem PyProof.Rows
section
variable {M : Model} {A : Around} {E : Value → Shared → Prop} {s : Shared} {κ : SortKind} {S : Keyed → Prop} {r : Keyed → Keyed → Bool}
abbrev Rn := Nat × Nat × Nat
def Cov (r : Keyed → Keyed → Bool) (a : Array Keyed) : List Rn → Nat → Nat → Prop
  | [], f, t => f = t
  | x :: ps, f, t => x.1 = f ∧ 0 < x.2.1 ∧ Sl r a x.1 x.2.1 ∧ Cov r a ps (f + x.2.1) t
theorem Cov.le {a : Array Keyed} : ∀ {ps : List Rn} {f t : Nat}, Cov r a ps f t → f + ps.length ≤ t
  | [], f, t, h => Nat.le_of_eq h
  | x :: ps, f, t, ⟨h1, h2, h3, h4⟩ => by have := h4.le; rw [List.length_cons]; omega
theorem Cov.app {a : Array Keyed} : ∀ {ps qs : List Rn} {f m t : Nat}, Cov r a ps f m → Cov r a qs m t → Cov r a (ps ++ qs) f t
  | [], _, _, _, _, h, g => by cases h; exact g
  | _ :: _, _, _, _, _, ⟨h1, h2, h3, h4⟩, g => ⟨h1, h2, h3, h4.app g⟩
theorem Cov.split {a : Array Keyed} : ∀ {ps qs : List Rn} {f t : Nat}, Cov r a (ps ++ qs) f t → ∃ m, Cov r a ps f m ∧ Cov r a qs m t
  | [], _, f, _, h => ⟨f, rfl, h⟩
  | _ :: _, _, _, _, ⟨h1, h2, h3, h4⟩ => by
    obtain ⟨m, g1, g2⟩ := h4.split
    exact ⟨m, ⟨h1, h2, h3, g1⟩, g2⟩
theorem sl_kp {a a' : Array Keyed} {lo hi b n : Nat} (h : Sl r a b n) (k : Kp lo hi a a') (o : b + n ≤ lo ∨ hi ≤ b) : Sl r a' b n := fun m m' x x' c1 c2 c3 e1 e2 => by
  rw [k.out m (by omega)] at e1
  rw [k.out m' (by omega)] at e2
  exact h m m' x x' c1 c2 c3 e1 e2
theorem Cov.kp {a a' : Array Keyed} {lo hi : Nat} (k : Kp lo hi a a') : ∀ {ps : List Rn} {f t : Nat}, Cov r a ps f t → (t ≤ lo ∨ hi ≤ f) → Cov r a' ps f t
  | [], _, _, h, _ => h
  | x :: ps, f, t, ⟨h1, h2, h3, h4⟩, o => by
    have := h4.le
    exact ⟨h1, h2, sl_kp h3 k (by omega), h4.kp k (by omega)⟩
structure SI (κ : SortKind) (S : Keyed → Prop) (r : Keyed → Keyed → Bool) (a₀ : Array Keyed) (lo : Nat) (st : SortSt) : Prop where
  kind : kindOf st = κ
  fail : failedOf st = none
  pm : (arrOf st).Perm a₀
  ins : In S (arrOf st)
  cov : Cov r (arrOf st) (pendingOf st).toList 0 lo
theorem SI.size {a₀ : Array Keyed} {lo : Nat} {st : SortSt} (h : SI κ S r a₀ lo st) : (arrOf st).size = a₀.size := h.pm.size_eq
theorem list_two {ps : List Rn} {i : Nat} (h : i + 1 < ps.length) : ∃ p1 x y p2, ps = p1 ++ x :: y :: p2 ∧ p1.length = i := by
  refine ⟨ps.take i, ps[i], ps[i + 1], ps.drop (i + 2), ?_, by rw [List.length_take]; omega⟩
  have e1 := List.drop_eq_getElem_cons (l := ps) (i := i) (by omega)
  have e2 := List.drop_eq_getElem_cons (l := ps) (i := i + 1) h
  rw [← e2, ← e1]
  exact (List.take_append_drop i ps).symm
theorem wpS_mergeI (K : Ask M A E s κ S r) (O : SOrd r) {st : SortSt} {a₀ : Array Keyed} {i lo : Nat} {Q : Bool → SortSt → Prop} (h : SI κ S r a₀ lo st) (hlo : lo ≤ a₀.size) (hi : i + 1 < (pendingOf st).size)
    (q : ∀ st', SI κ S r a₀ lo st' → Kp 0 lo (arrOf st) (arrOf st') → (pendingOf st').size + 1 = (pendingOf st).size → Q true st') : wpS M A E s (mergeAt' i) Q st := by
  obtain ⟨p1, ⟨sa, na, w1⟩, ⟨sb, nb, w2⟩, p2, ep, el⟩ := list_two (ps := (pendingOf st).toList) (i := i) (by rw [Array.length_toList]; exact hi)
  have cov := h.cov
  rw [ep] at cov
  obtain ⟨m, c1, ⟨d1, d2, d3, ⟨f1, f2, f3, f4⟩⟩⟩ := cov.split
  dsimp only at d1 d2 d3 f1 f2 f3 f4
  have hle := f4.le
  have g1 : (pendingOf st)[i]? = some (sa, na, w1) := by rw [← Array.getElem?_toList, ep, ← el]; simp
  have g2 : (pendingOf st)[i + 1]? = some (sb, nb, w2) := by rw [← Array.getElem?_toList, ep, ← el]; simp
  have sz := h.size
  refine wpS_mergeAt K O h.kind h.ins h.fail g1 g2 (by omega) d2 f2 (by omega) d3 f3 fun st' k1 k2 k3 k4 k5 => ?_
  have et : (pendingOf st').toList = p1 ++ (sa, na + nb, w1) :: p2 := by
    rw [k3]
    simp only [Array.toList_eraseIdxIfInBounds, Array.toList_setIfInBounds]
    rw [ep, ← el]
    simp [List.set_append, List.eraseIdx_append]
    intro h; omega
  refine q st' ⟨k1.trans h.kind, k2, k4.pm.trans h.pm, h.ins.kp k4, ?_⟩ (k4.wide (by omega) (by omega)) ?_
  · rw [et]
    refine (c1.kp k4 (.inl (by omega))).app ⟨d1, by show 0 < na + nb; omega, k5, ?_⟩
    have := f4.kp k4 (.inr (by omega))
    show Cov r (arrOf st') p2 (m + (na + nb)) lo
    rw [← Nat.add_assoc]; exact this
  · have l1 := congrArg List.length et
    have l2 := congrArg List.length ep
    rw [Array.length_toList] at l1 l2
    simp only [List.length_append, List.length_cons] at l1 l2
    omega
theorem cov_modify {a : Array Keyed} {pw : Nat} : ∀ {ps : List Rn} {f t k : Nat}, Cov r a ps f t → Cov r a (ps.modify k fun x => (x.1, x.2.1, pw)) f t
  | [], _, _, k, h => by cases k <;> exact h
  | x :: ps, f, t, 0, ⟨h1, h2, h3, h4⟩ => ⟨h1, h2, h3, h4⟩
  | x :: ps, f, t, k + 1, ⟨h1, h2, h3, h4⟩ => by
    rw [List.modify_succ_cons]
    exact ⟨h1, h2, h3, cov_modify h4⟩
theorem wpS_sortRunsT (K : Ask M A E s κ S r) (O : SOrd r) {st : SortSt} {Q : Unit → SortSt → Prop} (hk : kindOf st = κ) (hS : In S (arrOf st)) (hf : failedOf st = none) (hp : pendingOf st = #[]) (h1 : 1 ≤ (arrOf st).size)
    (q : ∀ st', failedOf st' = none → (arrOf st').Perm (arrOf st) → Sl r (arrOf st') 0 (arrOf st).size → Q () st') : wpS M A E s sortRuns' Q st := by
  rw [sortRuns'_eq]
  refine wpS_bind (wpS_get ?_)
  dsimp only
  obtain ⟨a₀, ea⟩ : ∃ a₀, arrOf st = a₀ := ⟨_, rfl⟩
  rw [ea] at h1 q ⊢
  have I0 : SI κ S r a₀ 0 st := ⟨hk, hf, by rw [ea], hS, by rw [hp]; rfl⟩
  refine wpS_bind (wpS_mono (wpS_forRange (I := fun x c st' => ∃ lo, c = (none, lo) ∧ x ≤ lo ∧ lo ≤ a₀.size ∧ SI κ S r a₀ lo st') (Q := fun c st' => c = (none, a₀.size) ∧ SI κ S r a₀ a₀.size st') ?step ?fin ⟨0, rfl, Nat.le_refl _, Nat.zero_le _, I0⟩) ?post)
  case fin =>
    rintro c st' ⟨lo, rfl, hx, hlo, hI⟩
    have : lo = a₀.size := by omega
    subst this
    exact ⟨rfl, hI⟩
  case step =>
    rintro x c st1 _ hx ⟨lo, rfl, hxl, hlo, hI⟩
    dsimp only
    by_cases hend : lo ≥ a₀.size
    · rw [if_pos hend]
      have : lo = a₀.size := by omega
      subst this
      exact wpS_pure ⟨rfl, hI⟩
    rw [if_neg hend]
    have sz := hI.size
    refine wpS_bind (wpS_countRun K O hI.kind hI.ins (by omega) (by omega) fun found st2 sa2 f1 f2 hsl2 => ?_)
    dsimp only
    have hI2 : SI κ S r a₀ lo st2 := ⟨sa2.kind.trans hI.kind, sa2.fail.trans hI.fail, sa2.arr.pm.trans hI.pm, hI.ins.kp sa2.arr, by rw [sa2.pend]; exact hI.cov.kp sa2.arr (.inl (Nat.le_refl _))⟩
    have sz2 := hI2.size
    by_cases hmin : found < minRun' a₀.size a₀.size 0
    · rw [if_pos hmin]
      refine wpS_bind (wpS_lift (wpAny_rule ⟨rfl, ?_⟩))
      refine wpS_bind (wpS_binSort K O hI2.kind hI2.ins (by omega) f1 (by omega) hsl2 fun st3 sa3 hsl => ?_)
      rw [if_neg (by simp)]
      have hI3 : SI κ S r a₀ lo st3 := ⟨sa3.kind.trans hI2.kind, sa3.fail.trans hI2.fail, sa3.arr.pm.trans hI2.pm, hI2.ins.kp sa3.arr, by rw [sa3.pend]; exact hI2.cov.kp sa3.arr (.inl (Nat.le_refl _))⟩
      obtain ⟨n, en⟩ : ∃ n, min (a₀.size - lo) (minRun' a₀.size a₀.size 0) = n := ⟨_, rfl⟩
      rw [en] at hsl ⊢
      have hn1 : 0 < n := by omega
      have hn2 : lo + n ≤ a₀.size := by omega
      clear en hsl2
      refine wpS_bind (wpS_get ?_)
      cases hb : (pendingOf st3).back? with
      | none =>
        dsimp only
        refine wpS_bind (wpS_modify (wpS_pure ⟨_, rfl, by omega, by omega, hI3.kind, hI3.fail, hI3.pm, hI3.ins, ?_⟩))
        show Cov r (arrOf st3) ((pendingOf st3).push (lo, n, 0)).toList 0 (lo + n)
        rw [Array.toList_push]
        exact hI3.cov.app ⟨rfl, hn1, hsl, rfl⟩
      | some bk =>
        obtain ⟨s1, n1, p⟩ := bk
        dsimp only
        refine wpS_bind (wpS_mono (wpS_forRange (I := fun _ c st' => c = (none, ()) ∧ SI κ S r a₀ lo st' ∧ Sl r (arrOf st') lo n) (Q := fun c st' => c = (none, ()) ∧ SI κ S r a₀ lo st' ∧ Sl r (arrOf st') lo n) ?_ (fun _ _ h => h) ⟨rfl, hI3, hsl⟩) ?_)
        · rintro x' c st4 _ _ ⟨rfl, hI4, hs4⟩
          refine wpS_bind (wpS_get ?_)
          by_cases hp : (pendingOf st4).size > 1
          · rw [if_pos hp]
            obtain ⟨⟨y1, y2, older⟩, hy⟩ : ∃ y, (pendingOf st4)[(pendingOf st4).size - 2]? = some y := ⟨_, getElem?_pos _ _ (by omega)⟩
            rw [hy]
            dsimp only
            split
            · exact wpS_pure ⟨rfl, hI4, hs4⟩
            · refine wpS_bind (wpS_mergeI K O hI4 (by omega) (by omega) fun st5 hI5 k5 _ => ?_)
              rw [if_neg (by simp)]
              exact wpS_pure ⟨rfl, hI5, sl_kp hs4 k5 (.inr (Nat.le_refl _))⟩
          · rw [if_neg hp]
            exact wpS_pure ⟨rfl, hI4, hs4⟩
        · rintro c st4 ⟨rfl, hI4, hs4⟩
          dsimp only
          refine wpS_bind (wpS_modify (wpS_bind (wpS_modify (wpS_pure ⟨_, rfl, by omega, by omega, hI4.kind, hI4.fail, hI4.pm, hI4.ins, ?_⟩))))
          show Cov r (arrOf st4) (((pendingOf st4).modify ((pendingOf st4).size - 1) fun x => (x.1, x.2.1, _)).push (lo, n, 0)).toList 0 (lo + n)
          rw [Array.toList_push, Array.toList_modify]
          exact (cov_modify hI4.cov).app ⟨rfl, hn1, hs4, rfl⟩
    · rw [if_neg hmin]
      obtain ⟨st3, e3⟩ : ∃ st3, st3 = st2 := ⟨_, rfl⟩
      obtain ⟨n, en⟩ : ∃ n, n = found := ⟨_, rfl⟩
      have hI3 := hI2
      have hsl := hsl2
      rw [← e3] at hI3 hsl ⊢
      rw [← en] at hsl ⊢
      have hn1 : 0 < n := by omega
      have hn2 : lo + n ≤ a₀.size := by omega
      refine wpS_bind (wpS_get ?_)
      cases hb : (pendingOf st3).back? with
      | none =>
        dsimp only
        refine wpS_bind (wpS_modify (wpS_pure ⟨_, rfl, by omega, by omega, hI3.kind, hI3.fail, hI3.pm, hI3.ins, ?_⟩))
        show Cov r (arrOf st3) ((pendingOf st3).push (lo, n, 0)).toList 0 (lo + n)
        rw [Array.toList_push]
        exact hI3.cov.app ⟨rfl, hn1, hsl, rfl⟩
      | some bk =>
        obtain ⟨s1, n1, p⟩ := bk
        dsimp only
        refine wpS_bind (wpS_mono (wpS_forRange (I := fun _ c st' => c = (none, ()) ∧ SI κ S r a₀ lo st' ∧ Sl r (arrOf st') lo n) (Q := fun c st' => c = (none, ()) ∧ SI κ S r a₀ lo st' ∧ Sl r (arrOf st') lo n) ?_ (fun _ _ h => h) ⟨rfl, hI3, hsl⟩) ?_)
        · rintro x' c st4 _ _ ⟨rfl, hI4, hs4⟩
          refine wpS_bind (wpS_get ?_)
          by_cases hp : (pendingOf st4).size > 1
          · rw [if_pos hp]
            obtain ⟨⟨y1, y2, older⟩, hy⟩ : ∃ y, (pendingOf st4)[(pendingOf st4).size - 2]? = some y := ⟨_, getElem?_pos _ _ (by omega)⟩
            rw [hy]
            dsimp only
            split
            · exact wpS_pure ⟨rfl, hI4, hs4⟩
            · refine wpS_bind (wpS_mergeI K O hI4 (by omega) (by omega) fun st5 hI5 k5 _ => ?_)
              rw [if_neg (by simp)]
              exact wpS_pure ⟨rfl, hI5, sl_kp hs4 k5 (.inr (Nat.le_refl _))⟩
          · rw [if_neg hp]
            exact wpS_pure ⟨rfl, hI4, hs4⟩
        · rintro c st4 ⟨rfl, hI4, hs4⟩
          dsimp only
          refine wpS_bind (wpS_modify (wpS_bind (wpS_modify (wpS_pure ⟨_, rfl, by omega, by omega, hI4.kind, hI4.fail, hI4.pm, hI4.ins, ?_⟩))))
          show Cov r (arrOf st4) (((pendingOf st4).modify ((pendingOf st4).size - 1) fun x => (x.1, x.2.1, _)).push (lo, n, 0)).toList 0 (lo + n)
          rw [Array.toList_push, Array.toList_modify]
          exact (cov_modify hI4.cov).app ⟨rfl, hn1, hs4, rfl⟩
  case post =>
    rintro c st1 ⟨rfl, hI⟩
    dsimp only
    have cl := hI.cov.le
    rw [Array.length_toList] at cl
    refine wpS_bind (wpS_mono (wpS_forRange (I := fun x c st' => c = (none, ()) ∧ SI κ S r a₀ a₀.size st' ∧ (pendingOf st').size + x ≤ a₀.size) (Q := fun c st' => c = (none, ()) ∧ SI κ S r a₀ a₀.size st' ∧ (pendingOf st').size ≤ 1) ?_ ?_ ⟨rfl, hI, by omega⟩) ?_)
    · rintro x c st2 _ hx ⟨rfl, hI2, hz⟩
      refine wpS_bind (wpS_get ?_)
      by_cases hp1 : (pendingOf st2).size ≤ 1
      · rw [if_pos hp1]
        exact wpS_pure ⟨rfl, hI2, hp1⟩
      rw [if_neg hp1]
      refine wpS_bind (wpS_mergeI K O hI2 (Nat.le_refl _) ?_ fun st3 hI3 _ hs3 => ?_)
      · have two : ∀ (c : Prop) [Decidable c], (if c then (pendingOf st2).size - 2 - 1 else (pendingOf st2).size - 2) + 1 < (pendingOf st2).size := fun c _ => by split <;> omega
        exact two _
      · rw [if_neg (by simp)]
        exact wpS_pure ⟨rfl, hI3, by omega⟩
    · rintro c st2 ⟨rfl, hI2, hz⟩
      exact ⟨rfl, hI2, by omega⟩
    · rintro c st2 ⟨rfl, hI2, hz⟩
      refine wpS_pure (q st2 hI2.fail hI2.pm ?_)
      have cov := hI2.cov
      have hl : (pendingOf st2).toList.length ≤ 1 := by rw [Array.length_toList]; exact hz
      match e : (pendingOf st2).toList, hl with
      | [], _ =>
        rw [e] at cov
        have : 0 = a₀.size := cov
        omega
      | [x], _ =>
        rw [e] at cov
        obtain ⟨c1, c2, c3, c4⟩ := cov
        have c4 : 0 + x.2.1 = a₀.size := c4
        rw [c1, show x.2.1 = a₀.size by omega] at c3
        exact c3
      | _ :: _ :: _, hl => simp at hl
end
end TS
namespace L2
open PySem PySem.Spec PyProof.Rows
def lexR (f : Value → List Int) (x y : Keyed) : Bool := HT.lexLt (f x.1) (f y.1)
theorem lexR_ord (f : Value → List Int) : TS.SOrd (lexR f) where
  asym := fun {x y} h => by
    cases e : lexR f y x with
    | false => rfl
    | true =>
      have := lex_trans _ _ _ h e
      rw [lex_irrefl] at this; cases this
  ntr := fun {x y z} h1 h2 => by
    cases e : lexR f z x with
    | false => rfl
    | true =>
      rcases lex_neg _ (f y.1) _ e with g | g
      · exact absurd g (by rw [show HT.lexLt (f z.1) (f y.1) = false from h2]; simp)
      · exact absurd g (by rw [show HT.lexLt (f y.1) (f x.1) = false from h1]; simp)
def TupAt (h : Heap) (f : Value → List Int) (b : Addr) : Prop := ∃ o xs k, h.get? b = some o ∧ o.cls = .type "tuple" ∧ o.data = .seq xs k ∧ Vals ((f (.ref b)).map V.int) xs.toList ∧ f (.ref b) ≠ []
section
variable {prog : Program} {w : World} {A : Around} {E : Value → Shared → Prop} {s : Shared}
theorem tup_kats {h : Heap} {f : Value → List Int} : ∀ (as : List Addr), (∀ b ∈ as, TupAt h f b) → ∃ fs : List Value, PySem.W.KatTups h (as.map Value.ref) fs ∧ fs.length = as.length ∧ ∀ v ∈ fs, ∃ i t, v = Value.int i t
  | [], _ => ⟨[], PySem.W.KatTups.nil, rfl, fun _ h => nomatch h⟩
  | b :: as, ht => by
    obtain ⟨fs, h1, h2, h3⟩ := tup_kats as fun c hc => ht c (List.mem_cons_of_mem _ hc)
    obtain ⟨o, xs, k, e1, e2, e3, e4, e5⟩ := ht b List.mem_cons_self
    cases hf : f (.ref b) with
    | nil => exact absurd hf e5
    | cons i r =>
      rw [hf, List.map_cons] at e4
      generalize hxs : xs.toList = l at e4
      cases e4 with
      | cons q rv =>
        obtain ⟨t', rfl⟩ := q
        refine ⟨.int i t' :: fs, PySem.W.KatTups.cons e1 e2 e3 ?_ h1, by simp [h2], fun v hv => ?_⟩
        · rw [← Array.getElem?_toList, hxs]; rfl
        · rcases List.mem_cons.mp hv with rfl | hv
          · exact ⟨i, t', rfl⟩
          · exact h3 v hv
theorem tup_ask {f : Value → List Int} {b : Bool} {as : List Addr} (ht : ∀ c ∈ as, TupAt s.heap f c) : TS.Ask (model prog w) A E s (tuples' b) (fun x => x.1 = x.2 ∧ ∃ c ∈ as, x.1 = .ref c) (lexR f) := by
  rintro st ⟨x, x'⟩ ⟨y, y'⟩ Q hk ⟨_, c, hc, ex⟩ ⟨_, d, hd, ey⟩ q
  cases ex
  cases ey
  obtain ⟨o1, xs1, k1, e1, _, e3, rv1, _⟩ := ht c hc
  obtain ⟨o2, xs2, k2, g1, _, g3, rv2, _⟩ := ht d hd
  rw [lt'_eq]
  refine wpS_bind (wpS_get ?_)
  rw [hk]
  refine wpS_bind (wpS_lift (wpAny_attempt (PySem.W.kat_lt e1 e3 g1 g3 ?_)))
  have l1 := rv1.length
  have l2 := rv2.length
  rw [List.length_map] at l1 l2
  exact katlex_ints _ _ _ _ 0 rv1 rv2 (by rw [l1, l2]; simp) ⟨rfl, wpS_pure q⟩
def rfA (x : Keyed) : Addr := match x.1 with
  | .ref b => b
  | _ => 0
def pr2 (b : Addr) : Keyed := (.ref b, .ref b)
theorem perm_pr2 {l : List Keyed} {as : List Addr} (h : l.Perm (as.map pr2)) : ∃ bs : List Addr, bs.Perm as ∧ l = bs.map pr2 := by
  refine ⟨l.map rfA, ?_, ?_⟩
  · have := h.map rfA
    rw [List.map_map] at this
    have e : as.map (rfA ∘ pr2) = as := by
      have : (rfA ∘ pr2) = id := rfl
      rw [this, List.map_id]
    rwa [e] at this
  · rw [List.map_map]
    have : ∀ x ∈ l, (pr2 ∘ rfA) x = x := fun x hx => by
      obtain ⟨b, _, rfl⟩ := List.mem_map.mp (h.mem_iff.mp hx)
      rfl
    rw [List.map_congr_left this]
    simp
theorem tm_sort {P : PySem.Fin → Shared → Prop} {a : Addr} {as : List Addr} {n : Nat} {f : Value → List Int} (ho : s.heap.get? a = some (seqObj "list" (as.map Value.ref).toArray n)) (hz : as.length ≤ 100000)
    (tp : ∀ b ∈ as, b ≠ a ∧ TupAt s.heap f b)
    (h : ∀ (bs : List Addr) (e : Nat) (h' : Heap), bs.Perm as → bs.Pairwise (fun b c => HT.lexLt (f (.ref c)) (f (.ref b)) = false) → (∀ b o, b ≠ a → s.heap.get? b = some o → h'.get? b = some o) → h'.get? a = some (seqObj "list" (bs.map Value.ref).toArray e) → P (.done (.ret .none)) { s with heap := h' }) :
    wpAny (model prog w) A (Builtin.«list.sort» ⟨[.ref a], []⟩) P E s := by
  have ha : a < s.heap.objs.size := Heap.lt_size ho
  have s1 := Heap.SameBut.update s.heap a (Obj.mapSeq fun _ => (#[] : Array Value))
  obtain ⟨e1, ho1⟩ : ∃ e1, (s.heap.update a (Obj.mapSeq fun _ => (#[] : Array Value))).get? a = some (seqObj "list" #[] e1) := ⟨_, get?_update_seq ho fun _ => #[]⟩
  have hl : (as.map Value.ref).length = as.length := List.length_map ..
  rw [list_sort_plain]
  refine wpAny_bind (listItems_at ho rfl ?_)
  refine wpAny_bind (listUpdate_at ho rfl ?_ (by rw [List.size_toArray, hl, sizeLine_eq]; omega) (Nat.zero_le _))
  refine wpAny_bind (seqEpoch_at ho1 rfl ?_)
  refine wpAny_bind (wpAny_newTuple ?_ (by show (as.map Value.ref).length ≤ _; rw [hl, sizeLine_eq]; omega))
  refine wpAny_bind (wpAny_newList ?_ (Nat.zero_le _))
  refine wpAny_holding ?_
  show wpAny (model prog w) A _ P E { s with heap := ((s.heap.update a (Obj.mapSeq fun _ => (#[] : Array Value))).push (seqObj "tuple" (as.map Value.ref).toArray 0)).push (seqObj "list" #[] 0) }
  have keep : ∀ b o, b ≠ a → s.heap.get? b = some o → (((s.heap.update a (Obj.mapSeq fun _ => (#[] : Array Value))).push (seqObj "tuple" (as.map Value.ref).toArray 0)).push (seqObj "list" #[] 0)).get? b = some o := fun b o hb e => Heap.get?_push_of_some _ (Heap.get?_push_of_some _ ((s1.2 b hb).trans e))
  have at3 : (((s.heap.update a (Obj.mapSeq fun _ => (#[] : Array Value))).push (seqObj "tuple" (as.map Value.ref).toArray 0)).push (seqObj "list" #[] 0)).get? a = some (seqObj "list" #[] e1) := Heap.get?_push_of_some _ (Heap.get?_push_of_some _ ho1)
  revert keep at3
  generalize ((s.heap.update a (Obj.mapSeq fun _ => (#[] : Array Value))).push (seqObj "tuple" (as.map Value.ref).toArray 0)).push (seqObj "list" #[] 0) = h3
  intro keep at3
  dsimp only
  have ez : ((as.map Value.ref).toArray.zip (as.map Value.ref).toArray).toList = as.map pr2 := by
    rw [Array.toList_zip]
    show (as.map Value.ref).zip (as.map Value.ref) = _
    rw [List.zip_map', ]
    rfl
  by_cases hn1 : as.length < 2
  · have hn1' : (as.map Value.ref).toArray.size < 2 := by rw [List.size_toArray, hl]; exact hn1
    rw [if_pos hn1', if_pos hn1']
    refine wpAny_bind (wpAny_pure ?_)
    rw [StateT.run_pure]
    refine wpAny_bind (wpAny_pure ?_)
    dsimp only
    have hout : ((as.map Value.ref).toArray.zip (as.map Value.ref).toArray).map (·.2) = (as.map Value.ref).toArray := by
      apply Array.toList_inj.mp
      rw [Array.toList_map, ez, List.map_map]
      rfl
    rw [hout]
    have s2 := Heap.SameBut.update h3 a (Obj.mapSeq fun _ => (as.map Value.ref).toArray)
    obtain ⟨c2, hc2⟩ : ∃ c2, (h3.update a (Obj.mapSeq fun _ => (as.map Value.ref).toArray)).get? a = some (seqObj "list" (as.map Value.ref).toArray c2) := ⟨_, get?_update_seq at3 fun _ => (as.map Value.ref).toArray⟩
    refine wpAny_bind (seqEpoch_at at3 rfl ?_)
    refine wpAny_bind (listUpdate_at at3 rfl ?_ (Nat.zero_le _) (by rw [List.size_toArray, hl, sizeLine_eq]; omega))
    simp only [bne_self_eq_false, Bool.false_eq_true, if_false]
    refine wpAny_pure (h as c2 _ (List.Perm.refl _) ?_ (fun b o hb e => (s2.2 b hb).trans (keep b o hb e)) hc2)
    exact List.pairwise_iff_getElem.mpr fun i j hi hj hij => by omega
  have h2 : 2 ≤ as.length := by omega
  have hn2 : ¬ (as.map Value.ref).toArray.size < 2 := by rw [List.size_toArray, hl]; omega
  rw [if_neg hn2, if_neg hn2]
  have tp3 : ∀ b ∈ as, TupAt h3 f b := fun b hb => by
    obtain ⟨nb, o, xs, k, e1, r⟩ := tp b hb
    exact ⟨o, xs, k, keep b o nb e1, r⟩
  obtain ⟨fs, kt, hfl, hfi⟩ := tup_kats as tp3
  refine wpAny_bind (PySem.W.kat_kind (s := { s with heap := h3 }) (T := .type "int") kt (by omega) (fun v hv => ?_) rfl ?_)
  · obtain ⟨i, t, rfl⟩ := hfi v hv
    exact .now
  have K : TS.Ask (model prog w) A E { s with heap := h3 } (tuples' (Value.type "int" != Value.type "tuple")) (fun x => x.1 = x.2 ∧ ∃ c ∈ as, x.1 = .ref c) (lexR f) := tup_ask (s := { s with heap := h3 }) tp3
  have zs : ((as.map Value.ref).toArray.zip (as.map Value.ref).toArray).size = as.length := by rw [← Array.length_toList, ez, List.length_map]
  have inS : TS.In (fun x => x.1 = x.2 ∧ ∃ c ∈ as, x.1 = .ref c) ((as.map Value.ref).toArray.zip (as.map Value.ref).toArray) := fun k x hx => by
    rw [← Array.getElem?_toList, ez] at hx
    obtain ⟨b, hb, rfl⟩ := List.mem_map.mp (List.mem_of_getElem? hx)
    exact ⟨rfl, b, hb, rfl⟩
  have run := TS.wpS_sortRunsT K (lexR_ord f) (st := SortSt.mk' (tuples' (Value.type "int" != Value.type "tuple")) ((as.map Value.ref).toArray.zip (as.map Value.ref).toArray) #[] 7 none) (Q := fun _ st' => failedOf st' = none ∧ (arrOf st').Perm ((as.map Value.ref).toArray.zip (as.map Value.ref).toArray) ∧ TS.Sl (lexR f) (arrOf st') 0 as.length) rfl inS rfl rfl (by show 1 ≤ ((as.map Value.ref).toArray.zip (as.map Value.ref).toArray).size; rw [zs]; omega) (fun st' b1 b2 b3 => ⟨b1, b2, by have b3 : TS.Sl (lexR f) (arrOf st') 0 ((as.map Value.ref).toArray.zip (as.map Value.ref).toArray).size := b3; rwa [zs] at b3⟩)
  refine wpAny_bind (wpAny_mono run ?_ fun _ _ e => e)
  rintro ⟨⟨⟩, st'⟩ s' ⟨rfl, hf, pm, sl⟩
  dsimp only
  have pml := Array.perm_iff_toList_perm.mp pm
  rw [ez] at pml
  obtain ⟨bs, pb, eb⟩ := perm_pr2 pml
  have hout : (arrOf st').map (·.2) = (bs.map Value.ref).toArray := by
    apply Array.toList_inj.mp
    rw [Array.toList_map, eb, List.map_map]
    rfl
  have lb : bs.length = as.length := pb.length_eq
  rw [hout]
  have s2 := Heap.SameBut.update h3 a (Obj.mapSeq fun _ => (bs.map Value.ref).toArray)
  obtain ⟨c2, hc2⟩ : ∃ c2, (h3.update a (Obj.mapSeq fun _ => (bs.map Value.ref).toArray)).get? a = some (seqObj "list" (bs.map Value.ref).toArray c2) := ⟨_, get?_update_seq at3 fun _ => (bs.map Value.ref).toArray⟩
  refine wpAny_bind (seqEpoch_at at3 rfl ?_)
  refine wpAny_bind (listUpdate_at at3 rfl ?_ (Nat.zero_le _) (by rw [List.size_toArray, List.length_map, lb, sizeLine_eq]; omega))
  rw [hf]
  simp only [bne_self_eq_false, Bool.false_eq_true, if_false]
  refine wpAny_pure (h bs c2 _ pb ?_ (fun b o hb e => (s2.2 b hb).trans (keep b o hb e)) hc2)
  refine List.pairwise_iff_getElem.mpr fun i j hi hj hij => ?_
  have g : ∀ (k : Nat) (hk : k < bs.length), (arrOf st')[k]? = some (pr2 bs[k]) := fun k hk => by
    rw [← Array.getElem?_toList, eb, List.getElem?_map, List.getElem?_eq_getElem hk]; rfl
  exact sl i j _ _ (Nat.zero_le _) (Nat.le_of_lt hij) (by omega) (g i hi) (g j hj)
end
section
variable {X : Cx}
def fOf (as : List Addr) (cs : List (List Int)) (v : Value) : List Int := match v with
  | .ref a => ((as.zip cs).lookup a).getD []
  | _ => []
theorem fOf_at {H : Hp} {as : List Addr} {cs : List (List Int)} (ht : Tups H as cs) : ∀ b ∈ as, H b = some (.tup ((fOf as cs (.ref b)).map V.int)) ∧ fOf as cs (.ref b) ∈ cs := fun b hb => by
  unfold fOf
  have key : ∀ {as : List Addr} {cs : List (List Int)}, Tups H as cs → b ∈ as → ∃ c, (as.zip cs).lookup b = some c ∧ H b = some (.tup (c.map V.int)) ∧ c ∈ cs := by
    intro as cs ht
    induction ht with
    | nil => intro h; cases h
    | @cons a c as cs h t ih =>
      intro hb
      rw [List.zip_cons_cons, List.lookup_cons]
      by_cases e : b = a
      · subst e
        exact ⟨c, by simp, h, List.mem_cons_self⟩
      · have : (b == a) = false := by simpa using e
        rw [this]
        rcases List.mem_cons.mp hb with z | z
        · exact absurd z e
        · obtain ⟨c', h1, h2, h3⟩ := ih z
          exact ⟨c', h1, h2, List.mem_cons_of_mem _ h3⟩
  obtain ⟨c, h1, h2, h3⟩ := key ht hb
  dsimp only
  rw [h1]
  exact ⟨h2, h3⟩
theorem fOf_map {H : Hp} {as : List Addr} {cs : List (List Int)} (ht : Tups H as cs) : as.map (fun b => fOf as cs (.ref b)) = cs := by
  have key := fOf_at ht
  generalize fOf as cs = g at key
  induction ht with
  | nil => rfl
  | @cons a c as cs h t ih =>
    have e := (key a List.mem_cons_self).1
    rw [h] at e
    have : c = g (.ref a) := map_int_inj (by injection e with e; injection e)
    rw [List.map_cons, ← this]
    congr 1
    refine ih fun b hb => ⟨(key b (List.mem_cons_of_mem _ hb)).1, ?_⟩
    have e2 := (key b (List.mem_cons_of_mem _ hb)).1
    obtain ⟨i, hi⟩ := List.mem_iff_getElem?.mp hb
    obtain ⟨c', ec, g'⟩ := Tups.at t hi
    rw [g'] at e2
    have : c' = g (.ref b) := map_int_inj (by injection e2 with e2; injection e2)
    rw [← this]
    exact List.mem_of_getElem? ec
theorem tups_f {H : Hp} {g : Value → List Int} : ∀ {bs : List Addr}, (∀ b ∈ bs, H b = some (.tup ((g (.ref b)).map V.int))) → Tups H bs (bs.map fun b => g (.ref b))
  | [], _ => .nil
  | b :: bs, h => .cons (h b List.mem_cons_self) (tups_f fun c hc => h c (List.mem_cons_of_mem _ hc))
theorem call_sortedL (hcm : X.calm = true) : CallR X (.builtin "sorted") (fun xs H Q => ∃ (p : Addr) (kvs : List (List Key × V)) (cs : List (List Int)), xs = [.ref p] ∧ H p = some (.dT kvs) ∧ kvs.map (·.1) = cs.map (fun c => c.map Sum.inl) ∧ (∀ c ∈ cs, c ≠ []) ∧ cs.length ≤ 1000 ∧
    ∀ l bs ds, H l = none → Tups H bs ds → ds.Perm cs → ds.Pairwise (fun c d => HT.lexLt d c = false) → Q (.ref l) (upd H l (.lst (bs.map V.ref)))) := by
  intro pins s σ H xs us Q I r h
  obtain ⟨p, kvs, cs, rfl, e, hk, hne, hmx, q⟩ := h
  obtain ⟨u, rfl, rx⟩ := vals1 r
  cases rx
  obtain ⟨o, I1, hgo⟩ := I.freeze e trivial
  obtain ⟨hS, hod, hc, es, ep, hdd, hz, hall⟩ := raw_of I1.hok upd_same trivial
  have hkl : kvs.length = cs.length := by have := congrArg List.length hk; simpa using this
  have hes : es.size = cs.length := by rw [← hkl]; exact hz
  obtain ⟨m, hm, _⟩ := id I.loc
  refine PySem.W.kdu_sorted (rk_src hS) (I.ok.hd hcm) (Att.fr_all hm) news_all ⟨o, hod, hc, hdd⟩ (by rw [hes, sizeLine_eq]; omega) fun D h' tk vs F' N' hD hlen hP => ?_
  obtain ⟨as, rfl, ht⟩ : ∃ as : List Addr, vs = as.map Value.ref ∧ Tups H as cs := by
    refine pick_as (by rw [hlen, hes]) fun i v c hv hcv => ?_
    obtain ⟨hi, rfl⟩ := hP i v hv
    obtain ⟨x, y, hka, r1, r2⟩ := hall i hi
    obtain ⟨kk, a, h1, h2, h3⟩ := hka
    have h4 : (kvs.map (·.1))[i]? = some kk := by rw [List.getElem?_map, h1]; rfl
    rw [hk, List.getElem?_map, hcv] at h4
    have h5 := Option.some.inj h4
    subst h2
    refine ⟨a, r1, ?_⟩
    have hap : a ≠ p := fun z => by rw [z, upd_same] at h3; cases h3
    rw [upd_ne hap, ← h5, kV_ints] at h3
    exact h3
  have hal : as.length = cs.length := Paired.length ht
  have k0 : ∀ b u, b ≠ X.env.locals → s.heap.get? b = some u → h'.get? b = some u := fun b u hb e => (N' (b, u) (List.mem_cons_of_mem _ (mem_allNews hb (Att.noObjs_get _ _) e))).1
  have nD := N' (D, _) List.mem_cons_self
  have hDn : s.heap.get? D = none := by
    cases e : s.heap.get? D with
    | none => rfl
    | some u => exact absurd (hD (D, u) (mem_allNews nD.2.1 (Att.noObjs_get _ _) e)) (Nat.lt_irrefl _)
  have fa := fOf_at ht
  refine wpAny_call_entry PyProof.Rows.slot_list_sort ⟨_, nD.1, rfl⟩ PyProof.Rows.entry_list_sort (tm_sort (s := { s with heap := h', toks := tk }) (as := as) (f := fOf as cs) nD.1 (by omega) (fun b hb => ?_) fun bs e1 h2 pb pw kp hD2 => ?_) (PyProof.Rows.args_list_sort _)
  · have g := (fa b hb).1
    have hbL : b ≠ X.env.locals := fun z => by rw [z, I.free] at g; cases g
    obtain ⟨_, its, rv, ob, hob, hcb, n, hdb⟩ := (show ObjOk X.prog X.w H s.heap b (.tup ((fOf as cs (.ref b)).map V.int)) from I.hok b _ g)
    have nbD : b ≠ D := fun z => by rw [z, hDn] at hob; cases hob
    refine ⟨nbD, ob, its.toArray, n, k0 b ob hbL hob, hcb, hdb, by simpa using rv, hne _ (fa b hb).2⟩
  · refine ⟨_, rfl, ?_⟩
    have I' : Inv X pins σ (upd H D (.lst (bs.map V.ref))) { s with heap := h2, toks := tk } := by
      refine I.laidN (fun b u hb e => ?_) (fun m' hm' => ?_) hDn ?_
      · exact kp b u (fun z => by rw [z, hDn] at e; cases e) (k0 b u hb e)
      · have : m' = m := ns_inj hm' hm
        rw [this]
        obtain ⟨oL, es', ep', e', r'⟩ := F'.ns
        exact ⟨oL, es', ep', kp _ _ nD.2.1.symm e', r'⟩
      · refine ⟨?_, _, _, vals_of_refs _, hD2⟩
        rw [List.length_map, pb.length_eq, hal]
        exact Nat.le_trans hmx (by decide)
    have tb : ∀ b ∈ bs, H b = some (.tup ((fOf as cs (.ref b)).map V.int)) := fun b hb => (fa b (pb.mem_iff.mp hb)).1
    refine ⟨.ref D, _, I', rfl, q D bs _ (I.hok.none_of hDn) (tups_f tb) ?_ ?_⟩
    · have := pb.map fun b => fOf as cs (.ref b)
      rwa [fOf_map ht] at this
    · exact List.pairwise_map.mpr pw
theorem Room.lt {k : Nat} {A : Around} (r : Room k A) : A.units < cLine := by have := r.un; omega
theorem op_isB : OpR X (compareOp .Is) (fun x y H Q => ∃ b, y = .bl b ∧ ((∃ a, x = .bl a ∧ Q (.bl (a == b)) H) ∨ ∃ i, x = .int i ∧ Q (.bl false) H)) := by
  intro pins s σ H x y v u Q I rx ry h
  obtain ⟨b, rfl, ⟨a, rfl, q⟩ | ⟨i, rfl, q⟩⟩ := h
  · cases rx
    cases ry
    exact is_bool (fin_bl I q rfl)
  · obtain ⟨t, rfl⟩ := rx
    cases ry
    exact wpAny_pure (a := Value.bool false) (fin_bl I q rfl)
theorem op_isnotB : OpR X (compareOp .IsNot) (fun x y H Q => ∃ b, y = .bl b ∧ ((∃ a, x = .bl a ∧ Q (.bl (a != b)) H) ∨ ∃ i, x = .int i ∧ Q (.bl true) H)) := by
  intro pins s σ H x y v u Q I rx ry h
  obtain ⟨b, rfl, ⟨a, rfl, q⟩ | ⟨i, rfl, q⟩⟩ := h
  · cases rx
    cases ry
    exact isnot_bool (fin_bl I q rfl)
  · obtain ⟨t, rfl⟩ := rx
    cases ry
    exact wpAny_pure (a := Value.bool true) (fin_bl I q rfl)
end
end L2
namespace K16
open PySem L2
def top (i : Nat) : Stmt := PySem.Challenge.pw_wirefloor_k16_boxes_and_runs.main.body.getD i (.Pass ⟨0, 0, 0, 0⟩)
abbrev sBtw : Stmt := top 1
abbrev sBox : Stmt := top 2
abbrev sGoes : Stmt := top 3
abbrev sRuns : Stmt := top 4
abbrev sWhole : Stmt := top 6
abbrev sCell : Stmt := top 7
abbrev sSpotL : Stmt := top 8
abbrev sBoxG : Stmt := top 9
abbrev sMarks : Stmt := top 10
abbrev sMarked : Stmt := top 11
abbrev sRunG : Stmt := top 12
abbrev slaw : Stmt := top 13
structure Txt (K : PySem.W.Frag) (mg : Str → Option Value) : Prop where
  len_ : mg "len" = none
  range_ : mg "range" = none
  isinstance_ : mg "isinstance" = none
  int_ : mg "int" = none
  bool_ : mg "bool" = none
  tuple_ : mg "tuple" = none
  list_ : mg "list" = none
  min_ : mg "min" = none
  max_ : mg "max" = none
  abs_ : mg "abs" = none
  sorted_ : mg "sorted" = none
  ii : PySem.W.kitOne K (.type "int") (.type "int") = some true
  ib : PySem.W.kitOne K (.type "int") (.type "bool") = some false
  tt : PySem.W.kitOne K (.type "tuple") (.type "tuple") = some true
  ll : PySem.W.kitOne K (.type "list") (.type "list") = some true
abbrev T3 := List Int
def iK (x : T3) : List Key := x.map Sum.inl
theorem iK_inj {x y : T3} (h : iK x = iK y) : x = y := by
  have := congrArg (List.map kV) h
  unfold iK at this
  rw [kV_ints, kV_ints] at this
  exact map_int_inj this
theorem iK_at {H : Hp} {b : Addr} {x : T3} (h : H b = some (.tup (x.map V.int))) : H b = some (.tup ((iK x).map kV)) := by unfold iK; rw [kV_ints]; exact h
theorem iK_back {H : Hp} {b : Addr} {x : T3} (h : H b = some (.tup ((iK x).map kV))) : H b = some (.tup (x.map V.int)) := by unfold iK at h; rw [kV_ints] at h; exact h
theorem dg {H : Hp} {d b : Addr} {kvs : List (List Key × V)} {x : T3} (hd : Rd H d (.dT kvs)) (hb : H b = some (.tup (x.map V.int))) : DGet H d (.ref b) (valV kvs (iK x)) := .inr ⟨kvs, iK x, b, hd, rfl, iK_at hb, rfl⟩
theorem same_at {H0 H' : Hp} {D : Addr} {y : HO} (s : Same H0 H') (nD : H0 D = none) : Same H0 (upd H' D y) := fun b u e => by
  rw [upd_ne (ne_of_none e nD)]; exact s _ _ e
section
variable {tc : TT} {t u : TS} {te ta tb td ty : TE} {D : Ends} {σ : St} {H : Hp} {a d : Addr} {y v : V} {o : Option V} {K : PySem.W.Frag}
theorem et_of {b c : Bool} (h : EvT tc σ H b) (e : b = c) : EvT tc σ H c := e ▸ h
theorem ev_of {c : V} (h : Ev te σ H v) (e : v = c) : Ev te σ H c := e ▸ h
theorem te_tup {tl : TA} {vs : List V} {Q : VK} (h : EvA tl σ H vs) (hz : vs.length ≤ sizeLine) (q : ∀ p, H p = none → Q (.ref p) (upd H p (.tup vs))) : tTup tl σ H Q := h _ ⟨hz, q⟩
theorem te_lst {tl : TA} {vs : List V} {Q : VK} (h : EvA tl σ H vs) (hz : vs.length ≤ sizeLine) (q : ∀ p, H p = none → Q (.ref p) (upd H p (.lst vs))) : tLst tl σ H Q := h _ ⟨hz, q⟩
theorem te_cal {sp : Sp} {tl : TA} {vs : List V} {Q : VK} (h : EvA tl σ H vs) (q : sp vs H Q E0) : tCall sp [] E0 tl σ H Q := h _ (by rw [List.append_nil]; exact q)
end
theorem tups_app {H : Hp} : ∀ {as bs : List Addr} {cs ds : List T3}, Tups H as cs → Tups H bs ds → Tups H (as ++ bs) (cs ++ ds)
  | _, _, _, _, .nil, t => t
  | _, _, _, _, .cons h s, t => .cons h (tups_app s t)
theorem valV_mem {kvs : List (List Key × V)} (nd : (kvs.map (·.1)).Nodup) {p : List Key × V} (h : p ∈ kvs) : valV kvs p.1 = some p.2 := by
  induction kvs with
  | nil => cases h
  | cons q r ih =>
    rw [List.map_cons, List.nodup_cons] at nd
    rcases List.mem_cons.mp h with rfl | h
    · exact valV_pos rfl
    · rw [valV_neg (fun e => nd.1 (e ▸ List.mem_map.mpr ⟨p, h, rfl⟩))]
      exact ih nd.2 h
theorem keys_putK {κ : Type} [DecidableEq κ] (kvs : List (κ × V)) (k : κ) (v : V) : (putK kvs k v).map (·.1) = if (valV kvs k).isSome = true then kvs.map (·.1) else kvs.map (·.1) ++ [k] := by
  cases e : valV kvs k with
  | none => rw [putK_new _ e, List.map_append]; rfl
  | some w =>
    have : (kvs.any fun kv => decide (kv.1 = k)) = true := by rw [valV_any, e]; rfl
    unfold putK
    rw [if_pos this, List.map_map]
    show _ = kvs.map (·.1)
    refine List.map_congr_left fun p _ => ?_
    show (if p.1 = k then (p.1, v) else p).1 = p.1
    split <;> rfl
theorem nd_put {kvs : List (List Key × V)} {k : List Key} {v : V} (h : (kvs.map (·.1)).Nodup) : ((putK kvs k v).map (·.1)).Nodup := by
  cases e : valV kvs k with
  | none => exact nd_putK v h e
  | some u => rw [keys_putK, if_pos (by rw [e]; rfl)]; exact h
theorem valV_key {kvs : List (List Key × V)} {k : List Key} : (valV kvs k).isSome = true ↔ k ∈ kvs.map (·.1) := by
  rw [← valV_any]
  simp
theorem te_nest {sp sp2 : Sp} {tl tr : TA} {σ : St} {H : Hp} {Q : VK} (h : tCall sp [] E0 tl σ H (fun v H1 => tr σ H1 fun vs H2 => sp2 ((v :: vs) ++ []) H2 Q E0)) : tCall sp2 [] E0 (tCons (tCall sp [] E0 tl) tr) σ H Q := h
theorem sq_rng1 {ta : TA} {j : Int} {g : TG} {tb u : TS} {D : Ends} {σ : St} {H : Hp} (h : EvA ta σ H [.int j]) (h1 : -(2 ^ 62) ≤ j) (h2 : j < 2 ^ 62) (q : tFor (fun _ H R => R (Itr 0 j.toNat) H) g tb { D with nx := u D } σ H) : tSeq (tFor (iRng1 ta) g tb) u D σ H := h _ ⟨j, rfl, h1, h2, q⟩
theorem rd_rng1 {ta : TA} {j : Int} {g : TG} {tb : TS} {D : Ends} {σ : St} {H : Hp} (h : EvA ta σ H [.int j]) (h1 : -(2 ^ 62) ≤ j) (h2 : j < 2 ^ 62) (q : tFor (fun _ H R => R (Itr 0 j.toNat) H) g tb D σ H) : tFor (iRng1 ta) g tb D σ H := h _ ⟨j, rfl, h1, h2, q⟩
theorem sq_rng2 {ta : TA} {i j : Int} {g : TG} {tb u : TS} {D : Ends} {σ : St} {H : Hp} (h : EvA ta σ H [.int i, .int j]) (h1 : -(2 ^ 62) ≤ i ∧ i < 2 ^ 62 ∧ -(2 ^ 62) ≤ j ∧ j < 2 ^ 62) (q : tFor (fun _ H R => R (Itr i (j - i).toNat) H) g tb { D with nx := u D } σ H) : tSeq (tFor (iRng2 ta) g tb) u D σ H := h _ ⟨i, j, rfl, h1, q⟩
theorem ev_notV {ta : TE} {σ : St} {H : Hp} {a : Bool} (ha : Ev ta σ H (.bl a)) : Ev (tNotV ta) σ H (.bl (!a)) := fun _ q => ha _ ⟨a, rfl, q⟩
theorem sq_forC {K : PySem.W.Frag} {sp : Sp} {tl : TA} {vs : List V} {g : TG} {tb u : TS} {D : Ends} {σ : St} {H : Hp} (h : EvA tl σ H vs) (q : sp vs H (fun x H1 => ∃ a, x = .ref a ∧ (∃ xs, SqL K H1 a xs) ∧ tFor (fun _ H R => R (Itl K a) H) g tb { D with nx := u D } σ H1) E0) : tSeq (tFor (iList K (tCall sp [] E0 tl)) g tb) u D σ H := h _ (by rw [List.append_nil]; exact q)
theorem rd_forC {K : PySem.W.Frag} {sp : Sp} {tl : TA} {vs : List V} {g : TG} {tb : TS} {D : Ends} {σ : St} {H : Hp} (h : EvA tl σ H vs) (q : sp vs H (fun x H1 => ∃ a, x = .ref a ∧ (∃ xs, SqL K H1 a xs) ∧ tFor (fun _ H R => R (Itl K a) H) g tb D σ H1) E0) : tFor (iList K (tCall sp [] E0 tl)) g tb D σ H := h _ (by rw [List.append_nil]; exact q)
def MVal (pl : Bool) (v : V) : Prop := if pl = true then v = .bl true else ∃ j, v = .int j
theorem mn_if (i j : Int) : (if j < i then j else i) = min i j := by simp only [Int.min_def]; split <;> split <;> omega
theorem mx_if (i j : Int) : (if j > i then j else i) = max i j := by simp only [Int.max_def]; split <;> split <;> omega
theorem scal_m {pl : Bool} {v w : V} (h1 : MVal pl v) (h2 : MVal pl w) : scal v w = true := by
  unfold MVal at h1 h2
  cases pl with
  | true =>
    rw [if_pos rfl] at h1 h2
    subst h1 h2
    rfl
  | false =>
    rw [if_neg (by simp)] at h1 h2
    obtain ⟨i, rfl⟩ := h1
    obtain ⟨j, rfl⟩ := h2
    rfl
theorem ev_cal {sp : Sp} {tl : TA} {vs : List V} {v : V} {σ : St} {H : Hp} (h : EvA tl σ H vs) (q : ∀ Q : VK, Q v H → sp vs H Q E0) : Ev (tCall sp [] E0 tl) σ H v := fun Q z => h _ (by rw [List.append_nil]; exact q Q z)
theorem ev_isM {ta : TE} {σ : St} {H : Hp} {v : V} {pl : Bool} (ha : Ev ta σ H v) (hv : MVal pl v) : Ev (tOp (fun x y H Q => ∃ b, y = V.bl b ∧ ((∃ a, x = V.bl a ∧ Q (V.bl (a == b)) H) ∨ ∃ i, x = V.int i ∧ Q (V.bl false) H)) ta (tC (.bl true))) σ H (.bl pl) := fun Q q => ha _ (ev_c _ (by
  unfold MVal at hv
  cases pl with
  | true => rw [if_pos rfl] at hv; exact ⟨true, rfl, .inl ⟨true, hv, q⟩⟩
  | false => rw [if_neg (by simp)] at hv; obtain ⟨j, rfl⟩ := hv; exact ⟨true, rfl, .inr ⟨j, rfl, q⟩⟩))
theorem ev_isnM {ta : TE} {σ : St} {H : Hp} {v : V} {pl : Bool} (ha : Ev ta σ H v) (hv : MVal pl v) : Ev (tOp (fun x y H Q => ∃ b, y = V.bl b ∧ ((∃ a, x = V.bl a ∧ Q (V.bl (a != b)) H) ∨ ∃ i, x = V.int i ∧ Q (V.bl true) H)) ta (tC (.bl true))) σ H (.bl (!pl)) := fun Q q => ha _ (ev_c _ (by
  unfold MVal at hv
  cases pl with
  | true => rw [if_pos rfl] at hv; exact ⟨true, rfl, .inl ⟨true, hv, q⟩⟩
  | false => rw [if_neg (by simp)] at hv; obtain ⟨j, rfl⟩ := hv; exact ⟨true, rfl, .inr ⟨j, rfl, q⟩⟩))
theorem ev_neS {ta tb : TE} {σ : St} {H : Hp} {x : V} (ha : Ev ta σ H x) (hb : Ev tb σ H x) (s : scal x x = true) : Ev (tOp rNe ta tb) σ H (.bl false) := fun Q q => ha _ (hb _ ⟨s, by rw [decide_eq_true rfl]; exact q⟩)
theorem te_mark {sp : Sp} {tl : TA} {te : TE} {n : Nat} {vs : List V} {e : Addr} {v : V} {σ : St} {H : Hp} {Q : VK} (h0 : σ[n]? = some (some (.ref e))) (h : EvA tl σ H vs) (hz : vs.length ≤ sizeLine) (hv : ∀ p, H p = none → Ev te σ (upd H p (.tup vs)) v)
    (q : ∀ p, H p = none → sp [.ref e, .ref p, v] (upd H p (.tup vs)) Q E0) : tCall sp [] E0 (tCons (tVar n) (tCons (tTup tl) (tCons te tNil))) σ H Q :=
  ⟨_, h0, h _ ⟨hz, fun p np => hv p np _ (by show sp ([_, _, _] ++ []) _ _ _; exact q p np)⟩⟩
theorem te_op {r : R2} {ta tb : TE} {σ : St} {H : Hp} {Q : VK} (h : ta σ H fun x H1 => tb σ H1 fun y H2 => r x y H2 Q) : tOp r ta tb σ H Q := h
theorem rd_asg0 {te : TE} {n : Nat} {D : Ends} {σ : St} {H : Hp} (q : te σ H fun v H1 => D.nx (σ.set n (some v)) H1) : tAsg te (gName n) D σ H := q
theorem cut_int (ns : List Int) (lo hi : Option Int) : ∃ cs : List Int, cutV (ns.map V.int) lo hi = cs.map V.int ∧ cs.length ≤ ns.length := by
  have h := cutV_length (ns.map V.int) lo hi
  unfold cutV at h ⊢
  rw [← List.map_drop, ← List.map_take] at h ⊢
  exact ⟨_, rfl, by simp only [List.length_map] at h ⊢; exact h⟩
theorem sq_rng3 {ta : TA} {i j k : Int} {g : TG} {tb u : TS} {D : Ends} {σ : St} {H : Hp} (h : EvA ta σ H [.int i, .int j, .int k]) (h1 : -(2 ^ 60) ≤ i ∧ i < 2 ^ 60 ∧ -(2 ^ 60) ≤ j ∧ j < 2 ^ 60 ∧ 0 < k ∧ k < 1000000) (q : tFor (fun _ H R => R (Itrs i k (rngN i j k)) H) g tb { D with nx := u D } σ H) : tSeq (tFor (iRng3 ta) g tb) u D σ H := h _ ⟨i, j, k, rfl, h1, q⟩
structure MkN (pl : Bool) (n : Nat) (kvs : List (List Key × V)) : Prop where
  nd : (kvs.map (·.1)).Nodup
  sp : ∀ p ∈ kvs, ∃ x : Int × Int × Int, p.1 = iK [x.1, x.2.1, x.2.2] ∧ (0 ≤ x.1 ∧ x.1 < 2 ^ 60) ∧ (0 ≤ x.2.1 ∧ x.2.1 < 2 ^ 60) ∧ (0 ≤ x.2.2 ∧ x.2.2 < 2 ^ 60)
  vl : ∀ p ∈ kvs, MVal pl p.2
  ln : kvs.length ≤ n
theorem put_val {kvs : List (List Key × V)} {k : List Key} {v : V} {p : List Key × V} (h : p ∈ putK kvs k v) : p ∈ kvs ∨ p = (k, v) := by
  cases e : valV kvs k with
  | none => rw [putK_new _ e] at h; exact (List.mem_append.mp h).imp id List.mem_singleton.mp
  | some w =>
    have : (kvs.any fun kv => decide (kv.1 = k)) = true := by rw [valV_any, e]; rfl
    unfold putK at h
    rw [if_pos this] at h
    obtain ⟨q, hq, rfl⟩ := List.mem_map.mp h
    by_cases z : q.1 = k
    · rw [if_pos z]; right; rw [z]
    · rw [if_neg z]; exact .inl hq
theorem MkN.put {pl : Bool} {n : Nat} {kvs : List (List Key × V)} (h : MkN pl n kvs) {a b c : Int} {v : V} (ha : 0 ≤ a ∧ a < 2 ^ 60) (hb : 0 ≤ b ∧ b < 2 ^ 60) (hc : 0 ≤ c ∧ c < 2 ^ 60) (hv : MVal pl v) : MkN pl (n + 1) (putK kvs (iK [a, b, c]) v) where
  nd := nd_put h.nd
  sp := fun p hp => (put_val hp).elim (h.sp p) fun e => ⟨(a, b, c), by rw [e], ha, hb, hc⟩
  vl := fun p hp => (put_val hp).elim (h.vl p) fun e => by rw [e]; exact hv
  ln := Nat.le_trans (length_putK _ _ _) (by have := h.ln; omega)
def spCell (K : PySem.W.Frag) : Sp := fun vs H Q _ => ∃ (a : Addr) (ns : List Int) (i : Int), vs = [.ref a, .int i] ∧ SqL K H a (ns.map V.int) ∧ 0 ≤ i ∧ ∀ v : Int, Q (.int v) H
def spWhole : Sp := fun vs H Q _ => ∃ i : Int, vs = [.int i] ∧ Q (.bl true) H
def spSpotL : Sp := fun vs H Q _ => ∃ (b : Addr) (x y z : Int), vs = [.ref b] ∧ H b = some (.tup [.int x, .int y, .int z]) ∧ Q (.bl true) H
def upL (a b : Int) : List Int := (List.range (b - a + 1).toNat).map fun k => a + (k : Nat)
def spBtw : Sp := fun vs H Q _ => ∃ a b : Int, vs = [.int a, .int b] ∧ -(2 ^ 61) ≤ a ∧ a < 2 ^ 61 ∧ -(2 ^ 61) ≤ b ∧ b < 2 ^ 61 ∧ max a b - min a b ≤ 1000 ∧ ∀ (l : Addr) (H' : Hp), Same H H' → H l = none → H' l = some (.lst ((upL (min a b) (max a b)).map V.int)) → Q (.ref l) H'
def boxL (f s : Int × Int × Int) : List (List Int) := (upL (min f.1 s.1) (max f.1 s.1)).flatMap fun a => (upL (min f.2.1 s.2.1) (max f.2.1 s.2.1)).flatMap fun b => (upL (min f.2.2 s.2.2) (max f.2.2 s.2.2)).map fun c => [a, b, c]
def Sb (l : Addr) (H H' : Hp) : Prop := ∀ b o, b ≠ l → H b = some o → H' b = some o
theorem Sb.refl (l : Addr) (H : Hp) : Sb l H H := fun _ _ _ h => h
theorem Sb.trans {l : Addr} {H H1 H2 : Hp} (a : Sb l H H1) (b : Sb l H1 H2) : Sb l H H2 := fun c o n h => b c o n (a c o n h)
theorem Sb.of {l : Addr} {H H' : Hp} (s : Same H H') : Sb l H H' := fun b o _ h => s b o h
theorem Sb.set {l : Addr} {H H' : Hp} {y : HO} (s : Sb l H H') : Sb l H (upd H' l y) := fun b o n h => by rw [upd_ne n]; exact s b o n h
theorem Sb.same {l : Addr} {H H' : Hp} (s : Sb l H H') (n : H l = none) : Same H H' := fun b o h => s b o (ne_of_none h n) h
theorem Sb.tups {l : Addr} {H H' : Hp} {zs : List V} (s : Sb l H H') (hl : H l = some (.lst zs)) {bs : List Addr} {cs : List T3} (h : Tups H bs cs) : Tups H' bs cs :=
  Paired.mapP h fun b c z => s b _ (ne_of z hl (by intro e; cases e)) z
theorem int_at {xs : List Int} {i : Nat} {x : V} (h : (xs.map V.int)[i]? = some x) : ∃ j, x = .int j ∧ xs[i]? = some j := by
  rw [List.getElem?_map] at h
  cases e : xs[i]? with
  | none => rw [e] at h; cases h
  | some j => rw [e] at h; exact ⟨j, (Option.some.inj h).symm, rfl⟩
theorem take_one {α : Type} {xs : List α} {i : Nat} {x : α} (h : xs[i]? = some x) : xs.take (i + 1) = xs.take i ++ [x] := by rw [List.take_succ, h]; rfl
theorem upL_len (a b : Int) : (upL a b).length = (b - a + 1).toNat := by unfold upL; simp
theorem upL_at {a b : Int} {i : Nat} {x : Int} (h : (upL a b)[i]? = some x) : x = a + (i : Nat) ∧ i < (b - a + 1).toNat := by
  have hi := (List.getElem?_eq_some_iff.mp h).1
  rw [upL_len] at hi
  unfold upL at h
  rw [List.getElem?_map, List.getElem?_range hi] at h
  exact ⟨(Option.some.inj h).symm, hi⟩
def rowL (f s : Int × Int × Int) (a b : Int) : List T3 := (upL (min f.2.2 s.2.2) (max f.2.2 s.2.2)).map fun c => [a, b, c]
def layL (f s : Int × Int × Int) (a : Int) : List T3 := (upL (min f.2.1 s.2.1) (max f.2.1 s.2.1)).flatMap fun b => rowL f s a b
theorem boxL_eq (f s : Int × Int × Int) : boxL f s = (upL (min f.1 s.1) (max f.1 s.1)).flatMap fun a => layL f s a := rfl
def cp (g : Int × Int × Int) (k : Nat) : Int := if k = 0 then g.1 else if k = 1 then g.2.1 else g.2.2
theorem cp_at {g : Int × Int × Int} {k : Nat} (hk : k < 3) : atI [V.int g.1, V.int g.2.1, V.int g.2.2] ((0 : Int) + (k : Nat)) = some (.int (cp g k)) := by
  match k, hk with
  | 0, _ => rfl
  | 1, _ => rfl
  | 2, _ => rfl
def wd (f s : Int × Int × Int) (k : Nat) : Int := 1 + (max (cp f k) (cp s k) - min (cp f k) (cp s k))
def prd (f s : Int × Int × Int) : Nat → Int
  | 0 => 1
  | k + 1 => prd f s k * wd f s k
theorem len_flat {α β : Type} {g : α → List β} {k : Nat} (h : ∀ x, (g x).length = k) : ∀ xs : List α, (xs.flatMap g).length = xs.length * k
  | [] => by simp
  | x :: xs => by rw [List.flatMap_cons, List.length_append, h, len_flat h xs, List.length_cons, Nat.succ_mul, Nat.add_comm]
theorem boxL_len (f s : Int × Int × Int) : ((boxL f s).length : Int) = prd f s 3 := by
  have e1 : ∀ a b, (rowL f s a b).length = (max f.2.2 s.2.2 - min f.2.2 s.2.2 + 1).toNat := fun a b => by unfold rowL; rw [List.length_map, upL_len]
  have e2 : ∀ a, (layL f s a).length = (max f.2.1 s.2.1 - min f.2.1 s.2.1 + 1).toNat * (max f.2.2 s.2.2 - min f.2.2 s.2.2 + 1).toNat := fun a => by unfold layL; rw [len_flat (e1 a), upL_len]
  rw [boxL_eq, len_flat e2, upL_len]
  show _ = 1 * (1 + (max f.1 s.1 - min f.1 s.1)) * (1 + (max f.2.1 s.2.1 - min f.2.1 s.2.1)) * (1 + (max f.2.2 s.2.2 - min f.2.2 s.2.2))
  rw [Int.natCast_mul, Int.natCast_mul, Int.toNat_of_nonneg (by omega), Int.toNat_of_nonneg (by omega), Int.toNat_of_nonneg (by omega), Int.one_mul, Int.mul_assoc, Int.add_comm _ 1, Int.add_comm _ 1, Int.add_comm _ 1]
theorem upL_mem {a b x : Int} (h : x ∈ upL a b) : a ≤ x ∧ x ≤ b := by
  obtain ⟨i, hi⟩ := List.getElem?_of_mem h
  obtain ⟨e, l⟩ := upL_at hi
  omega
theorem boxL_mem {f s : Int × Int × Int} {c : T3} (h : c ∈ boxL f s) : ∃ g : Int × Int × Int, c = [g.1, g.2.1, g.2.2] ∧ ∀ k, min (cp f k) (cp s k) ≤ cp g k ∧ cp g k ≤ max (cp f k) (cp s k) := by
  rw [boxL_eq] at h
  obtain ⟨x, hx, h⟩ := List.mem_flatMap.mp h
  obtain ⟨y, hy, h⟩ := List.mem_flatMap.mp h
  obtain ⟨z, hz, rfl⟩ := List.mem_map.mp h
  refine ⟨(x, y, z), rfl, fun k => ?_⟩
  unfold cp
  by_cases e : k = 0
  · simp only [if_pos e]; exact upL_mem hx
  · simp only [if_neg e]
    by_cases e' : k = 1
    · simp only [if_pos e']; exact upL_mem hy
    · simp only [if_neg e']; exact upL_mem hz
theorem upL_srt (a b : Int) : (upL a b).Pairwise (· < ·) := by
  unfold upL
  rw [List.pairwise_map]
  exact List.Pairwise.imp (fun h => by omega) List.pairwise_lt_range
theorem lex3 {x y z x' y' z' : Int} : HT.lexLt [x, y, z] [x', y', z'] = true ↔ x < x' ∨ (x = x' ∧ (y < y' ∨ (y = y' ∧ z < z'))) := by
  simp only [HT.lexLt_cons, HT.lexLt_nil_nil]
  by_cases e1 : x = x'
  · rw [if_pos e1]
    by_cases e2 : y = y'
    · rw [if_pos e2]
      by_cases e3 : z = z'
      · rw [if_pos e3]; simp; omega
      · rw [if_neg e3]; simp; omega
    · rw [if_neg e2]; simp; omega
  · rw [if_neg e1]; simp; omega
theorem boxL_srt (f s : Int × Int × Int) : (boxL f s).Pairwise fun c d => HT.lexLt c d = true := by
  rw [boxL_eq, List.pairwise_flatMap]
  refine ⟨fun x _ => ?_, (upL_srt _ _).imp fun {x x'} hx c hc d hd => ?_⟩
  · unfold layL
    rw [List.pairwise_flatMap]
    refine ⟨fun y _ => ?_, (upL_srt _ _).imp fun {y y'} hy c hc d hd => ?_⟩
    · unfold rowL
      rw [List.pairwise_map]
      exact (upL_srt _ _).imp fun h => lex3.mpr (.inr ⟨rfl, .inr ⟨rfl, h⟩⟩)
    · obtain ⟨z, _, rfl⟩ := List.mem_map.mp hc
      obtain ⟨z', _, rfl⟩ := List.mem_map.mp hd
      exact lex3.mpr (.inr ⟨rfl, .inl hy⟩)
  · obtain ⟨y, _, hc⟩ := List.mem_flatMap.mp hc
    obtain ⟨y', _, hd⟩ := List.mem_flatMap.mp hd
    obtain ⟨z, _, rfl⟩ := List.mem_map.mp hc
    obtain ⟨z', _, rfl⟩ := List.mem_map.mp hd
    exact lex3.mpr (.inl hx)
theorem pw_next {α : Type} {R : α → α → Prop} {xs : List α} (h : xs.Pairwise R) {i : Nat} {x y : α} (h1 : xs[i]? = some x) (h2 : xs[i + 1]? = some y) : R x y := by
  obtain ⟨a1, e1⟩ := List.getElem?_eq_some_iff.mp h1
  obtain ⟨a2, e2⟩ := List.getElem?_eq_some_iff.mp h2
  have := List.pairwise_iff_getElem.mp h i (i + 1) a1 a2 (by omega)
  rw [e1, e2] at this
  exact this
def Near (f s : Int × Int × Int) : Prop := (0 ≤ f.1 ∧ f.1 < 2 ^ 60) ∧ (0 ≤ f.2.1 ∧ f.2.1 < 2 ^ 60) ∧ (0 ≤ f.2.2 ∧ f.2.2 < 2 ^ 60) ∧ (0 ≤ s.1 ∧ s.1 < 2 ^ 60) ∧ (0 ≤ s.2.1 ∧ s.2.1 < 2 ^ 60) ∧ (0 ≤ s.2.2 ∧ s.2.2 < 2 ^ 60) ∧ max f.1 s.1 - min f.1 s.1 ≤ 4 ∧ max f.2.1 s.2.1 - min f.2.1 s.2.1 ≤ 4 ∧ max f.2.2 s.2.2 - min f.2.2 s.2.2 ≤ 4
abbrev At3 (H : Hp) (b : Addr) (f : Int × Int × Int) : Prop := H b = some (.tup [.int f.1, .int f.2.1, .int f.2.2])
def spBox : Sp := fun vs H Q _ => ∃ (b c : Addr) (f s : Int × Int × Int), vs = [.ref b, .ref c] ∧ At3 H b f ∧ At3 H c s ∧ Near f s ∧ ∀ (l : Addr) (bs : List Addr) (H' : Hp), Same H H' → H l = none → H' l = some (.lst (bs.map V.ref)) → Tups H' bs (boxL f s) → Q (.ref l) H'
def spBoxG (K : PySem.W.Frag) : Sp := fun vs H Q _ => ∃ (l b c : Addr) (bs : List Addr) (f s f' s' : Int × Int × Int), vs = [.ref l, .ref b, .ref c] ∧ H l = some (.lst (bs.map V.ref)) ∧ Tups H bs (boxL f s) ∧ At3 H b f' ∧ At3 H c s' ∧ Near f s ∧ ((f' = f ∧ s' = s) ∨ (f' = s ∧ s' = f)) ∧ Q (.bl true) H
structure MkD (pl : Bool) (kvs : List (List Key × V)) : Prop where
  nd : (kvs.map (·.1)).Nodup
  sp : ∀ p ∈ kvs, ∃ x : Int × Int × Int, p.1 = iK [x.1, x.2.1, x.2.2] ∧ (0 ≤ x.1 ∧ x.1 < 2 ^ 60) ∧ (0 ≤ x.2.1 ∧ x.2.1 < 2 ^ 60) ∧ (0 ≤ x.2.2 ∧ x.2.2 < 2 ^ 60)
  vl : ∀ p ∈ kvs, MVal pl p.2
  ln : kvs.length ≤ 400
def mOf (kvs : List (List Key × V)) (a b c : Int) : Option V := valV kvs (iK [a, b, c])
structure Rn where
  a : Int
  b : Int
  c : Int
  d : Int
  v : V
def RunAt (H : Hp) (q : Addr) (u : Rn) : Prop := ∃ fa la, H q = some (.tup [.ref fa, .ref la, u.v]) ∧ H fa = some (.tup [.int u.a, .int u.b, .int u.c]) ∧ H la = some (.tup [.int u.a, .int u.b, .int u.d])
abbrev RunsAt (H : Hp) (qs : List Addr) (us : List Rn) : Prop := Paired (RunAt H) qs us
structure RnOk (kvs : List (List Key × V)) (u : Rn) : Prop where
  le : u.c ≤ u.d
  sm : u.d - u.c < kvs.length
  all : ∀ c, u.c ≤ c → c ≤ u.d → mOf kvs u.a u.b c = some u.v
  lo : mOf kvs u.a u.b (u.c - 1) ≠ some u.v
  hi : mOf kvs u.a u.b (u.d + 1) ≠ some u.v
def sumL (us : List Rn) : Int := (us.map fun u => u.d - u.c + 1).sum
structure RsOk (kvs : List (List Key × V)) (us : List Rn) : Prop where
  ok : ∀ u ∈ us, RnOk kvs u
  ord : us.Pairwise fun u w => HT.lexLt [u.a, u.b, u.d] [w.a, w.b, w.c] = true
  sm : sumL us = kvs.length
theorem lex3n {c d : T3} (hc : ∃ x y z, c = [x, y, z]) (hd : ∃ x y z, d = [x, y, z]) (h : HT.lexLt d c = false) (n : c ≠ d) : HT.lexLt c d = true := by
  obtain ⟨x, y, z, rfl⟩ := hc
  obtain ⟨x', y', z', rfl⟩ := hd
  rw [lex3]
  have h' : ¬ HT.lexLt [x', y', z'] [x, y, z] = true := by rw [h]; simp
  rw [lex3] at h'
  by_cases e : x = x' ∧ y = y' ∧ z = z'
  · exact absurd (by rw [e.1, e.2.1, e.2.2]) n
  · omega
structure Srt (kvs : List (List Key × V)) (ds : List T3) : Prop where
  srt : ds.Pairwise fun c d => HT.lexLt c d = true
  tri : ∀ c ∈ ds, ∃ x y z, c = [x, y, z]
  key : ∀ a b c, (mOf kvs a b c).isSome = true ↔ [a, b, c] ∈ ds
  len : ds.length = kvs.length
section
variable {kvs : List (List Key × V)} {ds : List T3}
theorem Srt.lt (h : Srt kvs ds) {i j : Nat} {c d : T3} (hi : ds[i]? = some c) (hj : ds[j]? = some d) (l : i < j) : HT.lexLt c d = true := by
  obtain ⟨a1, e1⟩ := List.getElem?_eq_some_iff.mp hi
  obtain ⟨a2, e2⟩ := List.getElem?_eq_some_iff.mp hj
  have := List.pairwise_iff_getElem.mp h.srt i j a1 a2 l
  rw [e1, e2] at this
  exact this
theorem Srt.prev (h : Srt kvs ds) {i : Nat} {a b c : Int} (hi : ds[i]? = some [a, b, c]) (hm : [a, b, c - 1] ∈ ds) : ∃ j, i = j + 1 ∧ ds[j]? = some [a, b, c - 1] := by
  obtain ⟨j, hj⟩ := List.getElem?_of_mem hm
  refine ⟨j, ?_, hj⟩
  rcases Nat.lt_trichotomy j i with l | l | l
  · by_cases e : i = j + 1
    · exact e
    · exfalso
      have hlt : j + 1 < ds.length := by have := (List.getElem?_eq_some_iff.mp hi).1; omega
      have hk : ds[j + 1]? = some ds[j + 1] := List.getElem?_eq_getElem hlt
      obtain ⟨x, y, z, e3⟩ := h.tri ds[j + 1] (List.getElem_mem hlt)
      rw [e3] at hk
      have h1 := lex3.mp (h.lt hj hk (by omega))
      have h2 := lex3.mp (h.lt hk hi (by omega))
      omega
  · subst l
    rw [hi] at hj
    injection hj with hj
    injection hj with _ hj
    injection hj with _ hj
    injection hj with hj _
    omega
  · have := lex3.mp (h.lt hi hj l)
    omega
theorem Srt.next (h : Srt kvs ds) {i : Nat} {a b d : Int} (hi : ds[i]? = some [a, b, d]) (hm : [a, b, d + 1] ∈ ds) : ds[i + 1]? = some [a, b, d + 1] := by
  obtain ⟨j, hj⟩ := List.getElem?_of_mem hm
  obtain ⟨k, rfl, hk⟩ := h.prev hj (by rw [show d + 1 - 1 = d by omega]; exact List.mem_of_getElem? hi)
  rw [show d + 1 - 1 = d by omega] at hk
  rcases Nat.lt_trichotomy k i with l | l | l
  · have := lex3.mp (h.lt hk hi l); omega
  · subst l; exact hj
  · have := lex3.mp (h.lt hi hk l); omega
structure RnO (kvs : List (List Key × V)) (u : Rn) : Prop where
  le : u.c ≤ u.d
  all : ∀ c, u.c ≤ c → c ≤ u.d → mOf kvs u.a u.b c = some u.v
  lo : mOf kvs u.a u.b (u.c - 1) ≠ some u.v
abbrev rlt (u w : Rn) : Prop := HT.lexLt [u.a, u.b, u.d] [w.a, w.b, w.c] = true
structure Iv (kvs : List (List Key × V)) (ds : List T3) (j : Nat) (ws : List Rn) (u : Rn) : Prop where
  ok : ∀ w ∈ ws, RnO kvs w ∧ mOf kvs w.a w.b (w.d + 1) ≠ some w.v
  ou : RnO kvs u
  la : ds[j]? = some [u.a, u.b, u.d]
  ord : (ws ++ [u]).Pairwise rlt
  sm : sumL (ws ++ [u]) = (j : Int) + 1
theorem sumL_app (us ws : List Rn) : sumL (us ++ ws) = sumL us + sumL ws := by unfold sumL; rw [List.map_append, List.sum_append]
theorem sumL_one (u : Rn) : sumL [u] = u.d - u.c + 1 := by unfold sumL; simp
theorem Iv.zero (h : Srt kvs ds) {a b c : Int} {v : V} (hd : ds[0]? = some [a, b, c]) (hv : mOf kvs a b c = some v) : Iv kvs ds 0 [] ⟨a, b, c, c, v⟩ where
  ok := by intro _ z; cases z
  ou := ⟨Int.le_refl c, fun x h1 h2 => by rw [show x = c by have h1 : c ≤ x := h1; have h2 : x ≤ c := h2; omega]; exact hv, fun z => by
    obtain ⟨j, e, _⟩ := h.prev hd ((h.key _ _ _).mp (by rw [show mOf kvs a b (c - 1) = some v from z]; rfl))
    omega⟩
  la := hd
  ord := by rw [List.nil_append]; exact List.pairwise_singleton _ _
  sm := by rw [List.nil_append, sumL_one]; show c - c + 1 = _; omega
theorem Iv.go {j : Nat} {ws : List Rn} {u : Rn} (i : Iv kvs ds j ws u) (hd : ds[j + 1]? = some [u.a, u.b, u.d + 1]) (hv : mOf kvs u.a u.b (u.d + 1) = some u.v) : Iv kvs ds (j + 1) ws ⟨u.a, u.b, u.c, u.d + 1, u.v⟩ where
  ok := i.ok
  ou := ⟨by have := i.ou.le; show u.c ≤ u.d + 1; omega, fun x h1 h2 => by
    have h2 : x ≤ u.d + 1 := h2
    by_cases e : x = u.d + 1
    · rw [e]; exact hv
    · exact i.ou.all x h1 (by omega), i.ou.lo⟩
  la := hd
  ord := by
    have := i.ord
    rw [List.pairwise_append] at this ⊢
    exact ⟨this.1, List.pairwise_singleton _ _, fun a ha b hb => by
      rw [List.mem_singleton.mp hb]
      exact this.2.2 a ha u (List.mem_singleton.mpr rfl)⟩
  sm := by
    have := i.sm
    rw [sumL_app, sumL_one] at this ⊢
    show _ + (u.d + 1 - u.c + 1) = _
    omega
theorem Iv.new (h : Srt kvs ds) {j : Nat} {ws : List Rn} {u : Rn} (i : Iv kvs ds j ws u) {a b c : Int} {v : V} (hd : ds[j + 1]? = some [a, b, c]) (hv : mOf kvs a b c = some v) (hn : ¬ (v = u.v ∧ (a, b, c) = (u.a, u.b, u.d + 1))) : Iv kvs ds (j + 1) (ws ++ [u]) ⟨a, b, c, c, v⟩ where
  ok := fun w hw => by
    rcases List.mem_append.mp hw with hw | hw
    · exact i.ok w hw
    · rw [List.mem_singleton.mp hw]
      refine ⟨i.ou, fun z => hn ?_⟩
      have := h.next i.la ((h.key _ _ _).mp (by rw [z]; rfl))
      rw [hd] at this
      injection this with this
      injection this with e1 this
      injection this with e2 this
      injection this with e3 _
      subst e1 e2 e3
      rw [hv] at z
      exact ⟨Option.some.inj z, rfl⟩
  ou := ⟨Int.le_refl c, fun x h1 h2 => by rw [show x = c by have h1 : c ≤ x := h1; have h2 : x ≤ c := h2; omega]; exact hv, fun z => by
    obtain ⟨k, e, hk⟩ := h.prev hd ((h.key _ _ _).mp (by rw [show mOf kvs a b (c - 1) = some v from z]; rfl))
    have e' : j = k := by omega
    subst e'
    rw [i.la] at hk
    injection hk with hk
    injection hk with e1 hk
    injection hk with e2 hk
    injection hk with e3 _
    have hu := i.ou.all u.d i.ou.le (Int.le_refl _)
    rw [e1, e2, e3, show mOf kvs a b (c - 1) = some v from z] at hu
    exact hn ⟨Option.some.inj hu, by rw [e1, e2, e3, show c - 1 + 1 = c by omega]⟩⟩
  la := hd
  ord := by
    rw [List.pairwise_append]
    refine ⟨i.ord, List.pairwise_singleton _ _, fun w hw b' hb' => ?_⟩
    rw [List.mem_singleton.mp hb']
    have h1 := lex3.mp (h.lt i.la hd (Nat.lt_succ_self j))
    rcases List.mem_append.mp hw with hw | hw
    · have h2 := lex3.mp ((List.pairwise_append.mp i.ord).2.2 w hw u (List.mem_singleton.mpr rfl))
      have := i.ou.le
      refine lex3.mpr ?_
      show w.a < a ∨ (w.a = a ∧ (w.b < b ∨ (w.b = b ∧ w.d < c)))
      omega
    · rw [List.mem_singleton.mp hw]
      exact lex3.mpr h1
  sm := by
    have := i.sm
    rw [sumL_app, sumL_one, this]
    show _ + (c - c + 1) = _
    omega
theorem sum_ge {us : List Rn} (h : ∀ u ∈ us, u.c ≤ u.d) : 0 ≤ sumL us ∧ ∀ u ∈ us, u.d - u.c + 1 ≤ sumL us := by
  induction us with
  | nil => exact ⟨Int.le_refl _, by intro _ z; cases z⟩
  | cons w r ih =>
    have e : sumL (w :: r) = (w.d - w.c + 1) + sumL r := by unfold sumL; simp
    have ih := ih fun u hu => h u (List.mem_cons_of_mem _ hu)
    have hw := h w List.mem_cons_self
    rw [e]
    refine ⟨by omega, fun u hu => ?_⟩
    rcases List.mem_cons.mp hu with rfl | hu
    · omega
    · have := ih.2 u hu; omega
theorem Iv.done (h : Srt kvs ds) {j : Nat} {ws : List Rn} {u : Rn} (i : Iv kvs ds j ws u) (hj : ds.length = j + 1) : RsOk kvs (ws ++ [u]) := by
  have hs : sumL (ws ++ [u]) = (kvs.length : Int) := by rw [i.sm, ← h.len, hj]; omega
  have o : ∀ w ∈ ws ++ [u], RnO kvs w ∧ mOf kvs w.a w.b (w.d + 1) ≠ some w.v := fun w hw => by
    rcases List.mem_append.mp hw with hw | hw
    · exact i.ok w hw
    · rw [List.mem_singleton.mp hw]
      refine ⟨i.ou, fun z => ?_⟩
      have := h.next i.la ((h.key _ _ _).mp (by rw [z]; rfl))
      have := (List.getElem?_eq_some_iff.mp this).1
      omega
  refine ⟨fun w hw => ⟨(o w hw).1.le, ?_, (o w hw).1.all, (o w hw).1.lo, (o w hw).2⟩, i.ord, hs⟩
  have := (sum_ge fun w hw => (o w hw).1.le).2 w hw
  omega
end
def IvN (kvs : List (List Key × V)) (ds : List T3) (i : Nat) (us : List Rn) : Prop := (i = 0 ∧ us = []) ∨ ∃ j ws u, i = j + 1 ∧ us = ws ++ [u] ∧ Iv kvs ds j ws u
theorem srt_of {pl : Bool} {kvs : List (List Key × V)} (hM : MkD pl kvs) : ∃ cs : List T3, kvs.map (·.1) = cs.map (fun c => c.map Sum.inl) ∧ (∀ c ∈ cs, c ≠ []) ∧ cs.length ≤ 1000 ∧ ∀ ds : List T3, ds.Perm cs → ds.Pairwise (fun c d => HT.lexLt d c = false) → Srt kvs ds := by
  refine ⟨kvs.map fun p => p.1.map fun k => match k with | .inl i => i | .inr _ => 0, ?_, ?_, ?_, ?_⟩
  · rw [List.map_map]
    refine List.map_congr_left fun p hp => ?_
    obtain ⟨x, e, _⟩ := hM.sp p hp
    show p.1 = (p.1.map _).map Sum.inl
    rw [e]
    rfl
  · intro c hc
    obtain ⟨p, hp, rfl⟩ := List.mem_map.mp hc
    obtain ⟨x, e, _⟩ := hM.sp p hp
    rw [e]
    intro z
    cases z
  · rw [List.length_map]; have := hM.ln; omega
  · intro ds hp hs
    have tri : ∀ c ∈ ds, ∃ x y z, c = [x, y, z] := fun c hc => by
      obtain ⟨p, hp, rfl⟩ := List.mem_map.mp (hp.mem_iff.mp hc)
      obtain ⟨x, e, _⟩ := hM.sp p hp
      rw [e]
      exact ⟨_, _, _, rfl⟩
    have key : ∀ c : T3, iK c ∈ kvs.map (·.1) ↔ c ∈ ds := fun c => by
      rw [hp.mem_iff]
      constructor
      · intro h
        obtain ⟨p, hp, e⟩ := List.mem_map.mp h
        refine List.mem_map.mpr ⟨p, hp, ?_⟩
        have e : p.1 = iK c := e
        rw [e]
        unfold iK
        rw [List.map_map]
        exact List.map_id' c
      · intro h
        obtain ⟨p, hp, e⟩ := List.mem_map.mp h
        refine List.mem_map.mpr ⟨p, hp, ?_⟩
        obtain ⟨x, e2, _⟩ := hM.sp p hp
        rw [e2] at e
        rw [← e]
        exact e2
    have nd : ds.Nodup := by
      refine hp.nodup_iff.mpr ?_
      have h1 : ((kvs.map fun p => p.1.map fun k => match k with | .inl i => i | .inr _ => (0 : Int)).map iK).Nodup := by
        rw [List.map_map, show kvs.map (iK ∘ fun p => p.1.map fun k => match k with | .inl i => i | .inr _ => (0 : Int)) = kvs.map (·.1) from List.map_congr_left fun p hp => by
          obtain ⟨x, e, _⟩ := hM.sp p hp
          show iK (p.1.map _) = p.1
          rw [e]
          rfl]
        exact hM.nd
      exact (List.nodup_iff_pairwise_ne.mp h1 |> List.pairwise_map.mp |>.imp fun hne e => hne (by rw [e])) |> List.nodup_iff_pairwise_ne.mpr
    refine ⟨?_, tri, fun a b c => ?_, by rw [hp.length_eq, List.length_map]⟩
    · refine List.Pairwise.imp_of_mem ?_ (hs.and (List.nodup_iff_pairwise_ne.mp nd))
      intro c d hc hd h
      exact lex3n (tri c hc) (tri d hd) h.1 h.2
    · rw [← key]
      exact valV_key
theorem RunAt.sb {l : Addr} {H H' : Hp} {zs : List V} (s : Sb l H H') (hl : H l = some (.lst zs)) {q : Addr} {u : Rn} (h : RunAt H q u) : RunAt H' q u := by
  obtain ⟨fa, la, h1, h2, h3⟩ := h
  have f : ∀ b ys, H b = some (.tup ys) → H' b = some (.tup ys) := fun b ys z => s b _ (ne_of z hl (by intro e; cases e)) z
  exact ⟨fa, la, f _ _ h1, f _ _ h2, f _ _ h3⟩
theorem RunAt.same {H H' : Hp} (s : Same H H') {q : Addr} {u : Rn} (h : RunAt H q u) : RunAt H' q u := by
  obtain ⟨fa, la, h1, h2, h3⟩ := h
  exact ⟨fa, la, s _ _ h1, s _ _ h2, s _ _ h3⟩
theorem pr_app {α β : Type} {F : α → β → Prop} : ∀ {as bs : List α} {cs ds : List β}, Paired F as cs → Paired F bs ds → Paired F (as ++ bs) (cs ++ ds)
  | _, _, _, _, .nil, t => t
  | _, _, _, _, .cons h s, t => .cons h (pr_app s t)
theorem pr_last {α β : Type} {F : α → β → Prop} : ∀ {as : List α} {cs : List β} {u : β}, Paired F as (cs ++ [u]) → ∃ bs a, as = bs ++ [a] ∧ Paired F bs cs ∧ F a u
  | _, [], _, .cons h .nil => ⟨[], _, rfl, .nil, h⟩
  | _, c :: cs, _, .cons h s => by
    obtain ⟨bs, a, e, p, f⟩ := pr_last s
    exact ⟨_ :: bs, a, by rw [e]; rfl, .cons h p, f⟩
theorem rd_ifof {tc : TT} {t u : TS} {D : Ends} {σ : St} {H : Hp} (q : tc σ H fun b H1 => if b = true then t D σ H1 else u D σ H1) : tIfS tc t u D σ H := q
theorem te_and {t u : TT} {σ : St} {H : Hp} {a : Bool} {Q : Bool → Hp → Prop} (h : EvT t σ H a) (h1 : a = true → u σ H Q) (h2 : a = false → Q false H) : tAnd t u σ H Q := by
  refine h _ ?_
  cases a with
  | true => exact h1 rfl
  | false => exact h2 rfl
theorem ixN_last {α : Type} (xs : List α) (x : α) : ixN (xs ++ [x]).length (-1) = some xs.length := by
  unfold ixN
  rw [List.length_append, List.length_singleton, if_neg (by omega), if_pos (by omega)]
  congr 1
  omega
theorem te_or {t u : TT} {σ : St} {H : Hp} {a : Bool} {Q : Bool → Hp → Prop} (h : EvT t σ H a) (e : a = false) (q : u σ H Q) : tOr t u σ H Q := by
  subst e
  exact h _ q
theorem lc_pairs {e D : Addr} {o : Obj} {kvs : List (List Key × V)} {HF : Hp} {Q : Hp → Prop} (nd : (kvs.map (·.1)).Nodup) (ln : kvs.length ≤ 400) (ef : HF e = some (.frz o (.dT kvs))) (nD : HF D = none) (q : ∀ H2 rs, Same HF H2 → H2 D = some (.lst (rs.map V.ref)) → Prs H2 rs kvs → Q H2) :
    lcW [none, some (.ref e)] (gName 0) tYes (tTup (tCons (tVar 0) (tCons (tDGet (tVar 1) (tVar 0)) tNil))) (Itk e o (.dT kvs)) HF D Q := by
  refine lc_keys (u := .dT kvs) (fun i τ H2 => ∃ (x0 : Option V) (rs : List Addr), τ = [x0, some (.ref e)] ∧ Same HF H2 ∧ H2 D = some (.lst (rs.map V.ref)) ∧ Prs H2 rs (kvs.take i) ∧ rs.length ≤ i)
    ⟨none, [], rfl, (Same.refl HF).upd nD, upd_same, .nil, Nat.le_refl _⟩ (fun i τ H2 _ ⟨_, _, _, s, _⟩ => s _ _ ef) ?_ ?_
  · rintro i x v τ H2 hka hi ⟨x0, rs, rfl, s2, hD2, hrs, hrl⟩
    obtain ⟨kk, b, hk1, rfl, hb⟩ := hka
    have hv : valV kvs kk = some v := valV_mem nd (p := (kk, v)) (List.mem_of_getElem? hk1)
    have g : DGet H2 e (.ref b) (some v) := .inr ⟨kvs, kk, b, .inr ⟨o, s2 _ _ ef⟩, rfl, hb, hv.symm⟩
    have hi' : i < kvs.length := hi
    refine gn ?_
    dsimp only [tYes]
    rw [if_pos rfl]
    refine te_tup (ea_cons (ev_var rfl) (ea_cons (ev_dget (ev_var rfl) (ev_var rfl) g) ea_nil)) (by show 2 ≤ sizeLine; decide) fun t nt => ?_
    have s3 : Same H2 (upd H2 t (.tup [.ref b, v])) := (Same.refl H2).upd nt
    have e3 : upd H2 t (.tup [.ref b, v]) t = some (.tup [.ref b, v]) := upd_same
    revert s3 e3
    generalize upd H2 t (.tup [.ref b, v]) = H3
    intro s3 e3
    have hD3 := s3 _ _ hD2
    refine ⟨_, hD3, (by rw [List.length_map]; exact small1000 (by omega)), _, rs ++ [t], rfl, same_at (s2.trans s3) nD, ?_, ?_, ?_⟩
    · rw [upd_same, List.map_append]; rfl
    · rw [take_one hk1]
      have up : ∀ b' ys, H3 b' = some (.tup ys) → upd H3 D (.lst (rs.map V.ref ++ [.ref t])) b' = some (.tup ys) := fun b' ys eb => by rw [upd_ne (ne_of eb hD3 (by intro z; cases z))]; exact eb
      exact pr_app (Paired.mapP hrs fun _ _ ⟨b', z1, z2⟩ => ⟨b', up _ _ (s3 _ _ z1), up _ _ (s3 _ _ z2)⟩) (.cons ⟨b, up _ _ e3, up _ _ (s3 _ _ hb)⟩ .nil)
    · rw [List.length_append]; show rs.length + 1 ≤ i + 1; omega
  · rintro τ H2 ⟨x0, rs, rfl, s2, hD2, hrs, hrl⟩
    rw [show szU (.dT kvs) = kvs.length from rfl, List.take_length] at hrs
    exact q H2 rs s2 hD2 hrs
def dVv : V → PyData
  | .bl b => .bool b
  | .int i => .int i
  | _ => .none
def dtP (p : List Key × V) : PyData := .tuple [.tuple ((p.1.map fun k => match k with | .inl i => i | .inr _ => (0 : Int)).map PyData.int), dVv p.2]
theorem prs_dps {K : PySem.W.Frag} {H : Hp} {pl : Bool} : ∀ {rs : List Addr} {kvs : List (List Key × V)}, Prs H rs kvs → (∀ p ∈ kvs, ∃ x : T3, p.1 = iK x) → (∀ p ∈ kvs, MVal pl p.2) → Dps K H (rs.map V.ref) (kvs.map dtP)
  | _, _, .nil, _, _ => .nil
  | _, p :: ps, .cons ⟨b, h1, h2⟩ r, hk, hv => by
    refine .cons ?_ (prs_dps r (fun q hq => hk q (List.mem_cons_of_mem _ hq)) fun q hq => hv q (List.mem_cons_of_mem _ hq))
    obtain ⟨x, ex⟩ := hk p List.mem_cons_self
    have hb : H b = some (.tup (x.map V.int)) := iK_back (by rw [← ex]; exact h2)
    unfold dtP
    rw [ex, show (iK x).map (fun k => match k with | .inl i => i | .inr _ => (0 : Int)) = x by unfold iK; rw [List.map_map]; exact List.map_id' x]
    refine .tup (SqT.of h1) (.cons (Dp.ints (SqT.of hb)) (.cons ?_ .nil))
    have := hv p List.mem_cons_self
    unfold MVal at this
    cases pl with
    | true => rw [if_pos rfl] at this; rw [this]; exact .bl true
    | false => rw [if_neg (by simp)] at this; obtain ⟨j, e⟩ := this; rw [e]; exact .int j
theorem dtP_depth (kvs : List (List Key × V)) : (PyData.list (kvs.map dtP)).depth ≤ 60 := by
  have : PyData.depthAll (kvs.map dtP) ≤ 10 := depthAll_le fun d hd => by
    obtain ⟨p, _, rfl⟩ := List.mem_map.mp hd
    unfold dtP
    have h1 := depth_tints (p.1.map fun k => match k with | .inl i => i | .inr _ => (0 : Int))
    have h2 : (dVv p.2).depth ≤ 1 := by unfold dVv; split <;> simp [PyData.depth]
    have : PyData.depthAll [PyData.tuple ((p.1.map fun k => match k with | .inl i => i | .inr _ => (0 : Int)).map PyData.int), dVv p.2] ≤ 5 := depthAll_le fun d hd => by
      rcases List.mem_cons.mp hd with rfl | hd
      · omega
      · rw [List.mem_singleton.mp hd]; omega
    simp only [PyData.depth] at this ⊢
    omega
  simp only [PyData.depth]
  omega
theorem frz_back {H : Hp} {e : Addr} {o : Obj} {u : HO} (he : H e = some u) {H2 : Hp} (s : Same (upd H e (.frz o u)) H2) : Same H (upd H2 e u) := fun b w eb => by
  by_cases hb : b = e
  · subst hb; rw [he] at eb; cases eb; exact upd_same
  · rw [upd_ne hb]; exact s _ _ (by rw [upd_ne hb]; exact eb)
theorem prs_thaw {H2 : Hp} {e : Addr} {o : Obj} {u w : HO} (ef : H2 e = some (.frz o u)) {rs : List Addr} {kvs : List (List Key × V)} (h : Prs H2 rs kvs) : Prs (upd H2 e w) rs kvs :=
  Paired.mapP h fun _ _ ⟨b, h1, h2⟩ => ⟨b, by rw [upd_ne (ne_of h1 ef (by intro z; cases z))]; exact h1, by rw [upd_ne (ne_of h2 ef (by intro z; cases z))]; exact h2⟩
theorem run_bd {pl : Bool} {kvs : List (List Key × V)} (hM : MkD pl kvs) {u : Rn} (h : RnOk kvs u) : MVal pl u.v ∧ -(2 ^ 61) ≤ u.c ∧ u.d < 2 ^ 61 := by
  have h1 := mem_valV (h.all u.c (Int.le_refl _) h.le)
  have h2 := mem_valV (h.all u.d h.le (Int.le_refl _))
  obtain ⟨x, e1, _, _, b1, b2⟩ := hM.sp _ h1
  obtain ⟨y, e2, _, _, b3, b4⟩ := hM.sp _ h2
  have e1 := iK_inj e1
  have e2 := iK_inj e2
  injection e1 with _ e1
  injection e1 with _ e1
  injection e1 with e1 _
  injection e2 with _ e2
  injection e2 with _ e2
  injection e2 with e2 _
  exact ⟨hM.vl _ h1, by omega, by omega⟩
def spGoes (K : PySem.W.Frag) : Sp := fun vs H Q _ => ∃ (q b : Addr) (v : V) (u : Rn) (x : Int × Int × Int) (pl : Bool), vs = [.ref q, .ref b, v] ∧ RunAt H q u ∧ At3 H b x ∧ MVal pl v ∧ MVal pl u.v ∧ ∀ H', Same H H' → Q (.bl (decide (v = u.v ∧ x = (u.a, u.b, u.d + 1)))) H'
def spRuns (K : PySem.W.Frag) : Sp := fun vs H Q _ => ∃ (e : Addr) (pl : Bool) (kvs : List (List Key × V)), vs = [.ref e] ∧ H e = some (.dT kvs) ∧ MkD pl kvs ∧ ∀ (l : Addr) (qs : List Addr) (us : List Rn) (H' : Hp), Same H H' → H l = none → H' l = some (.lst (qs.map V.ref)) → RunsAt H' qs us → RsOk kvs us → Q (.ref l) H'
def spMarks (K : PySem.W.Frag) : Sp := fun vs H Q _ => ∃ (a p : Addr) (ns : List Int) (x y z : Int), vs = [.ref a, .ref p] ∧ SqL K H a (ns.map V.int) ∧ ns.length ≤ 63 ∧ SqL K H p [.int x, .int y, .int z] ∧ (0 ≤ x ∧ x < 2 ^ 59) ∧ (0 ≤ y ∧ y < 2 ^ 59) ∧ (0 ≤ z ∧ z < 2 ^ 59) ∧ ∀ (e : Addr) (pl : Bool) (kvs : List (List Key × V)) (H' : Hp), Same H H' → H e = none → H' e = some (.dT kvs) → MkD pl kvs → Q (.ref e) H'
def spMarked : Sp := fun vs H Q _ => ∃ (e b : Addr) (v : V) (kvs : List (List Key × V)) (pl : Bool) (x : Int × Int × Int), vs = [.ref e, .ref b, v] ∧ H e = some (.dT kvs) ∧ MkD pl kvs ∧ At3 H b x ∧ MVal pl v ∧ Q (.bl (decide (mOf kvs x.1 x.2.1 x.2.2 = some v))) H
def spRunG (K : PySem.W.Frag) : Sp := fun vs H Q _ => ∃ (e q : Addr) (kvs : List (List Key × V)) (pl : Bool) (u : Rn), vs = [.ref e, .ref q] ∧ H e = some (.dT kvs) ∧ MkD pl kvs ∧ RunAt H q u ∧ MVal pl u.v ∧ RnOk kvs u ∧ (-(2 ^ 61) ≤ u.c ∧ u.d < 2 ^ 61) ∧ ∀ H', Same H H' → Q (.bl true) H'
def spLaw (K : PySem.W.Frag) : Sp := fun vs H Q _ => ∃ (a : Addr) (ns : List Int), vs = [.ref a] ∧ SqL K H a (ns.map V.int) ∧ ns.length ≤ 63 ∧ ∀ H', Q (.bl true) H'
section
variable {P : Program} {w : World} {K : PySem.W.Frag} {mg : Str → Option Value} {base : Heap}
set_option maxHeartbeats 1000000
theorem ok_Btw {f : Addr} {fd : FuncData} (F : Fun K "between" "between" sBtw f fd) (T : Txt K mg) : FnOk P w K mg base CX0 1 f fd ["one", "two"] spBtw := by
  have sc : FnScope ["one", "two"] ["one", "two"] (defScope sBtw) := ⟨rfl, rfl, rfl, by decide +kernel, rfl, by decide +kernel, by decide +kernel⟩
  refine F.ok sc (fun vs H Q E h => by repeat (first | (obtain ⟨rfl, _⟩ := h; rfl) | (obtain ⟨_, h⟩ := h))) (fun cdv A outer s H vs Q E hr h => ?_)
  obtain ⟨a, b, rfl, h1, h2, h3, h4, h5, q⟩ := h
  refine ⟨_, (pss_one (ps_ret (pe_callTy (call_list_rng rfl) (by rfl) T.list_ bt_list (pa_cons (pe_callTy call_range2 (by rfl) T.range_ bt_range (pa_cons (pe_callB (call_min2 rfl) (by rfl) T.min_ bt_min (pa_cons (pv 0) (pa_cons (pv 1) pa_nil))) (pa_cons (pe_op op_add (pe_callB (call_max2 rfl) (by rfl) T.max_ bt_max (pa_cons (pv 0) (pa_cons (pv 1) pa_nil))) pe_int) pa_nil))) pa_nil)))), ?_⟩
  refine ⟨_, rfl, _, rfl, a, b, rfl, _, rfl, _, rfl, a, b, rfl, _, 1, rfl, rfl, _, _, rfl, fun p np => ?_⟩
  rw [mn_if, mx_if]
  refine ⟨p, min a b, max a b + 1, rfl, upd_same, by omega, ?_, fun l nl => ?_⟩
  · omega
  · have s1 : Same H (upd H p (.rng (min a b) (max a b + 1))) := (Same.refl H).upd np
    refine q l _ (s1.upd nl) (s1.free nl) ?_
    rw [upd_same]
    unfold upL
    rw [List.map_map, show (max a b + 1 - min a b).toNat = (max a b - min a b + 1).toNat by omega]
    rfl
theorem ok_Box {f : Addr} {fd : FuncData} (F : Fun K "box" "box" sBox f fd) (T : Txt K mg) (gBtw : Callee P w K mg base "between" 1 ["one", "two"] spBtw) : FnOk P w K mg base CX0 2 f fd ["one", "two"] spBox := by
  have sc : FnScope ["one", "two", "spots", "layer", "row"] ["one", "two"] (defScope sBox) := ⟨rfl, rfl, rfl, by decide +kernel, rfl, by decide +kernel, by decide +kernel⟩
  refine F.ok sc (fun vs H Q E h => by repeat (first | (obtain ⟨rfl, _⟩ := h; rfl) | (obtain ⟨_, h⟩ := h))) (fun cdv A outer s H vs Q E hr h => ?_)
  obtain ⟨b, c, f, s, rfl, hb, hc, nr, q⟩ := h
  obtain ⟨⟨n1, n2⟩, ⟨n3, n4⟩, ⟨n5, n6⟩, ⟨n7, n8⟩, ⟨n9, n10⟩, ⟨n11, n12⟩, m1, m2, m3⟩ := nr
  refine ⟨_, (pss_cons (ps_set (i := 2) sc.nd rfl (Or.inl rfl) (pe_lst pa_nil))
  (pss_cons (ps_for PassesOwn.never rfl (pi_list (pe_cal gBtw (hr.mono (by decide)) (by rfl) (pa_cons (pe_ix ix_tup (pv 0) pe_int (fun _ _ => rfl)) (pa_cons (pe_ix ix_tup (pv 1) pe_int (fun _ _ => rfl)) pa_nil)))) (pg_name (i := 3) sc.nd rfl (Or.inr rfl))
  (pss_one (ps_for PassesOwn.never rfl (pi_list (pe_cal gBtw (hr.mono (by decide)) (by rfl) (pa_cons (pe_ix ix_tup (pv 0) pe_int (fun _ _ => rfl)) (pa_cons (pe_ix ix_tup (pv 1) pe_int (fun _ _ => rfl)) pa_nil)))) (pg_name (i := 4) sc.nd rfl (Or.inr rfl))
  (pss_one (ps_expr (pe_bm PySem.F.plainAttrs_list PySem.F.slot_list_extend PySem.F.type_list_extend mt_extend (pv 2) (pa_cons (pe_lc (ls := ["column"]) (ys := ["layer", "row"]) (ix := [3, 4]) rfl ⟨rfl, by rfl, by rfl, by rfl, by rfl, rfl⟩ (pi_list (pe_cal gBtw (hr.mono (by decide)) (by rfl) (pa_cons (pe_ix ix_tup (pv 0) pe_int (fun _ _ => rfl)) (pa_cons (pe_ix ix_tup (pv 1) pe_int (fun _ _ => rfl)) pa_nil)))) (fun _ _ _ _ _ => (pg_name (i := 0) (show (["column", "layer", "row"] : List Str).Nodup by decide +kernel) rfl (Or.inl rfl))) (fun _ _ _ _ _ => pf_nil) (fun _ _ _ _ _ => (pe_tup (pa_cons (pv 1) (pa_cons (pv 2) (pa_cons (pv 0) pa_nil)))))) pa_nil)))))))
  (pss_one (ps_ret (pv 2))))), ?_⟩
  have ixo : ∀ {σ : St} {H' : Hp} {n : Nat} {p : Addr} {g : Int × Int × Int} (i : Int) (v : V), σ[n]? = some (some (.ref p)) → At3 H' p g → atI [V.int g.1, V.int g.2.1, V.int g.2.2] i = some v → Ev (tOp (rIxT K) (tVar n) (tC (.int i))) σ H' v := fun i v e1 e2 e3 => ev_ixT (ev_var e1) ev_c (SqT.of e2) e3
  refine ⟨by show 0 ≤ sizeLine; decide, fun l nl => ?_⟩
  have s0 : Same H (upd H l (.lst [])) := (Same.refl H).upd nl
  have l0 : upd H l (.lst []) l = some (.lst []) := upd_same
  revert s0 l0
  generalize upd H l (.lst []) = H1
  intro s0 l0
  refine sq_forC (ea_cons (ixo 0 (.int f.1) rfl (s0 _ _ hb) rfl) (ea_cons (ixo 0 (.int s.1) rfl (s0 _ _ hc) rfl) ea_nil)) ⟨f.1, s.1, rfl, by omega, by omega, by omega, by omega, by omega, fun la H2 s2 nla ela => ?_⟩
  have nel : la ≠ l := fun e => by rw [e, l0] at nla; cases nla
  refine ⟨la, rfl, ⟨_, SqL.of ela⟩, for_list (K := K) (a := la) (xs := (upL (min f.1 s.1) (max f.1 s.1)).map V.int) (fun i σ H' => ∃ (x3 x4 : Option V) (bs : List Addr), σ = [some (.ref b), some (.ref c), some (.ref l), x3, x4] ∧ Sb l H2 H' ∧ H' l = some (.lst (bs.map V.ref)) ∧ Tups H' bs (((upL (min f.1 s.1) (max f.1 s.1)).take i).flatMap fun a => layL f s a) ∧ bs.length ≤ 25 * i)
    ⟨none, none, [], rfl, Sb.refl l H2, s2 _ _ l0, .nil, by simp⟩ (fun i σ H' _ ⟨_, _, _, _, sb, _⟩ => .inl (.inl (sb _ _ nel ela))) ?_ ?_⟩
  · rintro i v σ H3 hi ⟨x3, x4, bs, rfl, sb3, hl3, ht3, hn3⟩
    obtain ⟨y, rfl, hy⟩ := int_at hi
    have li := (upL_at hy).2
    refine gn ?_
    have A3 : ∀ {H' : Hp} {p : Addr} {g : Int × Int × Int}, Sb l H2 H' → At3 H p g → At3 H' p g := fun z e => z _ _ (ne_of_none e nl) (s2 _ _ (s0 _ _ e))
    refine rd_forC (ea_cons (ixo 1 (.int f.2.1) rfl (A3 sb3 hb) rfl) (ea_cons (ixo 1 (.int s.2.1) rfl (A3 sb3 hc) rfl) ea_nil)) ⟨f.2.1, s.2.1, rfl, by omega, by omega, by omega, by omega, by omega, fun lb H4 s4 nlb elb => ?_⟩
    have nbl : lb ≠ l := fun e => by rw [e, hl3] at nlb; cases nlb
    refine ⟨lb, rfl, ⟨_, SqL.of elb⟩, for_list (K := K) (a := lb) (xs := (upL (min f.2.1 s.2.1) (max f.2.1 s.2.1)).map V.int) (fun j σ H' => ∃ (x4 : Option V) (bs : List Addr), σ = [some (.ref b), some (.ref c), some (.ref l), some (.int y), x4] ∧ Sb l H4 H' ∧ H' l = some (.lst (bs.map V.ref)) ∧ Tups H' bs ((((upL (min f.1 s.1) (max f.1 s.1)).take i).flatMap fun a => layL f s a) ++ ((upL (min f.2.1 s.2.1) (max f.2.1 s.2.1)).take j).flatMap fun b => rowL f s y b) ∧ bs.length ≤ 25 * i + 5 * j)
      ⟨_, bs, rfl, Sb.refl l H4, s4 _ _ hl3, by rw [List.take_zero, List.flatMap_nil, List.append_nil]; exact ht3.same s4, by omega⟩ (fun i σ H' _ ⟨_, _, _, sb, _⟩ => .inl (.inl (sb _ _ nbl elb))) ?_ ?_⟩
    · rintro j v σ H5 hj ⟨x4, bs, rfl, sb5, hl5, ht5, hn5⟩
      obtain ⟨z, rfl, hz⟩ := int_at hj
      have lj := (upL_at hz).2
      have sb25 := (sb3.trans (Sb.of s4)).trans sb5
      refine gn ?_
      refine ⟨_, rfl, .inl ⟨rfl, _, SqL.of hl5⟩, ?_⟩
      refine te_cal (ea_cons (ixo 2 (.int f.2.2) rfl (A3 sb25 hb) rfl) (ea_cons (ixo 2 (.int s.2.2) rfl (A3 sb25 hc) rfl) ea_nil)) ⟨f.2.2, s.2.2, rfl, by omega, by omega, by omega, by omega, by omega, fun lc H6 s6 nlc elc => ?_⟩
      refine ⟨lc, rfl, ⟨_, SqL.of elc⟩, fun D nD => ?_⟩
      refine lc_listG (K := K) (xs := (upL (min f.2.2 s.2.2) (max f.2.2 s.2.2)).map V.int) (fun k τ H' => ∃ (x0 : Option V) (rs : List Addr), τ = [x0, some (.int y), some (.int z)] ∧ Same H6 H' ∧ H' D = some (.lst (rs.map V.ref)) ∧ Tups H' rs (((upL (min f.2.2 s.2.2) (max f.2.2 s.2.2)).take k).map fun c => [y, z, c]) ∧ rs.length = k)
        ⟨none, [], rfl, (Same.refl _).upd nD, upd_same, .nil, rfl⟩ (fun i τ H' _ ⟨_, _, _, s, _⟩ => s.seq (SqL.of elc)) ?_ ?_
      · rintro k v τ H7 hk ⟨x0, rs, rfl, s7, hD, hrs, hrl⟩
        obtain ⟨x, rfl, hx⟩ := int_at hk
        have lk := (upL_at hx).2
        dsimp only [gName, tYes]
        rw [if_pos rfl]
        refine te_tup (ea_cons (ev_var rfl) (ea_cons (ev_var rfl) (ea_cons (ev_var rfl) ea_nil))) (by show 3 ≤ sizeLine; decide) fun p np => ?_
        have s8 : Same H7 (upd H7 p (.tup [.int y, .int z, .int x])) := (Same.refl H7).upd np
        have e8 : upd H7 p (.tup [.int y, .int z, .int x]) p = some (.tup [.int y, .int z, .int x]) := upd_same
        revert s8 e8
        generalize upd H7 p (.tup [.int y, .int z, .int x]) = H8
        intro s8 e8
        have hD8 := s8 _ _ hD
        refine ⟨_, hD8, (by rw [List.length_map]; exact small1000 (by omega)), _, rs ++ [p], rfl, same_at (s7.trans s8) nD, ?_, ?_, ?_⟩
        · rw [upd_same, List.map_append]; rfl
        · rw [take_one hx, List.map_append]
          have up : ∀ b' ys, H8 b' = some (.tup ys) → upd H8 D (.lst (rs.map V.ref ++ [.ref p])) b' = some (.tup ys) := fun b' ys eb => by rw [upd_ne (ne_of eb hD8 (by intro z; cases z))]; exact eb
          exact tups_app (Paired.mapP (hrs.same s8) fun _ _ z => up _ _ z) (.cons (up _ _ e8) .nil)
        · rw [List.length_append, hrl]; rfl
      · rintro τ H7 ⟨x0, rs, rfl, s7, hD, hrs, hrl⟩
        rw [List.length_map, List.take_length] at hrs
        rw [List.length_map, upL_len] at hrl
        have s57 := s6.trans s7
        have hl7 := s57 _ _ hl5
        refine ⟨l, D, _, _, rfl, rfl, hl7, hD, (by rw [List.length_map, List.length_map]; exact Nat.le_of_lt (small1000 (by omega))), _, bs ++ rs, rfl, (sb5.trans (Sb.of s57)).set, ?_, ?_, ?_⟩
        · rw [upd_same, List.map_append]
        · rw [take_one hz, List.flatMap_append, List.flatMap_singleton, ← List.append_assoc]
          have sbu : Sb l H7 (upd H7 l (.lst (bs.map V.ref ++ rs.map V.ref))) := (Sb.refl l H7).set
          exact tups_app (sbu.tups hl7 (ht5.same s57)) (sbu.tups hl7 hrs)
        · rw [List.length_append]; omega
    · rintro σ H5 ⟨x4, bs, rfl, sb5, hl5, ht5, hn5⟩
      rw [List.length_map, List.take_length] at ht5
      rw [List.length_map, upL_len] at hn5
      refine ⟨_, _, bs, rfl, (sb3.trans (Sb.of s4)).trans sb5, hl5, ?_, by omega⟩
      rw [take_one hy, List.flatMap_append, List.flatMap_singleton]
      exact ht5
  · rintro σ H3 ⟨x3, x4, bs, rfl, sb3, hl3, ht3, hn3⟩
    rw [List.length_map, List.take_length] at ht3
    exact ⟨_, rfl, q l bs H3 (((Sb.of (s0.trans s2)).trans sb3).same nl) nl hl3 ht3⟩
theorem ok_Goes {f : Addr} {fd : FuncData} (F : Fun K "goes_on" "goes_on" sGoes f fd) (T : Txt K mg) : FnOk P w K mg base CX0 1 f fd ["run", "spot", "mark"] (spGoes K) := by
  have sc : FnScope ["run", "spot", "mark", "first", "last", "alike"] ["run", "spot", "mark"] (defScope sGoes) := ⟨rfl, rfl, rfl, by decide +kernel, rfl, by decide +kernel, by decide +kernel⟩
  refine F.ok sc (fun vs H Q E h => by repeat (first | (obtain ⟨rfl, _⟩ := h; rfl) | (obtain ⟨_, h⟩ := h))) (fun cdv A outer s H vs Q E hr h => ?_)
  obtain ⟨q0, b, v, u, x, pl, rfl, hq, hb, hv, hu, q⟩ := h
  refine ⟨_, (pss_cons (ps_asg (pv 0) (pg_tup rfl (pgs_cons (pg_name (i := 3) sc.nd rfl (Or.inl rfl)) (pgs_cons (pg_name (i := 4) sc.nd rfl (Or.inl rfl)) (pgs_cons (pg_name (i := 5) sc.nd rfl (Or.inl rfl)) pgs_nil)))))
  (pss_one (ps_ret (pe_and (pe_cmpR op_eq (pv 2) (pv 5) (nomark _)) (pe_one (pe_cmpR (op_eqD hr) (pv 1) (pe_tup (pa_cons (pe_ix ix_tup (pv 4) pe_int (fun _ _ => rfl)) (pa_cons (pe_ix ix_tup (pv 4) pe_int (fun _ _ => rfl)) (pa_cons (pe_op op_add (pe_ix ix_tup (pv 4) pe_int (fun _ _ => rfl)) pe_int) pa_nil)))) (nomark _))))))), ?_⟩
  obtain ⟨fa, la, h1, h2, h3⟩ := hq
  refine ⟨_, rfl, q0, _, rfl, SqT.of h1, rfl, _, _, rfl, _, _, rfl, _, _, rfl, rfl, ?_⟩
  refine ⟨_, rfl, _, rfl, scal_m hv hu, _, rfl, ?_⟩
  have dep : ∀ y : T3, (PyData.tuple (y.map PyData.int)).depth ≤ 60 := fun y => Nat.le_trans (depth_tints _) (by decide)
  by_cases e : v = u.v
  · rw [decide_eq_true e, if_pos rfl]
    have ix : ∀ (i : Int) (w' : V), atI [V.int u.a, V.int u.b, V.int u.d] i = some w' → Ev (tOp (rIxT K) (tVar 4) (tC (.int i))) [some (.ref q0), some (.ref b), some v, some (.ref fa), some (.ref la), some u.v] H w' := fun i w' h => ev_ixT (ev_var rfl) ev_c (SqT.of h3) h
    refine ⟨_, rfl, te_tup (ea_cons (ix 0 (.int u.a) rfl) (ea_cons (ix 1 (.int u.b) rfl) (ea_cons (ev_I0 (ix 2 (.int u.d) rfl) ev_c) ea_nil))) (by show 3 ≤ sizeLine; decide) fun t nt => ?_⟩
    refine ⟨_, _, Dp.ints (ns := [x.1, x.2.1, x.2.2]) (SqT.of (by rw [upd_ne (ne_of_none hb nt)]; exact hb)), Dp.ints (ns := [u.a, u.b, u.d + 1]) (SqT.of upd_same), dep _, ?_⟩
    rw [eqv_tints]
    rw [show decide ([x.1, x.2.1, x.2.2] = [u.a, u.b, u.d + 1]) = decide (v = u.v ∧ x = (u.a, u.b, u.d + 1)) by
      refine decide_eq_decide.mpr ⟨fun h => ⟨e, ?_⟩, fun h => by rw [h.2]⟩
      injection h with a1 h
      injection h with a2 h
      injection h with a3 h
      exact Prod.ext a1 (Prod.ext a2 a3)]
    exact q _ ((Same.refl H).upd nt)
  · rw [decide_eq_false e, if_neg (by simp)]
    have := q H (Same.refl H)
    rw [decide_eq_false (fun h => e h.1)] at this
    exact this
theorem ok_Runs {f : Addr} {fd : FuncData} (F : Fun K "runs" "runs" sRuns f fd) (T : Txt K mg) (gGoes : Callee P w K mg base "goes_on" 1 ["run", "spot", "mark"] (spGoes K)) : FnOk P w K mg base CX0 2 f fd ["marks"] (spRuns K) := by
  have sc : FnScope ["marks", "found", "spot"] ["marks"] (defScope sRuns) := ⟨rfl, rfl, rfl, by decide +kernel, rfl, by decide +kernel, by decide +kernel⟩
  refine F.ok sc (fun vs H Q E h => by repeat (first | (obtain ⟨rfl, _⟩ := h; rfl) | (obtain ⟨_, h⟩ := h))) (fun cdv A outer s H vs Q E hr h => ?_)
  obtain ⟨e, pl, kvs, rfl, he, hM, q⟩ := h
  refine ⟨_, (pss_cons (ps_set (i := 1) sc.nd rfl (Or.inl rfl) (pe_lst pa_nil))
  (pss_cons (ps_for PassesOwn.never rfl (pi_list (pe_callB (call_sortedL rfl) (by rfl) T.sorted_ bt_sorted (pa_cons (pv 0) pa_nil))) (pg_name (i := 2) sc.nd rfl (Or.inl rfl))
  (pss_one (ps_if (pw_and (pt_cmpR op_gt (pe_callB call_len (by rfl) T.len_ bt_len (pa_cons (pv 1) pa_nil)) pe_int (nomark _)) (pw_and1 (pt_val (pe_cal gGoes (hr.mono (by decide)) (by rfl) (pa_cons (pe_ix ix_list (pv 1) (pe_un un_neg pe_int) (fun _ _ => rfl)) (pa_cons (pv 2) (pa_cons (pe_dget (Room.one hr) (pv 0) (pv 2) (fun _ _ => rfl)) pa_nil))))))).pt
  (pss_one (ps_asg (pe_tup (pa_cons (pe_ix ix_tup (pe_ix ix_list (pv 1) (pe_un un_neg pe_int) (fun _ _ => rfl)) pe_int (fun _ _ => rfl)) (pa_cons (pv 2) (pa_cons (pe_dget (Room.one hr) (pv 0) (pv 2) (fun _ _ => rfl)) pa_nil)))) (pg_sub (pv 1) (pe_un un_neg pe_int) set_list)))
  (pss_one (ps_expr (pe_bm PySem.F.plainAttrs_list PySem.F.slot_list_append PySem.F.type_list_append mt_append (pv 1) (pa_cons (pe_tup (pa_cons (pv 2) (pa_cons (pv 2) (pa_cons (pe_dget (Room.one hr) (pv 0) (pv 2) (fun _ _ => rfl)) pa_nil)))) pa_nil)))))))
  (pss_one (ps_ret (pv 1))))), ?_⟩
  refine ⟨by show 0 ≤ sizeLine; decide, fun l nl => ?_⟩
  have s0 : Same H (upd H l (.lst [])) := (Same.refl H).upd nl
  have l0 : upd H l (.lst []) l = some (.lst []) := upd_same
  revert s0 l0
  generalize upd H l (.lst []) = H1
  intro s0 l0
  obtain ⟨cs, k1, k2, k3, k4⟩ := srt_of hM
  refine ⟨_, rfl, e, kvs, cs, rfl, s0 _ _ he, k1, k2, k3, fun sl bs ds nsl ht hp hs => ?_⟩
  have S := k4 ds hp hs
  have ln4 := hM.ln
  have s2 : Same H1 (upd H1 sl (.lst (bs.map V.ref))) := (Same.refl H1).upd nsl
  have e2 : upd H1 sl (.lst (bs.map V.ref)) sl = some (.lst (bs.map V.ref)) := upd_same
  have nsl' : sl ≠ l := fun z => by rw [z, l0] at nsl; cases nsl
  revert s2 e2
  generalize upd H1 sl (.lst (bs.map V.ref)) = H2
  intro s2 e2
  have lb : bs.length = ds.length := Paired.length ht
  have nel : e ≠ l := ne_of_none he nl
  refine ⟨sl, rfl, ⟨_, SqL.of e2⟩, for_list (K := K) (a := sl) (xs := bs.map V.ref) (fun i σ H' => ∃ (x2 : Option V) (qs : List Addr) (us : List Rn), σ = [some (.ref e), some (.ref l), x2] ∧ Sb l H2 H' ∧ H' l = some (.lst (qs.map V.ref)) ∧ RunsAt H' qs us ∧ IvN kvs ds i us ∧ us.length ≤ i)
    ⟨none, [], [], rfl, Sb.refl l H2, s2 _ _ l0, .nil, .inl ⟨rfl, rfl⟩, Nat.le_refl _⟩ (fun i σ H' _ ⟨_, _, _, _, sb, _⟩ => .inl (.inl (sb _ _ nsl' e2))) ?_ ?_⟩
  · rintro i v σ H3 hi ⟨x2, qs, us, rfl, sb3, hl3, hr3, hI, hul⟩
    have hib : i < bs.length := by have := (List.getElem?_eq_some_iff.mp hi).1; rwa [List.length_map] at this
    have hy : v = .ref bs[i] := by
      rw [List.getElem?_map, List.getElem?_eq_getElem hib] at hi
      exact (Option.some.inj hi).symm
    subst hy
    obtain ⟨d, ed, hd1⟩ := ht.at (i := i) (a := bs[i]) (by simp [hib])
    obtain ⟨x, y, z, rfl⟩ := S.tri d (List.mem_of_getElem? ed)
    have tk : ∀ {H' : Hp} {b : Addr} {ys : List V}, Sb l H2 H' → H1 b = some (.tup ys) → H' b = some (.tup ys) := fun {H' b ys} sb h => sb _ _ (ne_of h l0 (by intro z; cases z)) (s2 _ _ h)
    have hb3 : H3 bs[i] = some (.tup [.int x, .int y, .int z]) := tk sb3 hd1
    have he2 : H2 e = some (.dT kvs) := s2 _ _ (s0 _ _ he)
    have he3 := sb3 _ _ nel he2
    obtain ⟨v, hv⟩ := Option.isSome_iff_exists.mp ((S.key x y z).mpr (List.mem_of_getElem? ed))
    have hMv : MVal pl v := hM.vl _ (mem_valV hv)
    have gd : ∀ {H' : Hp}, Sb l H2 H' → DGet H' e (.ref bs[i]) (some v) := fun {H'} sb => by
      have g := dg (x := [x, y, z]) (.inl (sb _ _ nel he2)) (tk sb hd1)
      rwa [show valV kvs (iK [x, y, z]) = some v from hv] at g
    have lq : qs.length = us.length := Paired.length hr3
    refine gn ?_
    have app : ∀ {H' : Hp} {qs : List Addr} {us : List Rn}, Sb l H2 H' → H' l = some (.lst (qs.map V.ref)) → RunsAt H' qs us → IvN kvs ds (i + 1) (us ++ [⟨x, y, z, z, v⟩]) → us.length ≤ i → tDrop (tBM K "list" rAppend (tVar 1) (tCons (tTup (tCons (tVar 2) (tCons (tVar 2) (tCons (tDGet (tVar 0) (tVar 2)) tNil)))) tNil)) { nx := fun σ H' => ∃ (x2 : Option V) (qs : List Addr) (us : List Rn), σ = [some (.ref e), some (.ref l), x2] ∧ Sb l H2 H' ∧ H' l = some (.lst (qs.map V.ref)) ∧ RunsAt H' qs us ∧ IvN kvs ds (i + 1) us ∧ us.length ≤ i + 1, rt := Q } [some (.ref e), some (.ref l), some (.ref bs[i])] H' := by
      intro H4 qs us sb4 hl4 hr4 hI4 hul4
      have lq : qs.length = us.length := Paired.length hr4
      refine ⟨_, rfl, .inl ⟨rfl, _, SqL.of hl4⟩, te_tup (ea_cons (ev_var rfl) (ea_cons (ev_var rfl) (ea_cons (ev_dget (ev_var rfl) (ev_var rfl) (gd sb4)) ea_nil))) (by show 3 ≤ sizeLine; decide) fun t nt => ?_⟩
      have s5 : Same H4 (upd H4 t (.tup [.ref bs[i], .ref bs[i], v])) := (Same.refl H4).upd nt
      have e5 : upd H4 t (.tup [.ref bs[i], .ref bs[i], v]) t = some (.tup [.ref bs[i], .ref bs[i], v]) := upd_same
      revert s5 e5
      generalize upd H4 t (.tup [.ref bs[i], .ref bs[i], v]) = H5
      intro s5 e5
      have sb5 := sb4.trans (Sb.of s5)
      have hl5 := s5 _ _ hl4
      have sbu : Sb l H5 (upd H5 l (.lst (qs.map V.ref ++ [.ref t]))) := (Sb.refl l H5).set
      refine ⟨l, _, _, rfl, rfl, hl5, (by rw [List.length_map]; exact small1000 (by have := S.len; omega)), _, qs ++ [t], us ++ [⟨x, y, z, z, v⟩], rfl, sb5.trans sbu, ?_, ?_, hI4, ?_⟩
      · rw [upd_same, List.map_append]; rfl
      · have ht5 : RunAt H5 t ⟨x, y, z, z, v⟩ := ⟨_, _, e5, tk sb5 hd1, tk sb5 hd1⟩
        exact pr_app (Paired.mapP hr4 fun _ _ w => (w.same s5).sb sbu hl5) (.cons (ht5.sb sbu hl5) .nil)
      · rw [List.length_append]; show us.length + 1 ≤ i + 1; omega
    rcases hI with ⟨rfl, rfl⟩ | ⟨j, ws, u, rfl, rfl, hI⟩
    · cases hr3
      refine rd_ifof (te_and (a := false) (et_of (et_test (ev_I0 (g := fun i j => .bl (decide (j < i))) (i := 0) (j := 0) (ev_cb (ea_cons (ev_var rfl) ea_nil) fun Q' q' => ⟨_, 0, rfl, .inl ⟨_, SqL.of hl3, rfl⟩, q'⟩) ev_c)) rfl) (fun z => nomatch z) fun _ => iteF ?_)
      exact app sb3 hl3 .nil (.inr ⟨0, [], _, rfl, rfl, Iv.zero S ed hv⟩) (Nat.le_refl _)
    · obtain ⟨qs', q1, rfl, hr', hq1⟩ := pr_last hr3
      have hMu : MVal pl u.v := hM.vl _ (mem_valV (hI.ou.all u.c (Int.le_refl _) hI.ou.le))
      have lastE : ∀ {H' : Hp}, H' l = some (.lst ((qs' ++ [q1]).map V.ref)) → Ev (tOp (rIxL K) (tVar 1) (tUn (rU fun i => V.int (-i)) (tC (.int 1)))) [some (.ref e), some (.ref l), some (.ref bs[j + 1])] H' (.ref q1) := fun {H'} h => ev_ixL (ev_var rfl) (ev_U ev_c) (SqL.of h) (by rw [List.map_append]; exact atI_last _ _)
      refine rd_ifof (te_and (a := true) (et_of (et_test (ev_I0 (g := fun i j => .bl (decide (j < i))) (i := ((qs' ++ [q1]).length : Nat)) (j := 0) (ev_cb (ea_cons (ev_var rfl) ea_nil) fun Q' q' => ⟨_, _, rfl, .inl ⟨_, SqL.of hl3, (by rw [List.length_map])⟩, q'⟩) ev_c)) (by simp)) (fun _ => ?_) (fun z => nomatch z))
      refine te_cal (ea_cons (lastE hl3) (ea_cons (ev_var rfl) (ea_cons (ev_dget (ev_var rfl) (ev_var rfl) (gd sb3)) ea_nil))) ⟨q1, bs[j + 1], v, u, (x, y, z), pl, rfl, hq1, hb3, hMv, hMu, fun H4 s4 => ⟨_, rfl, ?_⟩⟩
      have sb4 := sb3.trans (Sb.of s4)
      have hl4 := s4 _ _ hl3
      by_cases go : v = u.v ∧ (x, y, z) = (u.a, u.b, u.d + 1)
      · rw [decide_eq_true go]
        refine iteT ?_
        obtain ⟨gv, gx⟩ := go
        obtain ⟨fa, la, g1, g2, g3⟩ := hq1.same s4
        injection gx with gx gy
        injection gy with gy gz
        subst gx gy gz gv
        refine te_tup (ea_cons (ev_ixT (lastE hl4) ev_c (SqT.of g1) rfl) (ea_cons (ev_var rfl) (ea_cons (ev_dget (ev_var rfl) (ev_var rfl) (gd sb4)) ea_nil))) (by show 3 ≤ sizeLine; decide) fun t nt => ?_
        have s5 : Same H4 (upd H4 t (.tup [.ref fa, .ref bs[j + 1], u.v])) := (Same.refl H4).upd nt
        have e5 : upd H4 t (.tup [.ref fa, .ref bs[j + 1], u.v]) t = some (.tup [.ref fa, .ref bs[j + 1], u.v]) := upd_same
        revert s5 e5
        generalize upd H4 t (.tup [.ref fa, .ref bs[j + 1], u.v]) = H5
        intro s5 e5
        have sb5 := sb4.trans (Sb.of s5)
        have hl5 := s5 _ _ hl4
        refine ⟨_, rfl, 1, rfl, l, _, -1, qs'.length, rfl, rfl, hl5, (by have := ixN_last (qs'.map V.ref) (.ref q1); rw [List.length_map] at this; rw [List.map_append]; exact this), ?_⟩
        have sbu : Sb l H5 (upd H5 l (.lst (((qs' ++ [q1]).map V.ref).set qs'.length (.ref t)))) := (Sb.refl l H5).set
        refine ⟨_, qs' ++ [t], ws ++ [⟨u.a, u.b, u.c, u.d + 1, u.v⟩], rfl, sb5.trans sbu, ?_, ?_, .inr ⟨j + 1, ws, _, rfl, rfl, hI.go ed hv⟩, ?_⟩
        · rw [upd_same, List.map_append, List.set_append_right _ _ (by rw [List.length_map]; omega), List.length_map, Nat.sub_self, List.map_append]; rfl
        · have ht5 : RunAt H5 t ⟨u.a, u.b, u.c, u.d + 1, u.v⟩ := ⟨_, _, e5, s5 _ _ g2, tk sb5 hd1⟩
          exact pr_app (Paired.mapP hr' fun _ _ w => ((w.same s4).same s5).sb sbu hl5) (.cons (ht5.sb sbu hl5) .nil)
        · rw [List.length_append] at hul ⊢; exact Nat.le_succ_of_le hul
      · rw [decide_eq_false go]
        refine iteF ?_
        exact app sb4 hl4 (Paired.mapP hr3 fun _ _ w => w.same s4) (.inr ⟨j + 1, _, _, rfl, rfl, hI.new S ed hv go⟩) hul
  · rintro σ H3 ⟨x2, qs, us, rfl, sb3, hl3, hr3, hI, hul⟩
    rw [List.length_map, lb] at hI
    refine ⟨_, rfl, q l qs us H3 (((Sb.of (s0.trans s2)).trans sb3).same nl) nl hl3 hr3 ?_⟩
    rcases hI with ⟨z, rfl⟩ | ⟨j, ws, u, z, rfl, hI⟩
    · refine ⟨(by intro _ w; cases w), List.Pairwise.nil, ?_⟩
      rw [← S.len, z]
      rfl
    · exact hI.done S z
theorem ok_Whole {f : Addr} {fd : FuncData} (F : Fun K "_law_whole" "_law_whole" sWhole f fd) (T : Txt K mg) : FnOk P w K mg base CX0 1 f fd ["found"] spWhole := by
  have sc : FnScope ["found"] ["found"] (defScope sWhole) := ⟨rfl, rfl, rfl, by decide +kernel, rfl, by decide +kernel, by decide +kernel⟩
  refine F.ok sc (fun vs H Q E h => by repeat (first | (obtain ⟨rfl, _⟩ := h; rfl) | (obtain ⟨_, h⟩ := h))) (fun cdv A outer s H vs Q E hr h => ?_)
  obtain ⟨i, rfl, q⟩ := h
  refine ⟨_, (pss_one (ps_ret (pe_and (pe_callB call_isinst (by rfl) T.isinstance_ bt_isinstance (pa_cons (pv 0) (pa_cons (pe_bltn (v := .ty "int") (by rfl) T.int_ bt_int (by rfl)) pa_nil))) (pe_one (pe_not (pe_callB call_isinst (by rfl) T.isinstance_ bt_isinstance (pa_cons (pv 0) (pa_cons (pe_bltn (v := .ty "bool") (by rfl) T.bool_ bt_bool (by rfl)) pa_nil)))))))), ?_⟩
  exact rd_ret (ev_and (a := true) (ev_cb (ea_cons (ev_var rfl) (ea_cons ev_c ea_nil)) fun Q' q' => ⟨_, _, _, _, _, rfl, .ty "int", .int i, T.ii, q'⟩) fun _ => ev_notV (ev_cb (v := .bl false) (ea_cons (ev_var rfl) (ea_cons ev_c ea_nil)) fun Q' q' => ⟨_, _, _, _, _, rfl, .ty "bool", .int i, T.ib, q'⟩)) q
theorem ok_Cell {f : Addr} {fd : FuncData} (F : Fun K "_law_cell_at" "_law_cell_at" sCell f fd) (T : Txt K mg) : FnOk P w K mg base CX0 1 f fd ["script", "k"] (spCell K) := by
  have sc : FnScope ["script", "k"] ["script", "k"] (defScope sCell) := ⟨rfl, rfl, rfl, by decide +kernel, rfl, by decide +kernel, by decide +kernel⟩
  refine F.ok sc (fun vs H Q E h => by repeat (first | (obtain ⟨rfl, _⟩ := h; rfl) | (obtain ⟨_, h⟩ := h))) (fun cdv A outer s H vs Q E hr h => ?_)
  obtain ⟨a, ns, i, rfl, ha, h0, q⟩ := h
  refine ⟨_, (pss_cons (ps_if (pt_cmpR op_lt (pv 1) (pe_callB call_len (by rfl) T.len_ bt_len (pa_cons (pv 0) pa_nil)) (nomark _))
  (pss_one (ps_ret (pe_ix ix_list (pv 0) (pv 1) (fun _ _ => rfl))))
  pss_nil)
  (pss_one (ps_ret pe_int))), ?_⟩
  refine rd_if (et_test (ev_I0 (ev_var rfl) (ev_cb (ea_cons (ev_var rfl) ea_nil) fun Q' q' => ⟨_, _, rfl, by first | exact .inl ⟨_, by assumption, rfl⟩ | exact .inl ⟨_, SqL.of (by assumption), rfl⟩ | exact .inr ⟨_, by assumption, rfl⟩ | exact .inr ⟨_, SqT.of (by assumption), rfl⟩, q'⟩))) (fun e => ?_) (fun _ => ?_)
  · have hlt : i < ((ns.map V.int).length : Int) := of_decide_eq_true e
    rw [List.length_map] at hlt
    obtain ⟨j, rfl⟩ := Int.eq_ofNat_of_zero_le h0
    have hj : j < ns.length := by omega
    exact rd_ret (ev_ixL (v := .int ns[j]) (ev_var rfl) (ev_var rfl) ha (atI_nat (by simp [hj]))) (q _)
  · exact q 0
theorem ok_SpotL {f : Addr} {fd : FuncData} (F : Fun K "_law_spot" "_law_spot" sSpotL f fd) (T : Txt K mg) (gWhole : Callee P w K mg base "_law_whole" 1 ["found"] spWhole) : FnOk P w K mg base CX0 2 f fd ["found"] spSpotL := by
  have sc : FnScope ["found"] ["found"] (defScope sSpotL) := ⟨rfl, rfl, rfl, by decide +kernel, rfl, by decide +kernel, by decide +kernel⟩
  refine F.ok sc (fun vs H Q E h => by repeat (first | (obtain ⟨rfl, _⟩ := h; rfl) | (obtain ⟨_, h⟩ := h))) (fun cdv A outer s H vs Q E hr h => ?_)
  obtain ⟨b, x, y, z, rfl, hb, q⟩ := h
  refine ⟨_, (pss_cons (ps_if (pw_or (pt_not (pt_val (pe_callB call_isinst (by rfl) T.isinstance_ bt_isinstance (pa_cons (pv 0) (pa_cons (pe_bltn (v := .ty "tuple") (by rfl) T.tuple_ bt_tuple (by rfl)) pa_nil))))) (pw_or1 (pt_cmpR op_ne (pe_callB call_len (by rfl) T.len_ bt_len (pa_cons (pv 0) pa_nil)) pe_int (nomark _)))).pt
  (pss_one (ps_ret pe_bl))
  pss_nil)
  (pss_one (ps_ret (pe_and (pe_cal gWhole (hr.mono (by decide)) (by rfl) (pa_cons (pe_ix ix_tup (pv 0) pe_int (fun _ _ => rfl)) pa_nil)) (pe_and (pe_cal gWhole (hr.mono (by decide)) (by rfl) (pa_cons (pe_ix ix_tup (pv 0) pe_int (fun _ _ => rfl)) pa_nil)) (pe_one (pe_cal gWhole (hr.mono (by decide)) (by rfl) (pa_cons (pe_ix ix_tup (pv 0) pe_int (fun _ _ => rfl)) pa_nil)))))))), ?_⟩
  refine sq_if (b := false) (et_of (et_or (et_not (et_B (ev_cb (v := .bl true) (ea_cons (ev_var rfl) (ea_cons ev_c ea_nil)) fun Q' q' => ⟨_, _, _, _, _, rfl, .ty "tuple", .tup hb, T.tt, q'⟩))) fun _ => et_test (ev_neI (i := 3) (j := 3) (ev_cb (ea_cons (ev_var rfl) ea_nil) fun Q' q' => ⟨_, _, rfl, .inr ⟨_, SqT.of hb, rfl⟩, q'⟩) ev_c)) rfl) (fun z => nomatch z) (fun _ => ?_)
  have e0 : ∀ (i : Int) (v : V), atI [V.int x, V.int y, V.int z] i = some v → Ev (tOp (rIxT K) (tVar 0) (tC (.int i))) [some (.ref b)] H v := fun i v h => ev_ixT (ev_var rfl) ev_c (SqT.of hb) h
  refine te_cal (ea_cons (e0 0 (.int x) rfl) ea_nil) ⟨x, rfl, true, rfl, ?_⟩
  rw [if_pos rfl]
  refine te_cal (ea_cons (e0 1 (.int y) rfl) ea_nil) ⟨y, rfl, true, rfl, ?_⟩
  rw [if_pos rfl]
  exact te_cal (ea_cons (e0 2 (.int z) rfl) ea_nil) ⟨z, rfl, q⟩
theorem ok_BoxG {f : Addr} {fd : FuncData} (F : Fun K "_law_box_good" "_law_box_good" sBoxG f fd) (T : Txt K mg) (gSpotL : Callee P w K mg base "_law_spot" 2 ["found"] spSpotL) : FnOk P w K mg base CX0 3 f fd ["found", "one", "two"] (spBoxG K) := by
  have sc : FnScope ["found", "one", "two", "many", "k", "at"] ["found", "one", "two"] (defScope sBoxG) := ⟨rfl, rfl, rfl, by decide +kernel, rfl, by decide +kernel, by decide +kernel⟩
  refine F.ok sc (fun vs H Q E h => by repeat (first | (obtain ⟨rfl, _⟩ := h; rfl) | (obtain ⟨_, h⟩ := h))) (fun cdv A outer s H vs Q E hr h => ?_)
  obtain ⟨l, b, c, bs, f, s, f', s', rfl, hl, ht, hb, hc, nr, ho, q⟩ := h
  refine ⟨_, (pss_cons (ps_if (pt_not (pt_val (pe_callB call_isinst (by rfl) T.isinstance_ bt_isinstance (pa_cons (pv 0) (pa_cons (pe_bltn (v := .ty "list") (by rfl) T.list_ bt_list (by rfl)) pa_nil)))))
  (pss_one (ps_ret pe_bl))
  pss_nil)
  (pss_cons (ps_set (i := 3) sc.nd rfl (Or.inl rfl) pe_int)
  (pss_cons (ps_for PassesOwn.never rfl (pi_range1 (by rfl) T.range_ (pa_cons pe_int pa_nil)) (pg_name (i := 4) sc.nd rfl (Or.inl rfl))
  (pss_one (ps_set (i := 3) sc.nd rfl (Or.inl rfl) (pe_op op_mul (pv 3) (pe_op op_add pe_int (pe_callB call_abs (by rfl) T.abs_ bt_abs (pa_cons (pe_op op_sub (pe_ix ix_tup (pv 1) (pv 4) (fun _ _ => rfl)) (pe_ix ix_tup (pv 2) (pv 4) (fun _ _ => rfl))) pa_nil)))))))
  (pss_cons (ps_if (pt_cmpR op_ne (pe_callB call_len (by rfl) T.len_ bt_len (pa_cons (pv 0) pa_nil)) (pv 3) (nomark _))
  (pss_one (ps_ret pe_bl))
  pss_nil)
  (pss_cons (ps_for PassesOwn.never rfl (pi_range1 (by rfl) T.range_ (pa_cons (pv 3) pa_nil)) (pg_name (i := 5) sc.nd rfl (Or.inl rfl))
  (pss_cons (ps_if (pt_not (pt_val (pe_cal gSpotL (hr.mono (by decide)) (by rfl) (pa_cons (pe_ix ix_list (pv 0) (pv 5) (fun _ _ => rfl)) pa_nil))))
  (pss_one (ps_ret pe_bl))
  pss_nil)
  (pss_cons (ps_for PassesOwn.never rfl (pi_range1 (by rfl) T.range_ (pa_cons pe_int pa_nil)) (pg_name (i := 4) sc.nd rfl (Or.inl rfl))
  (pss_one (ps_if (pw_or (pt_cmpR op_lt (pe_ix ix_tup (pe_ix ix_list (pv 0) (pv 5) (fun _ _ => rfl)) (pv 4) (fun _ _ => rfl)) (pe_callB (call_min2 rfl) (by rfl) T.min_ bt_min (pa_cons (pe_ix ix_tup (pv 1) (pv 4) (fun _ _ => rfl)) (pa_cons (pe_ix ix_tup (pv 2) (pv 4) (fun _ _ => rfl)) pa_nil))) (nomark _)) (pw_or1 (pt_cmpR op_gt (pe_ix ix_tup (pe_ix ix_list (pv 0) (pv 5) (fun _ _ => rfl)) (pv 4) (fun _ _ => rfl)) (pe_callB (call_max2 rfl) (by rfl) T.max_ bt_max (pa_cons (pe_ix ix_tup (pv 1) (pv 4) (fun _ _ => rfl)) (pa_cons (pe_ix ix_tup (pv 2) (pv 4) (fun _ _ => rfl)) pa_nil))) (nomark _)))).pt
  (pss_one (ps_ret pe_bl))
  pss_nil)))
  (pss_one (ps_if (pw_and (pt_cmpR op_gt (pv 5) pe_int (nomark _)) (pw_and1 (pt_not (pt_cmpR (op_ltT (Room.lt hr)) (pe_ix ix_list (pv 0) (pe_op op_sub (pv 5) pe_int) (fun _ _ => rfl)) (pe_ix ix_list (pv 0) (pv 5) (fun _ _ => rfl)) (nomark _))))).pt
  (pss_one (ps_ret pe_bl))
  pss_nil)))))
  (pss_one (ps_ret pe_bl))))))), ?_⟩
  have hmn : ∀ k, min (cp f' k) (cp s' k) = min (cp f k) (cp s k) := fun k => by
    rcases ho with ⟨rfl, rfl⟩ | ⟨rfl, rfl⟩
    · rfl
    · exact Int.min_comm _ _
  have hmx : ∀ k, max (cp f' k) (cp s' k) = max (cp f k) (cp s k) := fun k => by
    rcases ho with ⟨rfl, rfl⟩ | ⟨rfl, rfl⟩
    · rfl
    · exact Int.max_comm _ _
  have hw : ∀ k, (1 + if cp f' k - cp s' k < 0 then -(cp f' k - cp s' k) else cp f' k - cp s' k) = wd f s k := fun k => by
    have h1 := hmn k
    have h2 := hmx k
    unfold wd
    rw [← h1, ← h2]
    split <;> omega
  have hwb : ∀ k, 1 ≤ wd f s k ∧ wd f s k ≤ 5 := fun k => by
    unfold wd cp
    unfold Near at nr
    split
    · omega
    · split <;> omega
  refine sq_if (b := false) (et_of (et_not (et_B (ev_cb (v := .bl true) (ea_cons (ev_var rfl) (ea_cons ev_c ea_nil)) fun Q' q' => ⟨_, _, _, _, _, rfl, .ty "list", .lst hl, T.ll, q'⟩))) rfl) (fun z => nomatch z) (fun _ => ?_)
  refine sq_set ev_c ?_
  refine sq_rng1 (ea_cons ev_c ea_nil) (by decide) (by decide) (for_range (fun k σ H' => ∃ x4 : Option V, σ = [some (.ref l), some (.ref b), some (.ref c), some (.int (prd f s k)), x4, none] ∧ H' = H) ⟨none, rfl, rfl⟩ ?_ ?_)
  · rintro k σ H hk ⟨x4, rfl, rfl⟩
    have hk : k < 3 := hk
    refine gn ?_
    refine rd_set (v := .int (prd f s k * wd f s k)) (ev_of (ev_I (g := fun i j => V.int (i * j)) (ev_var rfl) (ev_I0 (g := fun i j => V.int (i + j)) ev_c (ev_cb (v := .int (if cp f' k - cp s' k < 0 then -(cp f' k - cp s' k) else cp f' k - cp s' k)) (ea_cons (ev_I0 (g := fun i j => V.int (i - j)) (ev_ixT (ev_var rfl) (ev_var rfl) (SqT.of hb) (cp_at hk)) (ev_ixT (ev_var rfl) (ev_var rfl) (SqT.of hc) (cp_at hk))) ea_nil) fun Q' q' => ⟨_, rfl, q'⟩)) (.inr (by rw [hw]; have := hwb k; omega))) (by rw [hw])) ?_
    exact ⟨_, rfl, rfl⟩
  · rintro σ H ⟨x4, rfl, rfl⟩
    have lb : bs.length = (boxL f s).length := Paired.length ht
    have lP : prd f s 3 = (bs.length : Int) := by rw [lb, boxL_len]
    have lB : prd f s 3 ≤ 125 := by
      show 1 * wd f s 0 * wd f s 1 * wd f s 2 ≤ 125
      have h0 := hwb 0
      have h1 := hwb 1
      have h2 := hwb 2
      rw [Int.one_mul]
      have := Int.mul_le_mul (Int.mul_le_mul h0.2 h1.2 (by omega) (by omega)) h2.2 (by omega) (by omega)
      omega
    rw [lP] at lB
    rw [show prd f s (Int.toNat 3) = ((bs.length : Nat) : Int) from lP]
    dsimp only
    refine sq_ifF (et_test (ev_neI (i := ((bs.length : Nat) : Int)) (j := ((bs.length : Nat) : Int)) (ev_cb (ea_cons (ev_var rfl) ea_nil) fun Q' q' => ⟨_, _, rfl, .inl ⟨_, SqL.of hl, (by rw [List.length_map])⟩, q'⟩) (ev_var rfl))) (by simp) ?_
    refine sq_rng1 (ea_cons (ev_var rfl) ea_nil) (by omega) (by omega) (for_range (fun i σ H' => ∃ x4 x5 : Option V, σ = [some (.ref l), some (.ref b), some (.ref c), some (.int (bs.length : Nat)), x4, x5] ∧ H' = H) ⟨_, _, rfl, rfl⟩ ?_ ?_)
    · rintro i σ H hi ⟨x4, x5, rfl, rfl⟩
      have hi : i < bs.length := by omega
      refine gn ?_
      obtain ⟨d, ed, hd⟩ := ht.at (i := i) (a := bs[i]) (by simp [hi])
      obtain ⟨g, rfl, hg⟩ := boxL_mem (List.mem_of_getElem? ed)
      have ixl : ∀ {σ : St} {te : TE} {j : Nat} (hj : j < bs.length), σ[0]? = some (some (.ref l)) → Ev te σ H (.int ((j : Nat) : Int)) → Ev (tOp (rIxL K) (tVar 0) te) σ H (.ref bs[j]) := fun {σ te j} hj e1 e2 => ev_ixL (ev_var e1) e2 (SqL.of hl) (atI_nat (by simp [hj]))
      have z5 : Ev (tVar 5) [some (.ref l), some (.ref b), some (.ref c), some (.int (bs.length : Nat)), x4, some (.int ((0 : Int) + (i : Nat)))] H (.int ((i : Nat) : Int)) := ev_of (ev_var rfl) (by rw [Int.zero_add])
      refine sq_ifof (te_cal (ea_cons (ixl hi rfl z5) ea_nil) ⟨_, g.1, g.2.1, g.2.2, rfl, hd, true, rfl, iteF ?_⟩)
      refine sq_rng1 (ea_cons ev_c ea_nil) (by decide) (by decide) (for_range (fun k σ H' => ∃ x4 : Option V, σ = [some (.ref l), some (.ref b), some (.ref c), some (.int (bs.length : Nat)), x4, some (.int ((0 : Int) + (i : Nat)))] ∧ H' = H) ⟨_, rfl, rfl⟩ ?_ ?_)
      · rintro k σ H hk ⟨x4, rfl, rfl⟩
        have hk : k < 3 := hk
        refine gn ?_
        have z5 : Ev (tVar 5) [some (.ref l), some (.ref b), some (.ref c), some (.int (bs.length : Nat)), some (.int ((0 : Int) + (k : Nat))), some (.int ((0 : Int) + (i : Nat)))] H (.int ((i : Nat) : Int)) := ev_of (ev_var rfl) (by rw [Int.zero_add])
        have eg := ev_ixT (K := K) (ixl hi rfl z5) (ev_var (n := 4) rfl) (SqT.of hd) (cp_at (g := g) hk)
        have eb := ev_ixT (K := K) (ev_var (n := 1) (σ := [some (.ref l), some (.ref b), some (.ref c), some (.int (bs.length : Nat)), some (.int ((0 : Int) + (k : Nat))), some (.int ((0 : Int) + (i : Nat)))]) rfl) (ev_var (n := 4) rfl) (SqT.of hb) (cp_at (g := f') hk)
        have ec := ev_ixT (K := K) (ev_var (n := 2) (σ := [some (.ref l), some (.ref b), some (.ref c), some (.int (bs.length : Nat)), some (.int ((0 : Int) + (k : Nat))), some (.int ((0 : Int) + (i : Nat)))]) rfl) (ev_var (n := 4) rfl) (SqT.of hc) (cp_at (g := s') hk)
        refine rd_ifF (et_or (et_test (ev_lt eg (ev_cb (ea_cons eb (ea_cons ec ea_nil)) fun Q' q' => ⟨_, _, rfl, q'⟩))) fun _ => et_test (ev_I0 (g := fun i j => .bl (decide (j < i))) eg (ev_cb (ea_cons eb (ea_cons ec ea_nil)) fun Q' q' => ⟨_, _, rfl, q'⟩))) ?_ ⟨_, rfl, rfl⟩
        rw [mn_if, mx_if, hmn, hmx]
        have := hg k
        rw [decide_eq_false (by omega), decide_eq_false (by omega)]
        rfl
      · rintro σ H ⟨x4, rfl, rfl⟩
        by_cases i0 : i = 0
        · subst i0
          exact rd_ifF (et_and (b := false) (et_test (ev_I0 (g := fun i j => .bl (decide (j < i))) (i := 0) (j := 0) (ev_var rfl) ev_c)) fun z => by cases z) rfl ⟨_, _, rfl, rfl⟩
        · have z5 : Ev (tVar 5) [some (.ref l), some (.ref b), some (.ref c), some (.int (bs.length : Nat)), x4, some (.int ((0 : Int) + (i : Nat)))] H (.int ((i : Nat) : Int)) := ev_of (ev_var rfl) (by rw [Int.zero_add])
          have hi1 : i - 1 < bs.length := by omega
          obtain ⟨d1, ed1, hd1⟩ := ht.at (i := i - 1) (a := bs[i - 1]) (by simp [hi1])
          have lt := pw_next (boxL_srt f s) ed1 (by rw [show i - 1 + 1 = i by omega]; exact ed)
          refine rd_ifF (et_and (b := false) (et_test (ev_I0 (g := fun i j => .bl (decide (j < i))) z5 ev_c)) fun _ => et_of (et_not (et_test (ev_ltT (ixl hi1 rfl (ev_of (ev_I0 (g := fun i j => V.int (i - j)) z5 ev_c) (by rw [show ((i : Nat) : Int) - 1 = ((i - 1 : Nat) : Int) by omega]))) (ixl hi rfl z5) (SqT.of hd1) (SqT.of hd)))) (by rw [lt]; rfl)) (by simp) ⟨_, _, rfl, rfl⟩
    · rintro σ H ⟨x4, x5, rfl, rfl⟩
      exact q
theorem ok_Marks {f : Addr} {fd : FuncData} (F : Fun K "_law_marks" "_law_marks" sMarks f fd) (T : Txt K mg) (gCell : Callee P w K mg base "_law_cell_at" 1 ["script", "k"] (spCell K)) : FnOk P w K mg base CX0 2 f fd ["script", "base"] (spMarks K) := by
  have sc : FnScope ["script", "base", "marks", "plain", "cells", "k", "at", "by", "mark", "step"] ["script", "base"] (defScope sMarks) := ⟨rfl, rfl, rfl, by decide +kernel, rfl, by decide +kernel, by decide +kernel⟩
  refine F.ok sc (fun vs H Q E h => by repeat (first | (obtain ⟨rfl, _⟩ := h; rfl) | (obtain ⟨_, h⟩ := h))) (fun cdv A outer s H vs Q E hr h => ?_)
  obtain ⟨a, p, ns, x, y, z, rfl, ha, hn, hp, hx, hy, hz, q⟩ := h
  refine ⟨_, (pss_cons (ps_set (i := 2) sc.nd rfl (Or.inl rfl) pe_dnewT)
  (pss_cons (ps_set (i := 3) sc.nd rfl (Or.inl rfl) (pe_cmpR op_eq (pe_op op_mod (pe_cal gCell (hr.mono (by decide)) (by rfl) (pa_cons (pv 0) (pa_cons pe_int pa_nil))) pe_int) pe_int (nomark _)))
  (pss_cons (ps_set (i := 4) sc.nd rfl (Or.inl rfl) (pe_slice sl_list (pv 0) (po_some pe_int) (po_some pe_int)))
  (pss_cons (ps_for PassesOwn.never rfl (pi_range3 (by rfl) T.range_ (pa_cons pe_int (pa_cons (pe_callB call_len (by rfl) T.len_ bt_len (pa_cons (pv 4) pa_nil)) (pa_cons pe_int pa_nil)))) (pg_name (i := 5) sc.nd rfl (Or.inl rfl))
  (pss_cons (ps_set (i := 6) sc.nd rfl (Or.inl rfl) (pe_ix ix_list (pv 4) (pv 5) (fun _ _ => rfl)))
  (pss_cons (ps_set (i := 7) sc.nd rfl (Or.inl rfl) (pe_cal gCell (hr.mono (by decide)) (by rfl) (pa_cons (pv 4) (pa_cons (pe_op op_add (pv 5) pe_int) pa_nil))))
  (pss_cons (ps_set (i := 8) sc.nd rfl (Or.inl rfl) pe_bl)
  (pss_cons (ps_if (pt_not (pt_val (pv 3)))
  (pss_one (ps_set (i := 8) sc.nd rfl (Or.inl rfl) (pe_ix ix_list (pe_lst (pa_cons pe_int (pa_cons (pe_op op_pow pe_int pe_int) (pa_cons pe_int (pa_cons pe_int pa_nil))))) (pe_op op_mod (pv 7) pe_int) (fun _ _ => rfl))))
  pss_nil)
  (pss_one (ps_for PassesOwn.never rfl (pi_range1 (by rfl) T.range_ (pa_cons (pe_op op_add pe_int (pe_op op_mod (pe_op op_fdivB (pv 7) pe_int) pe_int)) pa_nil)) (pg_name (i := 9) sc.nd rfl (Or.inl rfl))
  (pss_one (ps_dput (Room.one hr) (pv 2) (pe_tup (pa_cons (pe_op op_add (pe_ix ix_list (pv 1) pe_int (fun _ _ => rfl)) (pe_op op_mod (pv 6) pe_int)) (pa_cons (pe_op op_add (pe_ix ix_list (pv 1) pe_int (fun _ _ => rfl)) (pe_op op_mod (pe_op op_fdivB (pv 6) pe_int) pe_int)) (pa_cons (pe_op op_add (pe_op op_add (pe_ix ix_list (pv 1) pe_int (fun _ _ => rfl)) (pe_op op_mod (pe_op op_fdivB (pv 6) pe_int) pe_int)) (pv 9)) pa_nil)))) (pv 8) (by rfl))))))))))
  (pss_one (ps_ret (pv 2))))))), ?_⟩
  refine fun e ne => ?_
  have s1 : Same H (upd H e (.dT [])) := (Same.refl H).upd ne
  have e1 : upd H e (.dT []) e = some (.dT []) := upd_same
  revert s1 e1
  generalize upd H e (.dT []) = H1
  intro s1 e1
  refine sq_asg (te_op (te_op (te_cal (ea_cons (ev_var rfl) (ea_cons ev_c ea_nil)) ⟨a, ns, 5, rfl, s1.seq ha, by decide, fun v => ⟨v, 3, rfl, rfl, (by show (0 : Int) < 3; decide), rfl, ?_⟩⟩)))
  generalize decide (V.int (v % 3) = V.int 1) = pl
  refine ⟨_, rfl, _, rfl, _, rfl, a, _, rfl, s1.seq ha, fun cl ncl => ?_⟩
  obtain ⟨cs, ecs, lcs⟩ := cut_int ns (some 6) (some 206)
  rw [ecs]
  have s2 : Same H1 (upd H1 cl (.lst (cs.map V.int))) := (Same.refl H1).upd ncl
  have e2 : upd H1 cl (.lst (cs.map V.int)) cl = some (.lst (cs.map V.int)) := upd_same
  revert s2 e2
  generalize upd H1 cl (.lst (cs.map V.int)) = H2
  intro s2 e2
  have he2 := s2 _ _ e1
  have nce : cl ≠ e := ne_of e2 he2 (by intro z; cases z)
  have hN : rngN 0 (cs.length : Nat) 2 ≤ 32 := by unfold rngN; split <;> omega
  have hN2 : ∀ i, i < rngN 0 (cs.length : Nat) 2 → 2 * i < cs.length := fun i hi => by unfold rngN at hi; split at hi <;> omega
  have keepL : ∀ {H' : Hp} {b : Addr} {xs : List V}, Sb e H2 H' → SqL K H b xs → SqL K H' b xs := fun {H' b xs} sb h => (((Sb.of (s1.trans s2)).trans sb).same ne).seq h
  have keepC : ∀ {H' : Hp}, Sb e H2 H' → SqL K H' cl (cs.map V.int) := fun {H'} sb => .inl (.inl (sb _ _ nce e2))
  refine gn ?_
  dsimp only
  refine sq_rng3 (i := 0) (j := (cs.length : Nat)) (k := 2) (ea_cons ev_c (ea_cons (ev_cb (v := .int (cs.length : Nat)) (ea_cons (ev_var rfl) ea_nil) fun Q' q' => ⟨_, _, rfl, .inl ⟨_, SqL.of e2, (by rw [List.length_map])⟩, q'⟩) (ea_cons ev_c ea_nil))) (by omega) (for_rangeS (fun i σ H' => ∃ (x5 x6 x7 x8 x9 : Option V) (kvs : List (List Key × V)), σ = [some (.ref a), some (.ref p), some (.ref e), some (.bl pl), some (.ref cl), x5, x6, x7, x8, x9] ∧ Sb e H2 H' ∧ H' e = some (.dT kvs) ∧ MkN pl (6 * i) kvs)
    ⟨_, _, _, _, _, [], rfl, Sb.refl e H2, he2, ⟨List.nodup_nil, (by intro _ z; cases z), (by intro _ z; cases z), Nat.zero_le _⟩⟩ ?_ ?_)
  · rintro i σ H3 hi ⟨x5, x6, x7, x8, x9, kvs, rfl, sb3, he3, hM⟩
    have h2i := hN2 i hi
    refine gn ?_
    refine sq_set (v := .int cs[2 * i]) (ev_ixL (ev_var rfl) (ev_var rfl) (keepC sb3) (by rw [show (0 : Int) + (i : Nat) * 2 = ((2 * i : Nat) : Int) by omega]; exact atI_nat (by simp [h2i]))) ?_
    generalize cs[2 * i] = at_
    refine sq_cal (ea_cons (ev_var rfl) (ea_cons (ev_I0 (g := fun i j => V.int (i + j)) (ev_var rfl) ev_c) ea_nil)) ⟨cl, cs, _, rfl, keepC sb3, by omega, fun by_ => ?_⟩
    refine sq_set ev_c ?_
    refine sq_R (fun σ H' => ∃ v, σ = [some (.ref a), some (.ref p), some (.ref e), some (.bl pl), some (.ref cl), some (.int (0 + (i : Nat) * 2)), some (.int at_), some (.int by_), some v, x9] ∧ MVal pl v ∧ Sb e H2 H' ∧ H' e = some (.dT kvs)) (fun R hR => ?_) ?_
    · cases pl with
      | true =>
        refine rd_ifF (et_not (et_B (ev_var rfl))) rfl ?_
        exact hR _ _ ⟨_, rfl, rfl, sb3, he3⟩
      | false =>
        refine rd_ifT (et_not (et_B (ev_var rfl))) rfl ?_
        have hl : EvA (tCons (tC (V.int 7)) (tCons (tOp (rI CPow fun i j => V.int (i ^ j.toNat)) (tC (V.int 10)) (tC (V.int 12))) (tCons (tC (V.int 0)) (tCons (tC (V.int 8)) tNil)))) [some (.ref a), some (.ref p), some (.ref e), some (.bl false), some (.ref cl), some (.int (0 + (i : Nat) * 2)), some (.int at_), some (.int by_), some (.bl true), x9] H3 ([7, 10 ^ 12, 0, 8].map V.int) := ea_cons ev_c (ea_cons (ev_I (g := fun i j => V.int (i ^ j.toNat)) ev_c ev_c ⟨by decide, by decide, by decide⟩) (ea_cons ev_c (ea_cons ev_c ea_nil)))
        refine rd_asg0 (te_op (te_lst hl (by show 4 ≤ sizeLine; decide) fun t nt => ?_))
        have m0 := Int.emod_nonneg by_ (show (4 : Int) ≠ 0 by omega)
        have m1 := Int.emod_lt_of_pos by_ (show (0 : Int) < 4 by omega)
        obtain ⟨j, ej⟩ := Int.eq_ofNat_of_zero_le m0
        have hj : j < ([7, 10 ^ 12, 0, 8] : List Int).length := by show j < 4; omega
        refine ⟨_, rfl, by_, 4, rfl, rfl, (by show (0 : Int) < 4; decide), t, _, _, .int ([7, 10 ^ 12, 0, 8] : List Int)[j], rfl, rfl, SqL.of upd_same, (by rw [ej]; exact atI_nat (by rw [List.getElem?_map, List.getElem?_eq_getElem hj]; rfl)), ?_⟩
        refine hR _ _ ⟨_, rfl, ⟨_, rfl⟩, sb3.trans (Sb.of ((Same.refl H3).upd nt)), (Same.refl H3).upd nt _ _ he3⟩
    · rintro σ H4 ⟨v, rfl, hv, sb4, he4⟩
      have m0 := Int.emod_nonneg (by_ / 4) (show (6 : Int) ≠ 0 by omega)
      have m1 := Int.emod_lt_of_pos (by_ / 4) (show (0 : Int) < 6 by omega)
      refine rd_rng1 (ea_cons (ev_I0 (g := fun i j => V.int (i + j)) ev_c (ev_I (g := fun i j => V.int (i % j)) (ev_I (g := fun i j => V.int (i / j)) (ev_var rfl) ev_c ⟨by decide, by decide⟩) ev_c (by show (0 : Int) < 6; decide))) ea_nil) (by omega) (by omega) (for_range (fun j σ H' => ∃ (x9 : Option V) (kvs : List (List Key × V)), σ = [some (.ref a), some (.ref p), some (.ref e), some (.bl pl), some (.ref cl), some (.int (0 + (i : Nat) * 2)), some (.int at_), some (.int by_), some v, x9] ∧ Sb e H2 H' ∧ H' e = some (.dT kvs) ∧ MkN pl (6 * i + j) kvs)
        ⟨_, kvs, rfl, sb4, he4, hM⟩ ?_ ?_)
      · rintro j σ H5 hj ⟨x9, kvs, rfl, sb5, he5, hM5⟩
        refine gn ?_
        have a0 := Int.emod_nonneg at_ (show (2 : Int) ≠ 0 by omega)
        have a1 := Int.emod_lt_of_pos at_ (show (0 : Int) < 2 by omega)
        have a2 := Int.emod_nonneg (at_ / 2) (show (2 : Int) ≠ 0 by omega)
        have a3 := Int.emod_lt_of_pos (at_ / 2) (show (0 : Int) < 2 by omega)
        have a4 := Int.emod_nonneg (at_ / 4) (show (30 : Int) ≠ 0 by omega)
        have a5 := Int.emod_lt_of_pos (at_ / 4) (show (0 : Int) < 30 by omega)
        refine ⟨_, rfl, _, rfl, te_tup (vs := [x + at_ % 2, y + at_ / 2 % 2, z + at_ / 4 % 30 + (0 + (j : Nat))].map V.int) (ea_cons (ev_I0 (g := fun i j => V.int (i + j)) (ev_ixL (ev_var rfl) ev_c (keepL sb5 hp) rfl) (ev_I (g := fun i j => V.int (i % j)) (ev_var rfl) ev_c (by show (0 : Int) < 2; decide)))
          (ea_cons (ev_I0 (g := fun i j => V.int (i + j)) (ev_ixL (ev_var rfl) ev_c (keepL sb5 hp) rfl) (ev_I (g := fun i j => V.int (i % j)) (ev_I (g := fun i j => V.int (i / j)) (ev_var rfl) ev_c ⟨by decide, by decide⟩) ev_c (by show (0 : Int) < 2; decide)))
          (ea_cons (ev_I0 (g := fun i j => V.int (i + j)) (ev_I0 (g := fun i j => V.int (i + j)) (ev_ixL (ev_var rfl) ev_c (keepL sb5 hp) rfl) (ev_I (g := fun i j => V.int (i % j)) (ev_I (g := fun i j => V.int (i / j)) (ev_var rfl) ev_c ⟨by decide, by decide⟩) ev_c (by show (0 : Int) < 30; decide))) (ev_var rfl)) ea_nil))) (by show 3 ≤ sizeLine; decide) fun t nt => ?_⟩
        have s6 : Same H5 (upd H5 t (.tup ([x + at_ % 2, y + at_ / 2 % 2, z + at_ / 4 % 30 + (0 + (j : Nat))].map V.int))) := (Same.refl H5).upd nt
        have hlen := hM5.ln
        refine ⟨e, _, rfl, DPut.t (s6 _ _ he5) (iK_at upd_same) (small1000 (by omega)), _, _, rfl, ((sb5.trans (Sb.of s6))).set, upd_same, ?_⟩
        exact hM5.put (by omega) (by omega) (by omega) hv
      · rintro σ H5 ⟨x9, kvs, rfl, sb5, he5, hM5⟩
        refine ⟨_, _, _, _, _, kvs, rfl, sb5, he5, hM5.nd, hM5.sp, hM5.vl, ?_⟩
        have := hM5.ln
        omega
  · rintro σ H3 ⟨x5, x6, x7, x8, x9, kvs, rfl, sb3, he3, hM⟩
    have := hM.ln
    exact ⟨_, rfl, q e pl kvs H3 (((Sb.of (s1.trans s2)).trans sb3).same ne) ne he3 ⟨hM.nd, hM.sp, hM.vl, by omega⟩⟩
theorem ok_Marked {f : Addr} {fd : FuncData} (F : Fun K "_law_marked" "_law_marked" sMarked f fd) (T : Txt K mg) : FnOk P w K mg base CX0 1 f fd ["marks", "spot", "mark"] spMarked := by
  have sc : FnScope ["marks", "spot", "mark"] ["marks", "spot", "mark"] (defScope sMarked) := ⟨rfl, rfl, rfl, by decide +kernel, rfl, by decide +kernel, by decide +kernel⟩
  refine F.ok sc (fun vs H Q E h => by repeat (first | (obtain ⟨rfl, _⟩ := h; rfl) | (obtain ⟨_, h⟩ := h))) (fun cdv A outer s H vs Q E hr h => ?_)
  obtain ⟨e, b, v, kvs, pl, x, rfl, he, hM, hb, hv, q⟩ := h
  refine ⟨_, (pss_one (ps_ret (pe_and (pe_cmp (pc_din (Room.one hr) (pv 1) (pv 0))) (pe_one (pe_cmpR op_eq (pe_dget (Room.one hr) (pv 0) (pv 1) (fun _ _ => rfl)) (pv 2) (nomark _)))))), ?_⟩
  have g := dg (x := [x.1, x.2.1, x.2.2]) (.inl he) hb
  cases hm : mOf kvs x.1 x.2.1 x.2.2 with
  | none =>
    have hm' : valV kvs (iK [x.1, x.2.1, x.2.2]) = none := hm
    rw [hm'] at g
    rw [hm] at q
    refine ⟨_, rfl, _, rfl, e, _, rfl, g, false, rfl, ?_⟩
    rw [if_neg (by simp)]
    exact q
  | some w =>
    have hm' : valV kvs (iK [x.1, x.2.1, x.2.2]) = some w := hm
    rw [hm'] at g
    rw [hm] at q
    refine ⟨_, rfl, _, rfl, e, _, rfl, g, true, rfl, ?_⟩
    rw [if_pos rfl]
    have hw : MVal pl w := hM.vl _ (mem_valV hm')
    refine ⟨_, rfl, _, rfl, e, _, rfl, g, _, rfl, scal_m hw hv, ?_⟩
    rw [show decide (w = v) = decide (some w = some v) by simp]
    exact q
theorem ok_RunG {f : Addr} {fd : FuncData} (F : Fun K "_law_run_good" "_law_run_good" sRunG f fd) (T : Txt K mg) (gWhole : Callee P w K mg base "_law_whole" 1 ["found"] spWhole) (gSpotL : Callee P w K mg base "_law_spot" 2 ["found"] spSpotL) (gMarked : Callee P w K mg base "_law_marked" 1 ["marks", "spot", "mark"] spMarked) : FnOk P w K mg base CX0 3 f fd ["marks", "run"] (spRunG K) := by
  have sc : FnScope ["marks", "run", "first", "last", "column", "spot"] ["marks", "run"] (defScope sRunG) := ⟨rfl, rfl, rfl, by decide +kernel, rfl, by decide +kernel, by decide +kernel⟩
  refine F.ok sc (fun vs H Q E h => by repeat (first | (obtain ⟨rfl, _⟩ := h; rfl) | (obtain ⟨_, h⟩ := h))) (fun cdv A outer s H vs Q E hr h => ?_)
  obtain ⟨e, q0, kvs, pl, u, rfl, he, hM, ⟨fa, la, h1, h2, h3⟩, hv, ok, ⟨b1, b2⟩, q⟩ := h
  refine ⟨_, (pss_cons (ps_if (pw_or (pt_not (pt_val (pe_callB call_isinst (by rfl) T.isinstance_ bt_isinstance (pa_cons (pv 1) (pa_cons (pe_bltn (v := .ty "tuple") (by rfl) T.tuple_ bt_tuple (by rfl)) pa_nil))))) (pw_or (pt_cmpR op_ne (pe_callB call_len (by rfl) T.len_ bt_len (pa_cons (pv 1) pa_nil)) pe_int (nomark _)) (pw_or (pt_not (pt_val (pe_cal gSpotL (hr.mono (by decide)) (by rfl) (pa_cons (pe_ix ix_tup (pv 1) pe_int (fun _ _ => rfl)) pa_nil)))) (pw_or1 (pt_not (pt_val (pe_cal gSpotL (hr.mono (by decide)) (by rfl) (pa_cons (pe_ix ix_tup (pv 1) pe_int (fun _ _ => rfl)) pa_nil)))))))).pt
  (pss_one (ps_ret pe_bl))
  pss_nil)
  (pss_cons (ps_set (i := 2) sc.nd rfl (Or.inl rfl) (pe_ix ix_tup (pv 1) pe_int (fun _ _ => rfl)))
  (pss_cons (ps_set (i := 3) sc.nd rfl (Or.inl rfl) (pe_ix ix_tup (pv 1) pe_int (fun _ _ => rfl)))
  (pss_cons (ps_if (pw_or (pt_cmpR op_ne (pe_ix ix_tup (pv 2) pe_int (fun _ _ => rfl)) (pe_ix ix_tup (pv 3) pe_int (fun _ _ => rfl)) (nomark _)) (pw_or (pt_cmpR op_ne (pe_ix ix_tup (pv 2) pe_int (fun _ _ => rfl)) (pe_ix ix_tup (pv 3) pe_int (fun _ _ => rfl)) (nomark _)) (pw_or (pt_cmpR op_gt (pe_ix ix_tup (pv 2) pe_int (fun _ _ => rfl)) (pe_ix ix_tup (pv 3) pe_int (fun _ _ => rfl)) (nomark _)) (pw_or1 (pt_cmpR op_ge (pe_op op_sub (pe_ix ix_tup (pv 3) pe_int (fun _ _ => rfl)) (pe_ix ix_tup (pv 2) pe_int (fun _ _ => rfl))) (pe_callB call_lenU (by rfl) T.len_ bt_len (pa_cons (pv 0) pa_nil)) (nomark _)))))).pt
  (pss_one (ps_ret pe_bl))
  pss_nil)
  (pss_cons (ps_if (pw_and (pt_cmpR op_isnotB (pe_ix ix_tup (pv 1) pe_int (fun _ _ => rfl)) pe_bl (nomark _)) (pw_and1 (pt_not (pt_val (pe_cal gWhole (hr.mono (by decide)) (by rfl) (pa_cons (pe_ix ix_tup (pv 1) pe_int (fun _ _ => rfl)) pa_nil)))))).pt
  (pss_one (ps_ret pe_bl))
  pss_nil)
  (pss_cons (ps_for PassesOwn.never rfl (pi_range2 (by rfl) T.range_ (pa_cons (pe_ix ix_tup (pv 2) pe_int (fun _ _ => rfl)) (pa_cons (pe_op op_add (pe_ix ix_tup (pv 3) pe_int (fun _ _ => rfl)) pe_int) pa_nil))) (pg_name (i := 4) sc.nd rfl (Or.inl rfl))
  (pss_cons (ps_set (i := 5) sc.nd rfl (Or.inl rfl) (pe_tup (pa_cons (pe_ix ix_tup (pv 2) pe_int (fun _ _ => rfl)) (pa_cons (pe_ix ix_tup (pv 2) pe_int (fun _ _ => rfl)) (pa_cons (pv 4) pa_nil)))))
  (pss_one (ps_if (pw_or (pt_not (pt_val (pe_cal gMarked (hr.mono (by decide)) (by rfl) (pa_cons (pv 0) (pa_cons (pv 5) (pa_cons (pe_ix ix_tup (pv 1) pe_int (fun _ _ => rfl)) pa_nil)))))) (pw_or1 (pt_cmpR op_ne (pe_cmpR op_isB (pe_dget (Room.one hr) (pv 0) (pv 5) (fun _ _ => rfl)) pe_bl (nomark _)) (pe_cmpR op_isB (pe_ix ix_tup (pv 1) pe_int (fun _ _ => rfl)) pe_bl (nomark _)) (nomark _)))).pt
  (pss_one (ps_ret pe_bl))
  pss_nil))))
  (pss_cons (ps_if (pt_val (pe_cal gMarked (hr.mono (by decide)) (by rfl) (pa_cons (pv 0) (pa_cons (pe_tup (pa_cons (pe_ix ix_tup (pv 2) pe_int (fun _ _ => rfl)) (pa_cons (pe_ix ix_tup (pv 2) pe_int (fun _ _ => rfl)) (pa_cons (pe_op op_sub (pe_ix ix_tup (pv 2) pe_int (fun _ _ => rfl)) pe_int) pa_nil)))) (pa_cons (pe_ix ix_tup (pv 1) pe_int (fun _ _ => rfl)) pa_nil)))))
  (pss_one (ps_ret pe_bl))
  pss_nil)
  (pss_one (ps_ret (pe_not (pe_cal gMarked (hr.mono (by decide)) (by rfl) (pa_cons (pv 0) (pa_cons (pe_tup (pa_cons (pe_ix ix_tup (pv 2) pe_int (fun _ _ => rfl)) (pa_cons (pe_ix ix_tup (pv 2) pe_int (fun _ _ => rfl)) (pa_cons (pe_op op_add (pe_ix ix_tup (pv 3) pe_int (fun _ _ => rfl)) pe_int) pa_nil)))) (pa_cons (pe_ix ix_tup (pv 1) pe_int (fun _ _ => rfl)) pa_nil)))))))))))))), ?_⟩
  have r : ∀ {H' : Hp} {σ : St} (i : Int) (v : V), Same H H' → σ[1]? = some (some (.ref q0)) → atI [.ref fa, .ref la, u.v] i = some v → Ev (tOp (rIxT K) (tVar 1) (tC (.int i))) σ H' v := fun i v s e1 e2 => ev_ixT (ev_var e1) ev_c (SqT.of (s _ _ h1)) e2
  have rf : ∀ {H' : Hp} {σ : St} (i : Int) (v : V), Same H H' → σ[2]? = some (some (.ref fa)) → atI [.int u.a, .int u.b, .int u.c] i = some v → Ev (tOp (rIxT K) (tVar 2) (tC (.int i))) σ H' v := fun i v s e1 e2 => ev_ixT (ev_var e1) ev_c (SqT.of (s _ _ h2)) e2
  have rl : ∀ {H' : Hp} {σ : St} (i : Int) (v : V), Same H H' → σ[3]? = some (some (.ref la)) → atI [.int u.a, .int u.b, .int u.d] i = some v → Ev (tOp (rIxT K) (tVar 3) (tC (.int i))) σ H' v := fun i v s e1 e2 => ev_ixT (ev_var e1) ev_c (SqT.of (s _ _ h3)) e2
  have S0 := Same.refl H
  refine sq_ifF (b := false) (et_of (et_or (et_not (et_B (ev_cb (v := .bl true) (ea_cons (ev_var rfl) (ea_cons ev_c ea_nil)) fun Q' q' => ⟨_, _, _, _, _, rfl, .ty "tuple", .tup h1, T.tt, q'⟩))) fun _ =>
    et_or (et_test (ev_neI (i := 3) (j := 3) (ev_cb (ea_cons (ev_var rfl) ea_nil) fun Q' q' => ⟨_, _, rfl, .inr ⟨_, SqT.of h1, rfl⟩, q'⟩) ev_c)) fun _ =>
    et_or (et_not (et_B (b := true) (ev_cal (ea_cons (r 0 _ S0 rfl rfl) ea_nil) fun Q' q' => ⟨fa, _, _, _, rfl, h2, q'⟩))) fun _ => et_not (et_B (b := true) (ev_cal (ea_cons (r 1 _ S0 rfl rfl) ea_nil) fun Q' q' => ⟨la, _, _, _, rfl, h3, q'⟩))) rfl) rfl ?_
  refine sq_set (r 0 _ S0 rfl rfl) (sq_set (r 1 _ S0 rfl rfl) ?_)
  refine sq_ifF (et_or (et_test (ev_neI (rf 0 (.int u.a) S0 rfl rfl) (rl 0 (.int u.a) S0 rfl rfl))) fun _ => et_or (et_test (ev_neI (rf 1 (.int u.b) S0 rfl rfl) (rl 1 (.int u.b) S0 rfl rfl))) fun _ => et_or (et_test (ev_I0 (g := fun i j => .bl (decide (j < i))) (rf 2 (.int u.c) S0 rfl rfl) (rl 2 (.int u.d) S0 rfl rfl))) fun _ => et_test (ev_I0 (g := fun i j => .bl (decide (j ≤ i))) (ev_I0 (g := fun i j => V.int (i - j)) (rl 2 (.int u.d) S0 rfl rfl) (rf 2 (.int u.c) S0 rfl rfl)) (ev_cb (v := .int (kvs.length : Nat)) (ea_cons (ev_var rfl) ea_nil) fun Q' q' => ⟨_, .dT kvs, rfl, .inl he, trivial, q'⟩))) ?_ ?_
  · have := ok.le
    have := ok.sm
    rw [decide_eq_false (p := u.d < u.c) (by omega), decide_eq_false (p := ((kvs.length : Nat) : Int) ≤ u.d - u.c) (by omega)]
    simp
  refine sq_ifF (b := false) (et_of (et_and (et_test (ev_isnM (r 2 _ S0 rfl rfl) hv)) fun z => et_not (et_B (b := true) (ev_cal (ea_cons (r 2 _ S0 rfl rfl) ea_nil) fun Q' q' => by
    have : pl = false := by cases pl with | true => cases z | false => rfl
    unfold MVal at hv
    rw [this, if_neg (by simp)] at hv
    obtain ⟨j, ej⟩ := hv
    exact ⟨j, by rw [ej], q'⟩))) (by simp)) rfl ?_
  refine sq_rng2 (ea_cons (rf 2 _ S0 rfl rfl) (ea_cons (ev_I0 (g := fun i j => V.int (i + j)) (rl 2 (.int u.d) S0 rfl rfl) ev_c) ea_nil)) (by have := ok.le; omega) (for_range (fun i σ H' => ∃ x4 x5 : Option V, σ = [some (.ref e), some (.ref q0), some (.ref fa), some (.ref la), x4, x5] ∧ Same H H') ⟨_, _, rfl, S0⟩ ?_ ?_)
  · rintro i σ H1 hi ⟨x4, x5, rfl, s1⟩
    refine gn ?_
    refine sq_tup (ea_cons (rf 0 _ s1 rfl rfl) (ea_cons (rf 1 _ s1 rfl rfl) (ea_cons (ev_var rfl) ea_nil))) (by show 3 ≤ sizeLine; decide) fun t nt => ?_
    have s2 : Same H (upd H1 t (.tup [.int u.a, .int u.b, .int (u.c + (i : Nat))])) := s1.upd nt
    have e2 : upd H1 t (.tup [.int u.a, .int u.b, .int (u.c + (i : Nat))]) t = some (.tup [.int u.a, .int u.b, .int (u.c + (i : Nat))]) := upd_same
    revert s2 e2
    generalize upd H1 t (.tup [.int u.a, .int u.b, .int (u.c + (i : Nat))]) = H2
    intro s2 e2
    have hm := ok.all (u.c + (i : Nat)) (by omega) (by omega)
    have g := dg (x := [u.a, u.b, u.c + (i : Nat)]) (.inl (s2 _ _ he)) e2
    rw [show valV kvs (iK [u.a, u.b, u.c + (i : Nat)]) = some u.v from hm] at g
    refine rd_ifF (b := false) (et_of (et_or (et_not (et_B (b := true) (ev_cal (ea_cons (ev_var rfl) (ea_cons (ev_var rfl) (ea_cons (r 2 _ s2 rfl rfl) ea_nil))) fun Q' q' => ⟨e, t, u.v, kvs, pl, (u.a, u.b, u.c + (i : Nat)), rfl, s2 _ _ he, hM, e2, hv, by rw [hm, decide_eq_true rfl]; exact q'⟩))) fun _ => et_test (ev_neS (ev_isM (ev_dget (ev_var rfl) (ev_var rfl) g) hv) (ev_isM (r 2 _ s2 rfl rfl) hv) rfl)) rfl) rfl ⟨_, _, rfl, s2⟩
  · rintro σ H1 ⟨x4, x5, rfl, s1⟩
    dsimp only
    refine sq_ifof (te_mark rfl (ea_cons (rf 0 (.int u.a) s1 rfl rfl) (ea_cons (rf 1 (.int u.b) s1 rfl rfl) (ea_cons (ev_I0 (g := fun i j => V.int (i - j)) (rf 2 (.int u.c) s1 rfl rfl) ev_c) ea_nil))) (by show 3 ≤ sizeLine; decide) (fun p np => r 2 u.v (s1.upd np) rfl rfl) fun p np => ⟨e, p, u.v, kvs, pl, (u.a, u.b, u.c - 1), rfl, s1.upd np _ _ he, hM, upd_same, hv, _, rfl, ?_⟩)
    rw [decide_eq_false ok.lo]
    refine iteF ?_
    have s2 : Same H (upd H1 p (.tup [.int u.a, .int u.b, .int (u.c - 1)])) := s1.upd np
    revert s2
    generalize upd H1 p (.tup [.int u.a, .int u.b, .int (u.c - 1)]) = H2
    intro s2
    refine te_mark rfl (ea_cons (rf 0 (.int u.a) s2 rfl rfl) (ea_cons (rf 1 (.int u.b) s2 rfl rfl) (ea_cons (ev_I0 (g := fun i j => V.int (i + j)) (rl 2 (.int u.d) s2 rfl rfl) ev_c) ea_nil))) (by show 3 ≤ sizeLine; decide) (fun p np => r 2 u.v (s2.upd np) rfl rfl) fun p np => ⟨e, p, u.v, kvs, pl, (u.a, u.b, u.d + 1), rfl, s2.upd np _ _ he, hM, upd_same, hv, _, rfl, ?_⟩
    rw [decide_eq_false ok.hi]
    exact q _ (s2.upd np)
theorem ok_law {f : Addr} {fd : FuncData} (F : Fun K "law" "law" slaw f fd) (T : Txt K mg) (gBox : Callee P w K mg base "box" 2 ["one", "two"] spBox) (gRuns : Callee P w K mg base "runs" 2 ["marks"] (spRuns K)) (gCell : Callee P w K mg base "_law_cell_at" 1 ["script", "k"] (spCell K)) (gBoxG : Callee P w K mg base "_law_box_good" 3 ["found", "one", "two"] (spBoxG K)) (gMarks : Callee P w K mg base "_law_marks" 2 ["script", "base"] (spMarks K)) (gRunG : Callee P w K mg base "_law_run_good" 3 ["marks", "run"] (spRunG K)) : FnOk P w K mg base CX0 4 f fd ["script"] (spLaw K) := by
  have sc : FnScope ["script", "base", "one", "two", "first", "second", "marks", "kept", "found", "many", "k"] ["script"] (defScope slaw) := ⟨rfl, rfl, rfl, by decide +kernel, rfl, by decide +kernel, by decide +kernel⟩
  refine F.ok sc (fun vs H Q E h => by repeat (first | (obtain ⟨rfl, _⟩ := h; rfl) | (obtain ⟨_, h⟩ := h))) (fun cdv A outer s H vs Q E hr h => ?_)
  obtain ⟨a, ns, rfl, ha, hn, q⟩ := h
  refine ⟨_, (pss_cons (ps_lcset (i := 1) (ls := ["k"]) (ys := ["script"]) (ix := [0]) rfl sc.nd rfl (Or.inl rfl) ⟨rfl, by rfl, by rfl, by rfl, by rfl, rfl⟩ (pi_range1 (by rfl) T.range_ (pa_cons pe_int pa_nil)) (fun _ _ _ _ _ => (pg_name (i := 0) (show (["k", "script"] : List Str).Nodup by decide +kernel) rfl (Or.inl rfl))) (fun _ _ _ _ _ => pf_nil) (fun _ _ _ _ _ => (pe_op op_mod (pe_cal (by exact gCell) (by exact (hr.mono (by decide))) (by rfl) (pa_cons (pv 1) (pa_cons (pv 0) pa_nil))) (pe_op op_pow pe_int pe_int))))
  (pss_cons (ps_set (i := 2) sc.nd rfl (Or.inl rfl) (pe_cal gCell (hr.mono (by decide)) (by rfl) (pa_cons (pv 0) (pa_cons pe_int pa_nil))))
  (pss_cons (ps_set (i := 3) sc.nd rfl (Or.inl rfl) (pe_cal gCell (hr.mono (by decide)) (by rfl) (pa_cons (pv 0) (pa_cons pe_int pa_nil))))
  (pss_cons (ps_set (i := 4) sc.nd rfl (Or.inl rfl) (pe_tup (pa_cons (pe_op op_add (pe_ix ix_list (pv 1) pe_int (fun _ _ => rfl)) (pe_op op_mod (pv 2) pe_int)) (pa_cons (pe_op op_add (pe_ix ix_list (pv 1) pe_int (fun _ _ => rfl)) (pe_op op_mod (pe_op op_fdivB (pv 2) pe_int) pe_int)) (pa_cons (pe_op op_add (pe_ix ix_list (pv 1) pe_int (fun _ _ => rfl)) (pe_op op_mod (pe_op op_fdivB (pv 2) pe_int) pe_int)) pa_nil)))))
  (pss_cons (ps_set (i := 5) sc.nd rfl (Or.inl rfl) (pe_tup (pa_cons (pe_op op_add (pe_ix ix_list (pv 1) pe_int (fun _ _ => rfl)) (pe_op op_mod (pv 3) pe_int)) (pa_cons (pe_op op_add (pe_ix ix_list (pv 1) pe_int (fun _ _ => rfl)) (pe_op op_mod (pe_op op_fdivB (pv 3) pe_int) pe_int)) (pa_cons (pe_op op_add (pe_ix ix_list (pv 1) pe_int (fun _ _ => rfl)) (pe_op op_mod (pe_op op_fdivB (pv 3) pe_int) pe_int)) pa_nil)))))
  (pss_cons (ps_if (pw_or (pt_not (pt_val (pe_cal gBoxG (hr.mono (by decide)) (by rfl) (pa_cons (pe_cal gBox (hr.mono (by decide)) (by rfl) (pa_cons (pv 4) (pa_cons (pv 5) pa_nil))) (pa_cons (pv 4) (pa_cons (pv 5) pa_nil)))))) (pw_or1 (pt_not (pt_val (pe_cal gBoxG (hr.mono (by decide)) (by rfl) (pa_cons (pe_cal gBox (hr.mono (by decide)) (by rfl) (pa_cons (pv 5) (pa_cons (pv 4) pa_nil))) (pa_cons (pv 4) (pa_cons (pv 5) pa_nil)))))))).pt
  (pss_one (ps_ret pe_bl))
  pss_nil)
  (pss_cons (ps_set (i := 6) sc.nd rfl (Or.inr rfl) (pe_cal gMarks (hr.mono (by decide)) (by rfl) (pa_cons (pv 0) (pa_cons (pv 1) pa_nil))))
  (pss_cons (ps_frz (ps_lcset (i := 7) (ls := ["spot"]) (ys := ["marks"]) (ix := [6]) rfl sc.nd rfl (Or.inl rfl) ⟨rfl, by rfl, by rfl, by rfl, by rfl, rfl⟩ (pi_keys (pv 6)) (fun _ _ _ _ _ => (pg_name (i := 0) (show (["spot", "marks"] : List Str).Nodup by decide +kernel) rfl (Or.inl rfl))) (fun _ _ _ _ _ => pf_nil) (fun _ _ _ _ _ => (pe_tup (pa_cons (pv 0) (pa_cons (pe_dget (by exact (Room.one hr)) (pv 1) (pv 0) (fun _ _ => rfl)) pa_nil))))))
  (pss_cons (ps_set (i := 8) sc.nd rfl (Or.inl rfl) (pe_cal gRuns (hr.mono (by decide)) (by rfl) (pa_cons (pv 6) pa_nil)))
  (pss_cons (ps_if (pw_or (pt_not (pt_val (pe_callB call_isinst (by rfl) T.isinstance_ bt_isinstance (pa_cons (pv 8) (pa_cons (pe_bltn (v := .ty "list") (by rfl) T.list_ bt_list (by rfl)) pa_nil))))) (pw_or1 (pt_cmpR (op_neD hr) (pe_frz (pe_lc (ls := ["spot"]) (ys := ["marks"]) (ix := [6]) rfl ⟨rfl, by rfl, by rfl, by rfl, by rfl, rfl⟩ (pi_keys (pv 6)) (fun _ _ _ _ _ => (pg_name (i := 0) (show (["spot", "marks"] : List Str).Nodup by decide +kernel) rfl (Or.inl rfl))) (fun _ _ _ _ _ => pf_nil) (fun _ _ _ _ _ => (pe_tup (pa_cons (pv 0) (pa_cons (pe_dget (by exact (Room.one hr)) (pv 1) (pv 0) (fun _ _ => rfl)) pa_nil)))))) (pv 7) (nomark _)))).pt
  (pss_one (ps_ret pe_bl))
  pss_nil)
  (pss_cons (ps_set (i := 9) sc.nd rfl (Or.inl rfl) pe_int)
  (pss_cons (ps_for PassesOwn.never rfl (pi_range1 (by rfl) T.range_ (pa_cons (pe_callB call_len (by rfl) T.len_ bt_len (pa_cons (pv 8) pa_nil)) pa_nil)) (pg_name (i := 10) sc.nd rfl (Or.inl rfl))
  (pss_cons (ps_if (pt_not (pt_val (pe_cal gRunG (hr.mono (by decide)) (by rfl) (pa_cons (pv 6) (pa_cons (pe_ix ix_list (pv 8) (pv 10) (fun _ _ => rfl)) pa_nil)))))
  (pss_one (ps_ret pe_bl))
  pss_nil)
  (pss_cons (ps_if (pw_and (pt_cmpR op_gt (pv 10) pe_int (nomark _)) (pw_and1 (pt_not (pt_cmpR (op_ltT (Room.lt hr)) (pe_ix ix_tup (pe_ix ix_list (pv 8) (pe_op op_sub (pv 10) pe_int) (fun _ _ => rfl)) pe_int (fun _ _ => rfl)) (pe_ix ix_tup (pe_ix ix_list (pv 8) (pv 10) (fun _ _ => rfl)) pe_int (fun _ _ => rfl)) (nomark _))))).pt
  (pss_one (ps_ret pe_bl))
  pss_nil)
  (pss_one (ps_set (i := 9) sc.nd rfl (Or.inl rfl) (pe_op op_add (pe_op op_sub (pe_op op_add (pv 9) (pe_ix ix_tup (pe_ix ix_tup (pe_ix ix_list (pv 8) (pv 10) (fun _ _ => rfl)) pe_int (fun _ _ => rfl)) pe_int (fun _ _ => rfl))) (pe_ix ix_tup (pe_ix ix_tup (pe_ix ix_list (pv 8) (pv 10) (fun _ _ => rfl)) pe_int (fun _ _ => rfl)) pe_int (fun _ _ => rfl))) pe_int))))))
  (pss_one (ps_ret (pe_cmpR op_eq (pv 9) (pe_callB call_len (by rfl) T.len_ bt_len (pa_cons (pv 7) pa_nil)) (nomark _)))))))))))))))), ?_⟩
  refine ⟨3, rfl, by decide, by decide, fun p np => ?_⟩
  refine lc_range (fun i τ H' => ∃ (x0 : Option V) (bs : List Int), τ = [x0, some (.ref a)] ∧ Same H H' ∧ H' p = some (.lst (bs.map V.int)) ∧ bs.length = i ∧ ∀ b ∈ bs, 0 ≤ b ∧ b < 10 ^ 15)
    ⟨none, [], rfl, (Same.refl H).upd np, upd_same, rfl, (by intro _ z; cases z)⟩ ?_ ?_
  · rintro i τ H1 hi ⟨x0, bs, rfl, s1, hp1, hl1, hb1⟩
    have hi : i < 3 := hi
    refine gn ?_
    dsimp only [tYes]
    rw [if_pos rfl]
    refine te_op (te_cal (ea_cons (ev_var rfl) (ea_cons (ev_var rfl) ea_nil)) ⟨a, ns, _, rfl, s1.seq ha, by omega, fun v => ⟨10, 15, rfl, rfl, ⟨by decide, by decide, by decide⟩, v, _, rfl, rfl, (by show (0 : Int) < 10 ^ 15; decide), ?_⟩⟩)
    refine ⟨_, hp1, (by rw [List.length_map]; exact small1000 (by omega)), _, bs ++ [v % 10 ^ 15], rfl, same_at s1 np, ?_, (by rw [List.length_append, hl1]; rfl), fun b hb => ?_⟩
    · rw [upd_same, List.map_append]; rfl
    · rcases List.mem_append.mp hb with hb | hb
      · exact hb1 b hb
      · rw [List.mem_singleton.mp hb]
        exact ⟨Int.emod_nonneg v (by decide), Int.emod_lt_of_pos v (by decide)⟩
  rintro τ H1 ⟨x0, bs, rfl, s1, hp1, hl1, hb1⟩
  obtain ⟨x, y, z, rfl⟩ : ∃ x y z, bs = [x, y, z] := by
    match bs, hl1 with
    | [x, y, z], _ => exact ⟨x, y, z, rfl⟩
  have bx := hb1 x (by simp)
  have by' := hb1 y (by simp)
  have bz := hb1 z (by simp)
  dsimp only
  have ha1 := s1.seq ha
  refine sq_cal (ea_cons (ev_var rfl) (ea_cons ev_c ea_nil)) ⟨a, ns, 3, rfl, ha1, by decide, fun one => ?_⟩
  refine sq_cal (ea_cons (ev_var rfl) (ea_cons ev_c ea_nil)) ⟨a, ns, 4, rfl, ha1, by decide, fun two => ?_⟩
  have trip : ∀ {σ : St} {H' : Hp} {n : Nat} {o : Int}, σ[1]? = some (some (.ref p)) → σ[n]? = some (some (.int o)) → Same H1 H' → EvA (tCons (tOp (rI0 fun i j => V.int (i + j)) (tOp (rIxL K) (tVar 1) (tC (V.int 0))) (tOp (rI (fun x j => 0 < j) fun i j => V.int (i % j)) (tVar n) (tC (V.int 3)))) (tCons (tOp (rI0 fun i j => V.int (i + j)) (tOp (rIxL K) (tVar 1) (tC (V.int 1))) (tOp (rI (fun x j => 0 < j) fun i j => V.int (i % j)) (tOp (rI CDivB fun i j => V.int (i / j)) (tVar n) (tC (V.int 3))) (tC (V.int 4)))) (tCons (tOp (rI0 fun i j => V.int (i + j)) (tOp (rIxL K) (tVar 1) (tC (V.int 2))) (tOp (rI (fun x j => 0 < j) fun i j => V.int (i % j)) (tOp (rI CDivB fun i j => V.int (i / j)) (tVar n) (tC (V.int 12))) (tC (V.int 5)))) tNil))) σ H' [.int (x + o % 3), .int (y + o / 3 % 4), .int (z + o / 12 % 5)] := fun {σ H' n o} e1 e2 s => by
    have ix : ∀ (i : Int) (v : Int), atI ([x, y, z].map V.int) i = some (.int v) → Ev (tOp (rIxL K) (tVar 1) (tC (.int i))) σ H' (.int v) := fun i v e => ev_ixL (ev_var e1) ev_c (s.seq (SqL.of hp1)) e
    exact ea_cons (ev_I0 (g := fun i j => V.int (i + j)) (ix 0 x rfl) (ev_I (g := fun i j => V.int (i % j)) (ev_var e2) ev_c (by show (0 : Int) < 3; decide)))
      (ea_cons (ev_I0 (g := fun i j => V.int (i + j)) (ix 1 y rfl) (ev_I (g := fun i j => V.int (i % j)) (ev_I (g := fun i j => V.int (i / j)) (ev_var e2) ev_c ⟨by decide, by decide⟩) ev_c (by show (0 : Int) < 4; decide)))
      (ea_cons (ev_I0 (g := fun i j => V.int (i + j)) (ix 2 z rfl) (ev_I (g := fun i j => V.int (i % j)) (ev_I (g := fun i j => V.int (i / j)) (ev_var e2) ev_c ⟨by decide, by decide⟩) ev_c (by show (0 : Int) < 5; decide))) ea_nil))
  obtain ⟨f, ef⟩ : ∃ f : Int × Int × Int, f = (x + one % 3, y + one / 3 % 4, z + one / 12 % 5) := ⟨_, rfl⟩
  obtain ⟨s, es⟩ : ∃ s : Int × Int × Int, s = (x + two % 3, y + two / 3 % 4, z + two / 12 % 5) := ⟨_, rfl⟩
  have nr : Near f s ∧ Near s f := by
    have a0 := Int.emod_nonneg one (show (3 : Int) ≠ 0 by omega)
    have a1 := Int.emod_lt_of_pos one (show (0 : Int) < 3 by omega)
    have a2 := Int.emod_nonneg (one / 3) (show (4 : Int) ≠ 0 by omega)
    have a3 := Int.emod_lt_of_pos (one / 3) (show (0 : Int) < 4 by omega)
    have a4 := Int.emod_nonneg (one / 12) (show (5 : Int) ≠ 0 by omega)
    have a5 := Int.emod_lt_of_pos (one / 12) (show (0 : Int) < 5 by omega)
    have b0 := Int.emod_nonneg two (show (3 : Int) ≠ 0 by omega)
    have b1 := Int.emod_lt_of_pos two (show (0 : Int) < 3 by omega)
    have b2 := Int.emod_nonneg (two / 3) (show (4 : Int) ≠ 0 by omega)
    have b3 := Int.emod_lt_of_pos (two / 3) (show (0 : Int) < 4 by omega)
    have b4 := Int.emod_nonneg (two / 12) (show (5 : Int) ≠ 0 by omega)
    have b5 := Int.emod_lt_of_pos (two / 12) (show (0 : Int) < 5 by omega)
    subst ef es
    unfold Near
    dsimp only
    generalize one % 3 = o1 at *
    generalize one / 3 % 4 = o2 at *
    generalize one / 12 % 5 = o3 at *
    generalize two % 3 = t1 at *
    generalize two / 3 % 4 = t2 at *
    generalize two / 12 % 5 = t3 at *
    constructor <;> (refine ⟨⟨?_, ?_⟩, ⟨?_, ?_⟩, ⟨?_, ?_⟩, ⟨?_, ?_⟩, ⟨?_, ?_⟩, ⟨?_, ?_⟩, ?_, ?_, ?_⟩ <;> omega)
  refine sq_tup (trip rfl rfl (Same.refl H1)) (by show 3 ≤ sizeLine; decide) fun fa nfa => ?_
  have s2 : Same H1 (upd H1 fa (.tup [.int (x + one % 3), .int (y + one / 3 % 4), .int (z + one / 12 % 5)])) := (Same.refl H1).upd nfa
  have hf : At3 (upd H1 fa (.tup [.int (x + one % 3), .int (y + one / 3 % 4), .int (z + one / 12 % 5)])) fa f := by rw [ef]; exact upd_same
  revert s2 hf
  generalize upd H1 fa (.tup [.int (x + one % 3), .int (y + one / 3 % 4), .int (z + one / 12 % 5)]) = H2
  intro s2 hf
  refine sq_tup (trip rfl rfl s2) (by show 3 ≤ sizeLine; decide) fun sa nsa => ?_
  have s3 : Same H2 (upd H2 sa (.tup [.int (x + two % 3), .int (y + two / 3 % 4), .int (z + two / 12 % 5)])) := (Same.refl H2).upd nsa
  have hs : At3 (upd H2 sa (.tup [.int (x + two % 3), .int (y + two / 3 % 4), .int (z + two / 12 % 5)])) sa s := by rw [es]; exact upd_same
  have hf := s3 _ _ hf
  revert s3 hs hf
  generalize upd H2 sa (.tup [.int (x + two % 3), .int (y + two / 3 % 4), .int (z + two / 12 % 5)]) = H3
  intro s3 hs hf
  refine sq_ifof (te_nest (te_cal (ea_cons (ev_var rfl) (ea_cons (ev_var rfl) ea_nil)) ⟨fa, sa, f, s, rfl, hf, hs, nr.1, fun l1 bs1 H4 s4 nl1 el1 ht1 => ⟨_, rfl, _, rfl, l1, fa, sa, bs1, f, s, f, s, rfl, el1, ht1, s4 _ _ hf, s4 _ _ hs, nr.1, .inl ⟨rfl, rfl⟩, true, rfl, iteF ?_⟩⟩))
  refine te_nest (te_cal (ea_cons (ev_var rfl) (ea_cons (ev_var rfl) ea_nil)) ⟨sa, fa, s, f, rfl, s4 _ _ hs, s4 _ _ hf, nr.2, fun l2 bs2 H5 s5 nl2 el2 ht2 => ⟨_, rfl, _, rfl, l2, fa, sa, bs2, s, f, f, s, rfl, el2, ht2, (s4.trans s5) _ _ hf, (s4.trans s5) _ _ hs, nr.2, .inr ⟨rfl, rfl⟩, true, rfl, iteF ?_⟩⟩)
  have S5 := ((s2.trans s3).trans s4).trans s5
  refine sq_cal (ea_cons (ev_var rfl) (ea_cons (ev_var rfl) ea_nil)) ⟨a, p, ns, x, y, z, rfl, S5.seq ha1, hn, S5.seq (SqL.of hp1), by omega, by omega, by omega, fun e pl kvs H6 s6 ne he hM => ?_⟩
  have hkx : ∀ p ∈ kvs, ∃ x : T3, p.1 = iK x := fun p hp => by obtain ⟨x, e, _⟩ := hM.sp p hp; exact ⟨_, e⟩
  refine ⟨e, .dT kvs, he, trivial, fun o => ?_⟩
  have ef6 : upd H6 e (.frz o (.dT kvs)) e = some (.frz o (.dT kvs)) := upd_same
  have back := fun {H2 : Hp} (z : Same (upd H6 e (.frz o (.dT kvs))) H2) => frz_back he z
  revert ef6 back
  generalize upd H6 e (.frz o (.dT kvs)) = HF
  intro ef6 back
  refine ⟨_, rfl, e, o, .dT kvs, rfl, ef6, trivial, fun D nD => lc_pairs hM.nd hM.ln ef6 nD fun H7 rs s7 hD7 hrs7 => ?_⟩
  have De : D ≠ e := fun z => by rw [z, ef6] at nD; cases nD
  refine ⟨s7 _ _ ef6, ?_⟩
  have s8 := back s7
  have hD8 : upd H7 e (.dT kvs) D = some (.lst (rs.map V.ref)) := by rw [upd_ne De]; exact hD7
  have hrs8 : Prs (upd H7 e (.dT kvs)) rs kvs := prs_thaw (s7 _ _ ef6) hrs7
  have he8 : upd H7 e (.dT kvs) e = some (.dT kvs) := upd_same
  revert s8 hD8 hrs8 he8
  generalize upd H7 e (.dT kvs) = H8
  intro s8 hD8 hrs8 he8
  refine sq_cal (ea_cons (ev_var rfl) ea_nil) ⟨e, pl, kvs, rfl, he8, hM, fun l qs us H9 s9 nl hl9 hr9 hok => ?_⟩
  have he9 := s9 _ _ he8
  have hD9 := s9 _ _ hD8
  have hrs9 : Prs H9 rs kvs := Paired.mapP hrs8 fun _ _ ⟨b, h1, h2⟩ => ⟨b, s9 _ _ h1, s9 _ _ h2⟩
  refine sq_ifof (te_or (et_not (et_B (ev_cb (v := .bl true) (ea_cons (ev_var rfl) (ea_cons ev_c ea_nil)) fun Q' q' => ⟨_, _, _, _, _, rfl, .ty "list", .lst hl9, T.ll, q'⟩))) rfl ?_)
  refine ⟨e, .dT kvs, he9, trivial, fun o2 => ?_⟩
  have ef9 : upd H9 e (.frz o2 (.dT kvs)) e = some (.frz o2 (.dT kvs)) := upd_same
  have back9 := fun {H2 : Hp} (z : Same (upd H9 e (.frz o2 (.dT kvs))) H2) => frz_back he9 z
  revert ef9 back9
  generalize upd H9 e (.frz o2 (.dT kvs)) = HG
  intro ef9 back9
  refine ⟨_, rfl, e, o2, .dT kvs, rfl, ef9, trivial, fun D2 nD2 => lc_pairs hM.nd hM.ln ef9 nD2 fun H10 rs2 s10 hD10 hrs10 => ?_⟩
  have De2 : D2 ≠ e := fun z => by rw [z, ef9] at nD2; cases nD2
  refine ⟨s10 _ _ ef9, ?_⟩
  have s11 := back9 s10
  have hD11 : upd H10 e (.dT kvs) D2 = some (.lst (rs2.map V.ref)) := by rw [upd_ne De2]; exact hD10
  have hrs11 : Prs (upd H10 e (.dT kvs)) rs2 kvs := prs_thaw (s10 _ _ ef9) hrs10
  revert s11 hD11 hrs11
  generalize upd H10 e (.dT kvs) = H11
  intro s11 hD11 hrs11
  have hrsB : Prs H11 rs kvs := Paired.mapP hrs9 fun _ _ ⟨b, h1, h2⟩ => ⟨b, s11 _ _ h1, s11 _ _ h2⟩
  have d1 : Dp K H11 (.ref D2) (.list (kvs.map dtP)) := .lst (SqL.of hD11) (prs_dps hrs11 hkx hM.vl)
  have d2 : Dp K H11 (.ref D) (.list (kvs.map dtP)) := .lst (SqL.of (s11 _ _ hD9)) (prs_dps hrsB hkx hM.vl)
  refine ⟨_, rfl, _, _, d1, d2, dtP_depth kvs, _, rfl, ?_⟩
  rw [eqv_refl d1.lay]
  refine iteF ?_
  have he11 := s11 _ _ he9
  have hl11 := s11 _ _ hl9
  have hr11 : RunsAt H11 qs us := Paired.mapP hr9 fun _ _ w => w.same s11
  have lq : qs.length = us.length := Paired.length hr11
  have lr : rs.length = kvs.length := Paired.length hrsB
  refine sq_set ev_c ?_
  have uS : us.length ≤ 400 := by
    have h1 := hok.sm
    have h2 : ∀ ws : List Rn, (∀ w ∈ ws, w.c ≤ w.d) → (ws.length : Int) ≤ sumL ws := fun ws => by
      induction ws with
      | nil => intro _; exact Int.le_refl _
      | cons w r ih =>
        intro h
        have e : sumL (w :: r) = (w.d - w.c + 1) + sumL r := by unfold sumL; simp
        have := ih fun u hu => h u (List.mem_cons_of_mem _ hu)
        have := h w List.mem_cons_self
        rw [e, List.length_cons]
        omega
    have h3 := h2 us fun w hw => (hok.ok w hw).le
    have := hM.ln
    omega
  refine sq_rng1 (j := (qs.length : Nat)) (ea_cons (ev_cb (ea_cons (ev_var rfl) ea_nil) fun Q' q' => ⟨_, _, rfl, .inl ⟨_, SqL.of hl11, (by rw [List.length_map])⟩, q'⟩) ea_nil) (by omega) (by omega) (for_range (fun i σ H' => ∃ x10 : Option V, σ = [some (.ref a), some (.ref p), some (.int one), some (.int two), some (.ref fa), some (.ref sa), some (.ref e), some (.ref D), some (.ref l), some (.int (sumL (us.take i))), x10] ∧ Same H11 H') ⟨_, rfl, Same.refl H11⟩ ?_ ?_)
  · rintro i σ H12 hi ⟨x10, rfl, s12⟩
    have hi : i < qs.length := by omega
    refine gn ?_
    have hiu : i < us.length := by omega
    have at' : ∀ {H' : Hp} (k : Nat) (hk : k < qs.length) (hk' : k < us.length), Same H11 H' → RunAt H' qs[k] us[k] := fun {H'} k hk hk' s => by
      obtain ⟨w, hw, h⟩ := paired_get hr11 k hk'
      rw [List.getElem?_eq_getElem hk] at hw
      cases hw
      exact h.same s
    have eS : us.take (i + 1) = us.take i ++ [us[i]] := take_one (by simp [hiu])
    have hu := hok.ok us[i] (List.getElem_mem hiu)
    have bd := run_bd hM hu
    have ixl : ∀ {H' : Hp} {te : TE} {σ : St} (k : Nat) (hk : k < qs.length), Same H11 H' → σ[8]? = some (some (.ref l)) → Ev te σ H' (.int ((k : Nat) : Int)) → Ev (tOp (rIxL K) (tVar 8) te) σ H' (.ref qs[k]) := fun k hk s e1 e2 => ev_ixL (ev_var e1) e2 (s.seq (SqL.of hl11)) (atI_nat (by simp [hk]))
    have z10 : ∀ {H' : Hp}, Ev (tVar 10) [some (.ref a), some (.ref p), some (.int one), some (.int two), some (.ref fa), some (.ref sa), some (.ref e), some (.ref D), some (.ref l), some (.int (sumL (us.take i))), some (.int (0 + (i : Nat)))] H' (.int ((i : Nat) : Int)) := ev_of (ev_var rfl) (by rw [Int.zero_add])
    refine sq_ifof (te_cal (ea_cons (ev_var rfl) (ea_cons (ixl i hi s12 rfl z10) ea_nil)) ⟨e, qs[i], kvs, pl, us[i], rfl, s12 _ _ he11, hM, at' i hi hiu s12, bd.1, hu, bd.2, fun H13 s13 => ⟨true, rfl, iteF ?_⟩⟩)
    have S13 := s12.trans s13
    obtain ⟨f1, f2, g1, g2, g3⟩ := at' i hi hiu S13
    refine sq_ifF (b := false) ?_ rfl ?_
    · by_cases i0 : i = 0
      · subst i0
        exact et_of (et_and (b := false) (et_test (ev_I0 (g := fun i j => .bl (decide (j < i))) (i := 0) (j := 0) (ev_var rfl) ev_c)) fun z => by cases z) rfl
      · have hi1 : i - 1 < qs.length := by omega
        have hiu1 : i - 1 < us.length := by omega
        obtain ⟨f3, f4, g4, g5, g6⟩ := at' (i - 1) hi1 hiu1 S13
        have lt := pw_next hok.ord (i := i - 1) (x := us[i - 1]) (y := us[i]) (by simp [hiu1]) (by rw [show i - 1 + 1 = i by omega]; simp [hiu])
        refine et_of (et_and (b := false) (et_test (ev_I0 (g := fun i j => .bl (decide (j < i))) z10 ev_c)) fun _ => et_of (et_not (et_test (ev_ltT (ns := [us[i - 1].a, us[i - 1].b, us[i - 1].d]) (ms := [us[i].a, us[i].b, us[i].c]) (ev_ixT (ixl (i - 1) hi1 S13 rfl (ev_of (ev_I0 (g := fun i j => V.int (i - j)) z10 ev_c) (by rw [show ((i : Nat) : Int) - 1 = ((i - 1 : Nat) : Int) by omega]))) ev_c (SqT.of g4) rfl) (ev_ixT (ixl i hi S13 rfl z10) ev_c (SqT.of g1) rfl) (SqT.of g6) (SqT.of g2)))) (by rw [lt]; rfl)) (by simp)
    · refine rd_set (v := .int (sumL (us.take (i + 1)))) (ev_of (ev_I0 (g := fun i j => V.int (i + j)) (ev_I0 (g := fun i j => V.int (i - j)) (ev_I0 (g := fun i j => V.int (i + j)) (ev_var rfl) (ev_ixT (v := .int us[i].d) (ev_ixT (ixl i hi S13 rfl z10) ev_c (SqT.of g1) rfl) ev_c (SqT.of g3) rfl)) (ev_ixT (v := .int us[i].c) (ev_ixT (ixl i hi S13 rfl z10) ev_c (SqT.of g1) rfl) ev_c (SqT.of g2) rfl)) ev_c) ?_) ⟨_, rfl, S13⟩
      rw [eS, sumL_app, sumL_one]
      congr 1
      omega
  · rintro σ H12 ⟨x10, rfl, s12⟩
    rw [show (((qs.length : Nat) : Int)).toNat = us.length by omega, List.take_length, hok.sm]
    refine rd_ret (ev_of (ev_eqI (i := (kvs.length : Nat)) (j := (kvs.length : Nat)) (ev_var rfl) (ev_cb (ea_cons (ev_var rfl) ea_nil) fun Q' q' => ⟨_, _, rfl, .inl ⟨_, s12.seq (SqL.of (s11 _ _ hD9)), (by rw [List.length_map, lr])⟩, q'⟩)) (by simp)) (q _)
end
theorem all_mk {l : PySem.W.OpenLaw} {w : World} {K : PySem.W.Frag} {h : Heap} {mg : Str → Option Value} {fa : Addr} (X : K.In h) (G : h.Ns mainGlobals mg) (hfa : mg "law" = some (.ref fa))
    {f0 : Addr} {od0 an0 : Option Addr} {sl0 : Array (Option Value)} {oc0 kV0 dc0 pm0 cd0 ct0 : Value}
    {f1 : Addr} {od1 an1 : Option Addr} {sl1 : Array (Option Value)} {oc1 kV1 dc1 pm1 cd1 ct1 : Value}
    {f2 : Addr} {od2 an2 : Option Addr} {sl2 : Array (Option Value)} {oc2 kV2 dc2 pm2 cd2 ct2 : Value}
    {f3 : Addr} {od3 an3 : Option Addr} {sl3 : Array (Option Value)} {oc3 kV3 dc3 pm3 cd3 ct3 : Value}
    {f4 : Addr} {od4 an4 : Option Addr} {sl4 : Array (Option Value)} {oc4 kV4 dc4 pm4 cd4 ct4 : Value}
    {f5 : Addr} {od5 an5 : Option Addr} {sl5 : Array (Option Value)} {oc5 kV5 dc5 pm5 cd5 ct5 : Value}
    {f6 : Addr} {od6 an6 : Option Addr} {sl6 : Array (Option Value)} {oc6 kV6 dc6 pm6 cd6 ct6 : Value}
    {f7 : Addr} {od7 an7 : Option Addr} {sl7 : Array (Option Value)} {oc7 kV7 dc7 pm7 cd7 ct7 : Value}
    {f8 : Addr} {od8 an8 : Option Addr} {sl8 : Array (Option Value)} {oc8 kV8 dc8 pm8 cd8 ct8 : Value}
    {f9 : Addr} {od9 an9 : Option Addr} {sl9 : Array (Option Value)} {oc9 kV9 dc9 pm9 cd9 ct9 : Value}
    {f10 : Addr} {od10 an10 : Option Addr} {sl10 : Array (Option Value)} {oc10 kV10 dc10 pm10 cd10 ct10 : Value}
    {f11 : Addr} {od11 an11 : Option Addr} {sl11 : Array (Option Value)} {oc11 kV11 dc11 pm11 cd11 ct11 : Value}
    (a0 : PySem.W.nsIn K mainGlobals "between" = some (some (.ref f0)))
    (l0 : K.lookup f0 = some ⟨oc0, od0, .func (PySem.W.fnOf "between" "between" (defArgs sBtw) (defBody sBtw) (defScope sBtw) .none kV0 dc0 pm0 an0 cd0 ct0), sl0⟩)
    (c0 : PySem.W.codeIn K cd0 "between" = true)
    (k0 : PySem.W.keepIn K (.ref f0) = true)
    (a1 : PySem.W.nsIn K mainGlobals "box" = some (some (.ref f1)))
    (l1 : K.lookup f1 = some ⟨oc1, od1, .func (PySem.W.fnOf "box" "box" (defArgs sBox) (defBody sBox) (defScope sBox) .none kV1 dc1 pm1 an1 cd1 ct1), sl1⟩)
    (c1 : PySem.W.codeIn K cd1 "box" = true)
    (k1 : PySem.W.keepIn K (.ref f1) = true)
    (a2 : PySem.W.nsIn K mainGlobals "goes_on" = some (some (.ref f2)))
    (l2 : K.lookup f2 = some ⟨oc2, od2, .func (PySem.W.fnOf "goes_on" "goes_on" (defArgs sGoes) (defBody sGoes) (defScope sGoes) .none kV2 dc2 pm2 an2 cd2 ct2), sl2⟩)
    (c2 : PySem.W.codeIn K cd2 "goes_on" = true)
    (k2 : PySem.W.keepIn K (.ref f2) = true)
    (a3 : PySem.W.nsIn K mainGlobals "runs" = some (some (.ref f3)))
    (l3 : K.lookup f3 = some ⟨oc3, od3, .func (PySem.W.fnOf "runs" "runs" (defArgs sRuns) (defBody sRuns) (defScope sRuns) .none kV3 dc3 pm3 an3 cd3 ct3), sl3⟩)
    (c3 : PySem.W.codeIn K cd3 "runs" = true)
    (k3 : PySem.W.keepIn K (.ref f3) = true)
    (a4 : PySem.W.nsIn K mainGlobals "_law_whole" = some (some (.ref f4)))
    (l4 : K.lookup f4 = some ⟨oc4, od4, .func (PySem.W.fnOf "_law_whole" "_law_whole" (defArgs sWhole) (defBody sWhole) (defScope sWhole) .none kV4 dc4 pm4 an4 cd4 ct4), sl4⟩)
    (c4 : PySem.W.codeIn K cd4 "_law_whole" = true)
    (k4 : PySem.W.keepIn K (.ref f4) = true)
    (a5 : PySem.W.nsIn K mainGlobals "_law_cell_at" = some (some (.ref f5)))
    (l5 : K.lookup f5 = some ⟨oc5, od5, .func (PySem.W.fnOf "_law_cell_at" "_law_cell_at" (defArgs sCell) (defBody sCell) (defScope sCell) .none kV5 dc5 pm5 an5 cd5 ct5), sl5⟩)
    (c5 : PySem.W.codeIn K cd5 "_law_cell_at" = true)
    (k5 : PySem.W.keepIn K (.ref f5) = true)
    (a6 : PySem.W.nsIn K mainGlobals "_law_spot" = some (some (.ref f6)))
    (l6 : K.lookup f6 = some ⟨oc6, od6, .func (PySem.W.fnOf "_law_spot" "_law_spot" (defArgs sSpotL) (defBody sSpotL) (defScope sSpotL) .none kV6 dc6 pm6 an6 cd6 ct6), sl6⟩)
    (c6 : PySem.W.codeIn K cd6 "_law_spot" = true)
    (k6 : PySem.W.keepIn K (.ref f6) = true)
    (a7 : PySem.W.nsIn K mainGlobals "_law_box_good" = some (some (.ref f7)))
    (l7 : K.lookup f7 = some ⟨oc7, od7, .func (PySem.W.fnOf "_law_box_good" "_law_box_good" (defArgs sBoxG) (defBody sBoxG) (defScope sBoxG) .none kV7 dc7 pm7 an7 cd7 ct7), sl7⟩)
    (c7 : PySem.W.codeIn K cd7 "_law_box_good" = true)
    (k7 : PySem.W.keepIn K (.ref f7) = true)
    (a8 : PySem.W.nsIn K mainGlobals "_law_marks" = some (some (.ref f8)))
    (l8 : K.lookup f8 = some ⟨oc8, od8, .func (PySem.W.fnOf "_law_marks" "_law_marks" (defArgs sMarks) (defBody sMarks) (defScope sMarks) .none kV8 dc8 pm8 an8 cd8 ct8), sl8⟩)
    (c8 : PySem.W.codeIn K cd8 "_law_marks" = true)
    (k8 : PySem.W.keepIn K (.ref f8) = true)
    (a9 : PySem.W.nsIn K mainGlobals "_law_marked" = some (some (.ref f9)))
    (l9 : K.lookup f9 = some ⟨oc9, od9, .func (PySem.W.fnOf "_law_marked" "_law_marked" (defArgs sMarked) (defBody sMarked) (defScope sMarked) .none kV9 dc9 pm9 an9 cd9 ct9), sl9⟩)
    (c9 : PySem.W.codeIn K cd9 "_law_marked" = true)
    (k9 : PySem.W.keepIn K (.ref f9) = true)
    (a10 : PySem.W.nsIn K mainGlobals "_law_run_good" = some (some (.ref f10)))
    (l10 : K.lookup f10 = some ⟨oc10, od10, .func (PySem.W.fnOf "_law_run_good" "_law_run_good" (defArgs sRunG) (defBody sRunG) (defScope sRunG) .none kV10 dc10 pm10 an10 cd10 ct10), sl10⟩)
    (c10 : PySem.W.codeIn K cd10 "_law_run_good" = true)
    (k10 : PySem.W.keepIn K (.ref f10) = true)
    (a11 : PySem.W.nsIn K mainGlobals "law" = some (some (.ref f11)))
    (l11 : K.lookup f11 = some ⟨oc11, od11, .func (PySem.W.fnOf "law" "law" (defArgs slaw) (defBody slaw) (defScope slaw) .none kV11 dc11 pm11 an11 cd11 ct11), sl11⟩)
    (c11 : PySem.W.codeIn K cd11 "law" = true)
    (k11 : PySem.W.keepIn K (.ref f11) = true)
    (z_len : PySem.W.nsIn K mainGlobals "len" = some none)
    (z_range : PySem.W.nsIn K mainGlobals "range" = some none)
    (z_isinstance : PySem.W.nsIn K mainGlobals "isinstance" = some none)
    (z_int : PySem.W.nsIn K mainGlobals "int" = some none)
    (z_bool : PySem.W.nsIn K mainGlobals "bool" = some none)
    (z_tuple : PySem.W.nsIn K mainGlobals "tuple" = some none)
    (z_list : PySem.W.nsIn K mainGlobals "list" = some none)
    (z_min : PySem.W.nsIn K mainGlobals "min" = some none)
    (z_max : PySem.W.nsIn K mainGlobals "max" = some none)
    (z_abs : PySem.W.nsIn K mainGlobals "abs" = some none)
    (z_sorted : PySem.W.nsIn K mainGlobals "sorted" = some none)
    (ii : PySem.W.kitOne K (.type "int") (.type "int") = some true)
    (ib : PySem.W.kitOne K (.type "int") (.type "bool") = some false)
    (tt : PySem.W.kitOne K (.type "tuple") (.type "tuple") = some true)
    (ll : PySem.W.kitOne K (.type "list") (.type "list") = some true)
    : ∃ fd : FuncData, (∀ (s : Shared) (v : Value), BindsTo s fd ⟨[v], []⟩ [("script", v)]) ∧ ∀ base : Heap, K.In base → base.Ns mainGlobals mg → FnOk l.prog w K mg base CX0 4 fa fd ["script"] (spLaw K) := by
  have e := hfa.symm.trans (PySem.W.mg_of X G a11)
  cases e
  have T : Txt K mg := ⟨PySem.W.mg_none_of X G z_len, PySem.W.mg_none_of X G z_range, PySem.W.mg_none_of X G z_isinstance, PySem.W.mg_none_of X G z_int, PySem.W.mg_none_of X G z_bool, PySem.W.mg_none_of X G z_tuple, PySem.W.mg_none_of X G z_list, PySem.W.mg_none_of X G z_min, PySem.W.mg_none_of X G z_max, PySem.W.mg_none_of X G z_abs, PySem.W.mg_none_of X G z_sorted, ii, ib, tt, ll⟩
  have F0 := fun_mk (st := sBtw) l0 c0 k0
  have b0 := F0.binds (ps := ["one", "two"]) fun _ _ _ _ _ _ us hl => match us, hl with | [_, _], _ => rfl
  have F1 := fun_mk (st := sBox) l1 c1 k1
  have b1 := F1.binds (ps := ["one", "two"]) fun _ _ _ _ _ _ us hl => match us, hl with | [_, _], _ => rfl
  have F2 := fun_mk (st := sGoes) l2 c2 k2
  have b2 := F2.binds (ps := ["run", "spot", "mark"]) fun _ _ _ _ _ _ us hl => match us, hl with | [_, _, _], _ => rfl
  have F3 := fun_mk (st := sRuns) l3 c3 k3
  have b3 := F3.binds (ps := ["marks"]) fun _ _ _ _ _ _ us hl => match us, hl with | [_], _ => rfl
  have F4 := fun_mk (st := sWhole) l4 c4 k4
  have b4 := F4.binds (ps := ["found"]) fun _ _ _ _ _ _ us hl => match us, hl with | [_], _ => rfl
  have F5 := fun_mk (st := sCell) l5 c5 k5
  have b5 := F5.binds (ps := ["script", "k"]) fun _ _ _ _ _ _ us hl => match us, hl with | [_, _], _ => rfl
  have F6 := fun_mk (st := sSpotL) l6 c6 k6
  have b6 := F6.binds (ps := ["found"]) fun _ _ _ _ _ _ us hl => match us, hl with | [_], _ => rfl
  have F7 := fun_mk (st := sBoxG) l7 c7 k7
  have b7 := F7.binds (ps := ["found", "one", "two"]) fun _ _ _ _ _ _ us hl => match us, hl with | [_, _, _], _ => rfl
  have F8 := fun_mk (st := sMarks) l8 c8 k8
  have b8 := F8.binds (ps := ["script", "base"]) fun _ _ _ _ _ _ us hl => match us, hl with | [_, _], _ => rfl
  have F9 := fun_mk (st := sMarked) l9 c9 k9
  have b9 := F9.binds (ps := ["marks", "spot", "mark"]) fun _ _ _ _ _ _ us hl => match us, hl with | [_, _, _], _ => rfl
  have F10 := fun_mk (st := sRunG) l10 c10 k10
  have b10 := F10.binds (ps := ["marks", "run"]) fun _ _ _ _ _ _ us hl => match us, hl with | [_, _], _ => rfl
  have F11 := fun_mk (st := slaw) l11 c11 k11
  refine ⟨PySem.W.fnOf "law" "law" (defArgs slaw) (defBody slaw) (defScope slaw) .none kV11 dc11 pm11 an11 cd11 ct11, fun s v => .of_eq rfl, fun base hB _ => ?_⟩
  have gBtw : Callee l.prog w K mg base "between" 1 ["one", "two"] spBtw := ⟨f0, _, ok_Btw F0 T, PySem.W.mg_of X G a0, k0, b0⟩
  have gBox : Callee l.prog w K mg base "box" 2 ["one", "two"] spBox := ⟨f1, _, ok_Box F1 T gBtw, PySem.W.mg_of X G a1, k1, b1⟩
  have gGoes : Callee l.prog w K mg base "goes_on" 1 ["run", "spot", "mark"] (spGoes K) := ⟨f2, _, ok_Goes F2 T, PySem.W.mg_of X G a2, k2, b2⟩
  have gRuns : Callee l.prog w K mg base "runs" 2 ["marks"] (spRuns K) := ⟨f3, _, ok_Runs F3 T gGoes, PySem.W.mg_of X G a3, k3, b3⟩
  have gWhole : Callee l.prog w K mg base "_law_whole" 1 ["found"] spWhole := ⟨f4, _, ok_Whole F4 T, PySem.W.mg_of X G a4, k4, b4⟩
  have gCell : Callee l.prog w K mg base "_law_cell_at" 1 ["script", "k"] (spCell K) := ⟨f5, _, ok_Cell F5 T, PySem.W.mg_of X G a5, k5, b5⟩
  have gSpotL : Callee l.prog w K mg base "_law_spot" 2 ["found"] spSpotL := ⟨f6, _, ok_SpotL F6 T gWhole, PySem.W.mg_of X G a6, k6, b6⟩
  have gBoxG : Callee l.prog w K mg base "_law_box_good" 3 ["found", "one", "two"] (spBoxG K) := ⟨f7, _, ok_BoxG F7 T gSpotL, PySem.W.mg_of X G a7, k7, b7⟩
  have gMarks : Callee l.prog w K mg base "_law_marks" 2 ["script", "base"] (spMarks K) := ⟨f8, _, ok_Marks F8 T gCell, PySem.W.mg_of X G a8, k8, b8⟩
  have gMarked : Callee l.prog w K mg base "_law_marked" 1 ["marks", "spot", "mark"] spMarked := ⟨f9, _, ok_Marked F9 T, PySem.W.mg_of X G a9, k9, b9⟩
  have gRunG : Callee l.prog w K mg base "_law_run_good" 3 ["marks", "run"] (spRunG K) := ⟨f10, _, ok_RunG F10 T gWhole gSpotL gMarked, PySem.W.mg_of X G a10, k10, b10⟩
  exact ok_law F11 T gBox gRuns gCell gBoxG gMarks gRunG
theorem walk {l : PySem.W.OpenLaw} {q : Program} {loose : List Str} {XP : (Str → Option Value) → Heap → Prop} {YP : World → Heap → Prop} {d : DefRec} {K : Params → PySem.W.Frag} (hn : l.most = some 63) (hdf : d.params.defaults = [])
    (hY : ∀ (w : World) (h : Heap), YP w h → (K w.params).In h)
    (F : ∀ (w : World) (mg : Str → Option Value) (fa : Addr) (h : Heap), (K w.params).In h → h.Ns mainGlobals mg → mg d.name = some (.ref fa) →
      ∃ fd : FuncData, (∀ (s : Shared) (u : Value), BindsTo s fd ⟨[u], []⟩ [("script", u)]) ∧ ∀ base : Heap, (K w.params).In base → base.Ns mainGlobals mg → FnOk l.prog w (K w.params) mg base CX0 4 fa fd ["script"] (spLaw (K w.params))) :
    PySem.W.WalkO q loose XP YP l.row.toRowW d [] (fun f vs => PySem.call f vs) :=
  L2.walk_of (n := 63) (k := 4) (x := "script") (CX := fun _ => CX0) (sp := fun w => spLaw (K w.params)) hn (by decide) hdf ⟨rfl, by decide, by decide, rfl⟩ hY F (fun _ _ a ns hl _ hS => ⟨a, ns, rfl, hS, hl, fun _ => rfl⟩) fun _ _ _ _ _ z => z
end K16
open PySem PySem.W PyProof.Rows
set_option maxRecDepth 100000 in
set_option maxHeartbeats 0 in
theorem PySem.Challenge.cw_wirefloor_k16_boxes_and_runs_holds : PySem.Challenge.rw_wirefloor_k16_boxes_and_runs.Holds := by
  w_on; o_law; k_head; (case hw => w_witness2)
  k_fill
  refine K16.walk (l := PySem.Challenge.rw_wirefloor_k16_boxes_and_runs) rfl rfl (fun w h Y => PySem.W.kIn_of Y) ?F
  case F =>
    intro w mg fa h KX G hmg
    refine' K16.all_mk KX G hmg ?a0 ?l0 ?c0 ?k0 ?a1 ?l1 ?c1 ?k1 ?a2 ?l2 ?c2 ?k2 ?a3 ?l3 ?c3 ?k3 ?a4 ?l4 ?c4 ?k4 ?a5 ?l5 ?c5 ?k5 ?a6 ?l6 ?c6 ?k6 ?a7 ?l7 ?c7 ?k7 ?a8 ?l8 ?c8 ?k8 ?a9 ?l9 ?c9 ?k9 ?a10 ?l10 ?c10 ?k10 ?a11 ?l11 ?c11 ?k11 ?z_len ?z_range ?z_isinstance ?z_int ?z_bool ?z_tuple ?z_list ?z_min ?z_max ?z_abs ?z_sorted ?ii ?ib ?tt ?ll
    (case a0 => k_is)
    (case l0 => k_is)
    (case c0 => k_is)
    (case k0 => k_is)
    (case a1 => k_is)
    (case l1 => k_is)
    (case c1 => k_is)
    (case k1 => k_is)
    (case a2 => k_is)
    (case l2 => k_is)
    (case c2 => k_is)
    (case k2 => k_is)
    (case a3 => k_is)
    (case l3 => k_is)
    (case c3 => k_is)
    (case k3 => k_is)
    (case a4 => k_is)
    (case l4 => k_is)
    (case c4 => k_is)
    (case k4 => k_is)
    (case a5 => k_is)
    (case l5 => k_is)
    (case c5 => k_is)
    (case k5 => k_is)
    (case a6 => k_is)
    (case l6 => k_is)
    (case c6 => k_is)
    (case k6 => k_is)
    (case a7 => k_is)
    (case l7 => k_is)
    (case c7 => k_is)
    (case k7 => k_is)
    (case a8 => k_is)
    (case l8 => k_is)
    (case c8 => k_is)
    (case k8 => k_is)
    (case a9 => k_is)
    (case l9 => k_is)
    (case c9 => k_is)
    (case k9 => k_is)
    (case a10 => k_is)
    (case l10 => k_is)
    (case c10 => k_is)
    (case k10 => k_is)
    (case a11 => k_is)
    (case l11 => k_is)
    (case c11 => k_is)
    (case k11 => k_is)
    (case z_len => k_is)
    (case z_range => k_is)
    (case z_isinstance => k_is)
    (case z_int => k_is)
    (case z_bool => k_is)
    (case z_tuple => k_is)
    (case z_list => k_is)
    (case z_min => k_is)
    (case z_max => k_is)
    (case z_abs => k_is)
    (case z_sorted => k_is)
    (case ii => kit_is)
    (case ib => kit_is)
    (case tt => kit_is)
    (case ll => kit_is)
