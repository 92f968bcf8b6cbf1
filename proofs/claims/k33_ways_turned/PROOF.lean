import PyProof.Rows.All
import Wide.All
import OpenK.AllK
import Wide.FinOn
import Lean
import PyProof.EqAt
import PyProof.EqKinds
import PyProof.TupleCall
import OpenK.KRaise
import OpenK.KOwn
import KE.KTryMore
import KE.RegKTryMore
import PyProof.ExcArgsOwn
import KE.KIntText
import KE.KSortTup
import KE.KDictOf
import KE.KRevIter
import KE.KEqDict
import PyProof.Rows.SetFrom
import PyProof.TupleKey
import PyProof.Rows.SetObj
import PyProof.SetRoads
import PyProof.IsiH_list
import PyProof.ZipIter
import PyProof.Rows.TupIter
import PyProof.DictValues
import PyProof.DictWalks
import KE.KDictSum
import KE.KNest
import KE.KLam
import KE.KNestM
import KE.KDictList
import KE.KDictLaws
import PySem.Challenge.RW_wirefloor_k33_ways_turned
set_option Elab.async false
set_option linter.all false
set_option maxRecDepth 100000
namespace L2
open PySem PySem.Spec PyProof.Rows
abbrev Key := Sum Int Str
def keyIs : Key → Value → Bool
  | .inl k, v => Value.isInt k v
  | .inr x, v => Value.isStrOf x v
def keyH (w : World) : Key → Int
  | .inl k => hashInt k
  | .inr x => hashStr w x
theorem keyIs_shape : ∀ {k : Key} {v : Value}, keyIs k v = true → (∃ i t, k = Sum.inl i ∧ v = Value.int i t) ∨ (∃ x t, k = Sum.inr x ∧ v = Value.str x t)
  | .inl i, v, h => by
    obtain ⟨t, e⟩ := Value.isInt_shape (k := i) (v := v) h
    exact .inl ⟨i, t, rfl, e⟩
  | .inr x, v, h => by
    obtain ⟨t, e⟩ := Value.isStrOf_shape (x := x) (v := v) h
    exact .inr ⟨x, t, rfl, e⟩
theorem keyIs_int (i : Int) (t : Tok) : keyIs (.inl i) (.int i t) = true := by simp [keyIs, Value.isInt]
theorem keyIs_str (x : Str) (t : Tok) : keyIs (.inr x) (.str x t) = true := by simp [keyIs, Value.isStrOf]
theorem key_ll (a b : Int) : decide ((Sum.inl a : Key) = Sum.inl b) = (a == b) := by
  by_cases e : a = b
  · subst e; simp
  · have h : ¬ (Sum.inl a : Key) = Sum.inl b := fun q => e (Sum.inl.inj q)
    rw [decide_eq_false h]
    exact (beq_eq_false_iff_ne.mpr e).symm
theorem key_rr (a b : Str) : decide ((Sum.inr a : Key) = Sum.inr b) = decide (a = b) := by
  by_cases e : a = b
  · subst e; simp
  · have h : ¬ (Sum.inr a : Key) = Sum.inr b := fun q => e (Sum.inr.inj q)
    rw [decide_eq_false h, decide_eq_false e]
theorem key_lr (a : Int) (b : Str) : decide ((Sum.inl a : Key) = Sum.inr b) = false := decide_eq_false (fun q => nomatch q)
theorem key_rl (a : Str) (b : Int) : decide ((Sum.inr a : Key) = Sum.inl b) = false := decide_eq_false (fun q => nomatch q)
def mixKind (prog : Program) (w : World) : PySem.KeyKind prog w Key where
  is := keyIs
  hash := keyH w
  inj := fun v a b ha hb => by
    rcases keyIs_shape ha with ⟨i, t, rfl, rfl⟩ | ⟨x, t, rfl, rfl⟩
    · rcases keyIs_shape hb with ⟨j, u, rfl, e⟩ | ⟨y, u, rfl, e⟩
      · injection e with e1 _; rw [e1]
      · exact nomatch e
    · rcases keyIs_shape hb with ⟨j, u, rfl, e⟩ | ⟨y, u, rfl, e⟩
      · exact nomatch e
      · injection e with e1 _; rw [e1]
  byValue := fun k v h => by
    rcases keyIs_shape h with ⟨i, t, rfl, rfl⟩ | ⟨x, t, rfl, rfl⟩ <;> rfl
  pyHash := fun hv h => by
    rcases keyIs_shape hv with ⟨i, t, rfl, rfl⟩ | ⟨x, t, rfl, rfl⟩
    · exact wpAny_pyHash_int h
    · exact wpAny_pyHash_str h
  eqBool := fun hu hv h => by
    rcases keyIs_shape hu with ⟨i, t, rfl, rfl⟩ | ⟨x, t, rfl, rfl⟩
    · rcases keyIs_shape hv with ⟨j, u, rfl, rfl⟩ | ⟨y, u, rfl, rfl⟩
      · rw [key_ll] at h; exact wpAny_eqBool_int h
      · rw [key_lr] at h; exact SeqAt.EqAt.int_str i t y u _ _ _ _ h
    · rcases keyIs_shape hv with ⟨j, u, rfl, rfl⟩ | ⟨y, u, rfl, rfl⟩
      · rw [key_rl] at h; exact SeqAt.EqAt.str_int x t j u _ _ _ _ h
      · rw [key_rr] at h; exact wpAny_eqBool_str h
  «strs» := fun k x t v h => by
    rcases keyIs_shape h with ⟨i, u, rfl, e⟩ | ⟨y, u, rfl, e⟩
    · exact nomatch e
    · injection e with e1 _
      subst e1
      cases v <;> rfl
theorem mixKind_int (prog : Program) (w : World) (i : Int) (t : Tok) : (mixKind prog w).is (.inl i) (.int i t) = true := keyIs_int i t
theorem mixKind_str (prog : Program) (w : World) (x : Str) (t : Tok) : (mixKind prog w).is (.inr x) (.str x t) = true := keyIs_str x t
end L2
namespace L2
open PySem PySem.Spec PyProof.Rows
inductive V where
  | non | bl (b : Bool) | int (i : Int) | str (x : Str) | byt (b : Array UInt8) | flt (b : UInt64) | ref (a : Addr) | ty (n : String)
  deriving DecidableEq
def RelV : V → Value → Prop
  | .non, u => u = Value.none
  | .bl b, u => u = Value.bool b
  | .int i, u => ∃ t, u = Value.int i t
  | .str x, u => ∃ t, u = Value.str x t
  | .byt b, u => ∃ t, u = Value.bytes b t
  | .flt b, u => ∃ t, u = Value.float b t
  | .ref a, u => u = Value.ref a
  | .ty n, u => u = Value.type n
abbrev Vals : List V → List Value → Prop := Paired RelV
theorem Vals.length {xs : List V} {us : List Value} (r : Vals xs us) : xs.length = us.length := Paired.length r
theorem Vals.get : ∀ {xs : List V} {us : List Value} {i : Nat} {x : V}, Vals xs us → xs[i]? = some x → ∃ u, us[i]? = some u ∧ RelV x u
  | _, _, _, _, .nil, e => by simp at e
  | _, _, 0, _, .cons r _, e => by simp at e; subst e; exact ⟨_, rfl, r⟩
  | _, _, i + 1, x, .cons _ t, e => by
    obtain ⟨u, h1, h2⟩ := Vals.get (i := i) (x := x) t (by simpa using e)
    exact ⟨u, by simpa using h1, h2⟩
theorem Vals.set {x : V} {u : Value} (r : RelV x u) : ∀ {xs : List V} {us : List Value} (i : Nat), Vals xs us → Vals (xs.set i x) (us.set i u)
  | _, _, _, .nil => .nil
  | _, _, 0, .cons _ t => .cons r t
  | _, _, i + 1, .cons q t => .cons q (Vals.set r i t)
theorem Vals.append : ∀ {xs ys : List V} {us ws : List Value}, Vals xs us → Vals ys ws → Vals (xs ++ ys) (us ++ ws)
  | _, _, _, _, .nil, s => s
  | _, _, _, _, .cons r t, s => .cons r (Vals.append t s)
theorem Vals.take : ∀ {xs : List V} {us : List Value} (n : Nat), Vals xs us → Vals (xs.take n) (us.take n)
  | _, _, 0, _ => .nil
  | _, _, _ + 1, .nil => .nil
  | _, _, n + 1, .cons r t => .cons r (Vals.take n t)
theorem Vals.drop : ∀ {xs : List V} {us : List Value} (n : Nat), Vals xs us → Vals (xs.drop n) (us.drop n)
  | _, _, 0, r => r
  | _, _, _ + 1, .nil => .nil
  | _, _, n + 1, .cons _ t => Vals.drop n t
theorem Vals.none_of : ∀ {xs : List V} {us : List Value} {i : Nat}, Vals xs us → xs[i]? = none → us[i]? = none := fun {xs us i} r e => by
  have h1 := r.length
  have h2 : xs.length ≤ i := List.getElem?_eq_none_iff.mp e
  exact List.getElem?_eq_none_iff.mpr (by omega)
def RelO : Option V → Option Value → Prop
  | some v, some u => RelV v u
  | none, none => True
  | _, _ => False
def KV {κ : Type} : List (κ × V) → List (κ × Value) → Prop := Paired fun (p : κ × V) (q : κ × Value) => p.1 = q.1 ∧ RelV p.2 q.2
def kV : Key → V
  | .inl i => .int i
  | .inr x => .str x
inductive HO where
  | lst (xs : List V)
  | tup (xs : List V)
  | dK (kvs : List (Key × V)) | dT (kvs : List (List Key × V))
  | set (S : Int → Bool) (n : Nat)
  | ins (C dx : Addr) (fs : List (Str × V))
  | own (x : Addr)
  | xd (fs : List (Str × V))
  | met (f x : Addr)
  | rng (lo hi : Int)
  | frz (o : Obj) (u : HO)
  | tbl (ps : Array Value)
  | ext (φ : Heap → Prop)
abbrev Hp := Addr → Option HO
def upd (H : Hp) (a : Addr) (o : HO) : Hp := fun b => if b = a then some o else H b
theorem upd_same {H : Hp} {a : Addr} {o : HO} : upd H a o a = some o := by unfold upd; rw [if_pos rfl]
theorem upd_ne {H : Hp} {a b : Addr} {o : HO} (h : b ≠ a) : upd H a o b = H b := by unfold upd; rw [if_neg h]
theorem ne_of {H : Hp} {a b : Addr} {o u : HO} (h : H a = some o) (h' : H b = some u) (d : o ≠ u) : a ≠ b := by
  intro e; subst e; rw [h] at h'; exact d (Option.some.inj h')
theorem ne_of_none {H : Hp} {a b : Addr} {o : HO} (h : H a = some o) (h' : H b = none) : a ≠ b := by
  intro e; subst e; rw [h] at h'; cases h'
section
variable (P : Program) (w : World)
def ObjOk (H : Hp) (h : Heap) (a : Addr) : HO → Prop
  | .lst xs => xs.length ≤ sizeLine ∧ ∃ (its : List Value) (n : Nat), Vals xs its ∧ h.get? a = some { cls := .type "list", data := .seq its.toArray n }
  | .tup xs => xs.length ≤ sizeLine ∧ ∃ its : List Value, Vals xs its ∧ IsTup h a its.toArray
  | .dK kvs => kvs.length ≤ sizeLine ∧ (a == sysModules) = false ∧ ∃ vs, KV kvs vs ∧ h.DictOf (mixKind P w) a vs
  | .dT kvs => kvs.length ≤ sizeLine ∧ (a == sysModules) = false ∧ ∃ xs : List (List Key × Addr × Value),
      Paired (fun (p : List Key × V) (q : List Key × Addr × Value) => p.1 = q.1 ∧ H q.2.1 = some (.tup (p.1.map kV)) ∧ RelV p.2 q.2.2) kvs xs ∧
      ∃ o es ep, h.get? a = some o ∧ o.ExactDict ∧ o.data = .dict es ep ∧ es.toList = xs.map (entryOfKey (tupleKind (mixKind P w))) ∧ (xs.map (·.1)).Nodup
  | .set S n => h.SetOf (intKind P w) a S n
  | .ins C dx fs => H dx = some (.own a) ∧ fs.length ≤ 1000 ∧ dx ≠ a ∧ h.get? a = some (PySem.W.instObj C dx) ∧
      ∃ mA, h.Ns1 dx mA ∧ (∀ f, RelO (fs.lookup f) (mA f)) ∧ PySem.Within mA (fs.map (·.1))
  | .own _ => ∃ o, h.get? a = some o
  | .xd fs => ∃ mA, h.Ns1 a mA ∧ ∀ f, RelO (fs.lookup f) (mA f)
  | .rng lo hi => ∃ t u v, h.get? a = some { cls := .type "range", data := .fields #[.int lo t, .int hi u, .int 1 v] }
  | .frz o u => h.get? a = some o ∧ ObjOk H h a u
  | .tbl ps => h.get? a = some { cls := .none, data := .fields ps }
  | .met f x => h.get? a = some (PySem.W.methodObj (.ref f) (.ref x))
  | .ext φ => φ h ∧ (∃ o, h.get? a = some o) ∧ ∀ h1 h2 : Heap, φ h1 → (∀ o, h1.get? a = some o → h2.get? a = some o) → φ h2
def HOk (H : Hp) (h : Heap) : Prop := ∀ a o, H a = some o → ObjOk P w H h a o
end
section
variable {P : Program} {w : World} {H H' : Hp} {h h' : Heap} {a : Addr} {o : HO}
theorem ObjOk.lt (x : ObjOk P w H h a o) : a < h.objs.size := by
  cases o with
  | lst xs => obtain ⟨_, _, _, _, e⟩ := x; exact Heap.lt_size e
  | tup xs => obtain ⟨_, _, _, p⟩ := x; exact p.lt
  | dK kvs => obtain ⟨_, _, _, _, o, _, _, e, _⟩ := x; exact Heap.lt_size e
  | dT kvs => obtain ⟨_, _, _, _, o, _, _, e, _⟩ := x; exact Heap.lt_size e
  | set S n => obtain ⟨o, _, _, _, e, _⟩ := x; exact Heap.lt_size e
  | ins C dx fs => obtain ⟨_, _, _, e, _⟩ := x; exact Heap.lt_size e
  | own y => obtain ⟨_, e⟩ := x; exact Heap.lt_size e
  | xd fs => obtain ⟨_, ⟨_, _, _, e, _⟩, _⟩ := x; exact Heap.lt_size e
  | rng lo hi => obtain ⟨_, _, _, e⟩ := x; exact Heap.lt_size e
  | frz ob u => obtain ⟨e, _⟩ := x; exact Heap.lt_size e
  | tbl ps => exact Heap.lt_size (show h.get? a = some _ from x)
  | met f y => exact Heap.lt_size (show h.get? a = some _ from x)
  | ext φ => obtain ⟨_, ⟨_, e⟩, _⟩ := x; exact Heap.lt_size e
theorem Paired.mapP {α β : Type} {F G : α → β → Prop} : ∀ {l₁ : List α} {l₂ : List β}, Paired F l₁ l₂ → (∀ a b, F a b → G a b) → Paired G l₁ l₂
  | _, _, .nil, _ => .nil
  | _, _, .cons r t, f => .cons (f _ _ r) (Paired.mapP t f)
theorem ObjOk.stay (x : ObjOk P w H h a o) (k : ∀ b u, (b = a ∨ H b = some (.own a)) → h.get? b = some u → h'.get? b = some u)
    (ho : ∀ b, H b = some (.own a) → H' b = some (.own a)) (ht : ∀ b xs, H b = some (.tup xs) → H' b = some (.tup xs)) : ObjOk P w H' h' a o := by
  induction o with
  | lst xs => obtain ⟨z, its, n, r, e⟩ := x; exact ⟨z, its, n, r, k _ _ (.inl rfl) e⟩
  | tup xs => obtain ⟨z, its, r, ob, e, c⟩ := x; exact ⟨z, its, r, ob, k _ _ (.inl rfl) e, c⟩
  | dK kvs => obtain ⟨z, y, vs, r, ob, es, ep, e, c⟩ := x; exact ⟨z, y, vs, r, ob, es, ep, k _ _ (.inl rfl) e, c⟩
  | dT kvs =>
    obtain ⟨z, y, xs, r, ob, es, ep, e, c⟩ := x
    exact ⟨z, y, xs, Paired.mapP r fun p q z => ⟨z.1, ht _ _ z.2.1, z.2.2⟩, ob, es, ep, k _ _ (.inl rfl) e, c⟩
  | set S n => obtain ⟨ob, es, ep, t, e, c⟩ := x; exact ⟨ob, es, ep, t, k _ _ (.inl rfl) e, c⟩
  | ins C dx fs =>
    obtain ⟨d, z, ne, e, mA, ⟨od, es, ep, e2, c⟩, r⟩ := x
    exact ⟨ho _ d, z, ne, k _ _ (.inl rfl) e, mA, ⟨od, es, ep, k _ _ (.inr d) e2, c⟩, r⟩
  | own y => obtain ⟨ob, e⟩ := x; exact ⟨ob, k _ _ (.inl rfl) e⟩
  | xd fs => obtain ⟨mA, ⟨od, es, ep, e, c⟩, r⟩ := x; exact ⟨mA, ⟨od, es, ep, k _ _ (.inl rfl) e, c⟩, r⟩
  | rng lo hi => obtain ⟨t, u, v, e⟩ := x; exact ⟨t, u, v, k _ _ (.inl rfl) e⟩
  | frz ob u ih => obtain ⟨e, q⟩ := x; exact ⟨k _ _ (.inl rfl) e, ih q⟩
  | tbl ps =>
    have e : h.get? a = some { cls := .none, data := .fields ps } := x
    show h'.get? a = some { cls := .none, data := .fields ps }
    exact k a _ (.inl rfl) e
  | met f y =>
    have e : h.get? a = some (PySem.W.methodObj (.ref f) (.ref y)) := x
    show h'.get? a = some (PySem.W.methodObj (.ref f) (.ref y))
    exact k a _ (.inl rfl) e
  | ext φ => obtain ⟨p, ⟨o, e⟩, st⟩ := x; exact ⟨st _ _ p fun o q => k _ _ (.inl rfl) q, ⟨o, k _ _ (.inl rfl) e⟩, st⟩
theorem HOk.lt (x : HOk P w H h) (e : H a = some o) : a < h.objs.size := (x a o e).lt
theorem HOk.fresh (x : HOk P w H h) (e : h.objs.size ≤ a) : H a = none := by
  cases q : H a with
  | none => rfl
  | some u => exact absurd (Nat.lt_of_lt_of_le (x.lt q) e) (Nat.lt_irrefl _)
theorem HOk.kept (x : HOk P w H h) (k : ∀ b u, h.get? b = some u → h'.get? b = some u) : HOk P w H h' := fun a o e =>
  (x a o e).stay (fun b u _ q => k b u q) (fun _ q => q) fun _ _ q => q
theorem HOk.laid (x : HOk P w H h) (k : ∀ b u, h.get? b = some u → h'.get? b = some u) (hp : h.objs.size ≤ a) (new : ObjOk P w (upd H a o) h' a o) : HOk P w (upd H a o) h' := fun b u e => by
  have hn := x.fresh hp
  by_cases hb : b = a
  · subst hb; rw [upd_same] at e; cases e; exact new
  · rw [upd_ne hb] at e
    exact (x b u e).stay (fun c v _ q => k c v q) (fun c q => by rw [upd_ne (ne_of_none q hn)]; exact q) fun c xs q => by rw [upd_ne (ne_of_none q hn)]; exact q
end
def Rd (H : Hp) (a : Addr) (u : HO) : Prop := H a = some u ∨ ∃ o, H a = some (.frz o u)
theorem Rd.of {H : Hp} {a : Addr} {u : HO} (h : H a = some u) : Rd H a u := .inl h
theorem Rd.ok {P : Program} {w : World} {H : Hp} {h : Heap} {a : Addr} {u : HO} (r : Rd H a u) (x : HOk P w H h) : ObjOk P w H h a u := by
  rcases r with r | ⟨o, r⟩
  · exact x a u r
  · obtain ⟨_, q⟩ := x a _ r
    exact q
def Mut : Option HO → Prop
  | some (.lst _) => True
  | some (.dK _) => True
  | some (.dT _) => True
  | some (.set _ _) => True
  | some (.ins _ _ _) => True
  | some (.ext _) => True
  | _ => False
section
variable {P : Program} {w : World} {H : Hp} {h h' : Heap} {x e : Addr} {o' : HO}
theorem HOk.write (ok : HOk P w H h) (mu : Mut (H x)) (he : e = x ∨ H e = some (.own x)) (k : ∀ b u, b ≠ e → h.get? b = some u → h'.get? b = some u) (heo : ∃ u, h'.get? e = some u)
    (new : ObjOk P w (upd H x o') h' x o') : HOk P w (upd H x o') h' := fun b u q => by
  have nown : ∀ c y, H c = some (.own y) → c ≠ x := fun c y r z => by subst z; rw [r] at mu; exact mu
  have ntup : ∀ c xs, H c = some (.tup xs) → c ≠ x := fun c xs r z => by subst z; rw [r] at mu; exact mu
  by_cases hb : b = x
  · subst hb; rw [upd_same] at q; cases q; exact new
  · rw [upd_ne hb] at q
    by_cases hbe : b = e
    · have q' : H b = some (.own x) := by
        rcases he with z | z
        · exact absurd (hbe.trans z) hb
        · rw [hbe]; exact z
      rw [q] at q'; cases q'
      obtain ⟨v, hv⟩ := heo
      exact ⟨v, by rw [hbe]; exact hv⟩
    · refine (ok b u q).stay (fun c v hc r => k c v ?_ r) (fun c r => by rw [upd_ne (nown c b r)]; exact r) fun c xs r => by rw [upd_ne (ntup c xs r)]; exact r
      rcases hc with rfl | hc
      · exact hbe
      · rintro rfl
        rcases he with z | z
        · exact nown c b hc z
        · rw [hc] at z; cases z; exact hb rfl
end
structure Un (fs ex : List Addr) (H H' : Hp) (h h' : Heap) : Prop where
  keep : ∀ b o, h.get? b = some o → H b = none → b ∉ fs → b ∉ ex → h'.get? b = some o
  slot : ∀ b o, h.get? b = some o → H b = none → b ∈ fs → b ∉ ex → ∃ sl, h'.get? b = some { o with slots := sl }
  free : ∀ b o, h.get? b = some o → H b = none → b ∉ ex → H' b = none
  there : ∀ b o, h.get? b = some o → b ∉ ex → ∃ o', h'.get? b = some o'
  tups : ∀ b xs, H b = some (.tup xs) → H' b = some (.tup xs)
  frzs : ∀ b o u, H b = some (.frz o u) → H' b = some (.frz o u)
  tbls : ∀ b ps, H b = some (.tbl ps) → ∃ more, H' b = some (.tbl (ps ++ more))
section
variable {fs fs' ex ex' : List Addr} {H H1 H2 : Hp} {h h1 h2 h' : Heap} {a x e : Addr} {o : HO}
theorem Un.any (u : Un fs ex H H1 h h1) {b : Addr} {ob : Obj} (q : h.get? b = some ob) (n : H b = none) (hx : b ∉ ex) : ∃ sl, h1.get? b = some { ob with slots := sl } := by
  by_cases hb : b ∈ fs
  · exact u.slot b ob q n hb hx
  · exact ⟨ob.slots, u.keep b ob q n hb hx⟩
theorem Un.trans (a : Un fs ex H H1 h h1) (b : Un fs ex H1 H2 h1 h2) : Un fs ex H H2 h h2 where
  keep := fun c ob q n hc hx => b.keep c ob (a.keep c ob q n hc hx) (a.free c ob q n hx) hc hx
  slot := fun c ob q n hc hx => by
    obtain ⟨sl, e1⟩ := a.slot c ob q n hc hx
    obtain ⟨sl', e2⟩ := b.slot c _ e1 (a.free c ob q n hx) hc hx
    exact ⟨sl', e2⟩
  free := fun c ob q n hx => by
    obtain ⟨o', e1⟩ := a.there c ob q hx
    exact b.free c o' e1 (a.free c ob q n hx) hx
  there := fun c ob q hx => by
    obtain ⟨o', e1⟩ := a.there c ob q hx
    exact b.there c o' e1 hx
  tups := fun c xs q => b.tups c xs (a.tups c xs q)
  frzs := fun c ob xs q => b.frzs c ob xs (a.frzs c ob xs q)
  tbls := fun c ps q => by
    obtain ⟨m1, e1⟩ := a.tbls c ps q
    obtain ⟨m2, e2⟩ := b.tbls c _ e1
    exact ⟨m1 ++ m2, by rw [e2, Array.append_assoc]⟩
theorem Un.kept (k : ∀ b u, h.get? b = some u → h'.get? b = some u) : Un fs ex H H h h' :=
  ⟨fun b ob q _ _ _ => k b ob q, fun b ob q _ _ _ => ⟨ob.slots, k b ob q⟩, fun _ _ _ n _ => n, fun b ob q _ => ⟨ob, k b ob q⟩, fun _ _ q => q, fun _ _ _ q => q, fun _ ps q => ⟨#[], by rw [q]; simp⟩⟩
theorem Un.refl : Un fs ex H H h h := Un.kept fun _ _ q => q
theorem Un.laid (k : ∀ b u, h.get? b = some u → h'.get? b = some u) (hp : h.objs.size ≤ a) (hn : H a = none) : Un fs ex H (upd H a o) h h' where
  keep := fun b u q _ _ _ => k b u q
  slot := fun b u q _ _ _ => ⟨u.slots, k b u q⟩
  free := fun b u q n _ => by rw [upd_ne (Nat.ne_of_lt (Nat.lt_of_lt_of_le (Heap.lt_size q) hp))]; exact n
  there := fun b u q _ => ⟨u, k b u q⟩
  tups := fun b xs q => by rw [upd_ne (ne_of_none q hn)]; exact q
  frzs := fun b u xs q => by rw [upd_ne (ne_of_none q hn)]; exact q
  tbls := fun b ps q => ⟨#[], by rw [upd_ne (ne_of_none q hn), q]; simp⟩
theorem Un.write (mu : Mut (H x)) (he : e = x ∨ H e = some (.own x)) (k : ∀ b u, b ≠ e → h.get? b = some u → h'.get? b = some u) (heo : ∃ u, h'.get? e = some u) : Un fs ex H (upd H x o) h h' := by
  have hx : ∀ b, H b = none → b ≠ x := fun b n z => by subst z; rw [n] at mu; exact mu
  have hb : ∀ b, H b = none → b ≠ e := fun b n z => by
    subst z
    rcases he with r | r
    · exact hx b n r
    · rw [n] at r; cases r
  have hm : ∀ b u, H b = some u → ¬ Mut (some u) → b ≠ x := fun b u q nm z => by subst z; rw [q] at mu; exact nm mu
  refine ⟨fun b u q n _ _ => k b u (hb b n) q, fun b u q n _ _ => ⟨u.slots, k b u (hb b n) q⟩, fun b u q n _ => by rw [upd_ne (hx b n)]; exact n, fun b u q _ => ?_,
    fun b xs q => by rw [upd_ne (hm b _ q fun z => z)]; exact q, fun b u xs q => by rw [upd_ne (hm b _ q fun z => z)]; exact q, fun b ps q => ⟨#[], by rw [upd_ne (hm b _ q fun z => z), q]; simp⟩⟩
  by_cases hbe : b = e
  · subst hbe; exact heo
  · exact ⟨u, k b u hbe q⟩
theorem Un.mono (u : Un fs ex H H1 h h1) (hs : ∀ b ∈ fs, b ∈ fs') (hx : ∀ b ∈ ex, b ∈ ex') : Un fs' ex' H H1 h h1 :=
  ⟨fun b ob q n hb he => u.keep b ob q n (fun z => hb (hs b z)) fun z => he (hx b z), fun _ _ q n _ he => u.any q n fun z => he (hx _ z), fun b ob q n he => u.free b ob q n fun z => he (hx b z), fun b ob q he => u.there b ob q fun z => he (hx b z), u.tups, u.frzs, u.tbls⟩
end
def trk (h : Heap) (H : Hp) : List Addr := (List.range h.objs.size).filter fun a => (H a).isSome
def hidT (h : Heap) (H : Hp) : Heap := PySem.W.hideAll h (trk h H)
theorem hidT_size (h : Heap) (H : Hp) : (hidT h H).objs.size = h.objs.size := PySem.W.hideAll_size _ _
theorem hidT_get {h : Heap} {H : Hp} {b : Addr} {o : Obj} (e : h.get? b = some o) (n : H b = none) : (hidT h H).get? b = some o :=
  PySem.W.hideAll_get _ e fun hm => by
    have q : (H b).isSome = true := (List.mem_filter.mp hm).2
    rw [n] at q; simp at q
theorem of_hidT {h : Heap} {H : Hp} {b : Addr} {o : Obj} (e : (hidT h H).get? b = some o) : h.get? b = some o ∧ H b = none := by
  have e' : h.get? b = some o := PySem.W.of_hideAll (trk h H) e
  refine ⟨e', ?_⟩
  cases q : H b with
  | none => rfl
  | some x =>
    have hm : b ∈ trk h H := List.mem_filter.mpr ⟨List.mem_range.mpr (Heap.lt_size e'), by simp [q]⟩
    have z : (hidT h H).get? b = none := PySem.W.hideAll_none (trk h H) hm
    rw [z] at e; cases e
def allNews (g h : Heap) (L : Addr) : List (Addr × Obj) := (List.range h.objs.size).filterMap fun a => if a = L ∨ (g.get? a).isSome = true then none else (h.get? a).map fun o => (a, o)
def rest (g h : Heap) (L d : Addr) : List (Addr × Obj) := (allNews g h L).filter fun p => decide (p.1 ≠ d)
end L2
namespace L2
open PySem PySem.Spec PyProof.Rows
structure Mod (K : PySem.W.Frag) (mg : Str → Option Value) (base : Heap) : Prop where
  kin : K.In base
  glob : base.Ns mainGlobals mg
  blt : ∃ mb, base.Ns builtinsNs mb ∧ ∀ x : Str, x ≠ "__name__" → mb x = bootBuiltins x
  nolimit : base.NoLimit
structure Cx where
  prog : Program
  w : World
  K : PySem.W.Frag
  mg : Str → Option Value
  base : Heap
  A : Around
  N : List Str
  s₀ : Shared
  H₀ : Hp
  env : Env
  outer : List Env
  stack : List Env
  ex : List Addr
  fn : Str → Bool
  calm : Bool
  pn : List (Addr × Obj)
  xe : Value → Shared → Prop
def frs (l : List Env) : List Addr := l.filterMap (·.frame)
abbrev Cx.fs (X : Cx) : List Addr := frs X.outer
def Vis (sc : Scope) (x : Str) : Prop := sc.names.lookup x = some .local ∨ sc.names.lookup x = some .cell ∨ sc.names.lookup x = some .free
def Loc (sc : Scope) (x : Str) : Prop := sc.names.lookup x = some .local ∨ sc.names.lookup x = some .cell
def Look (env : Env) (h : Heap) (m : Str → Option Value) (x : Str) (u : Value) : Prop :=
  (env.kindOf x = some .local ∧ m x = some u) ∨ ((env.kindOf x = some .cell ∨ env.kindOf x = some .free) ∧ ∃ c, env.cells.lookup x = some c ∧ h.IsCell c (some u))
structure Cx.Ok (X : Cx) : Prop where
  mod : Mod X.K X.mg X.base
  kind : X.env.scope.kind = .function
  glob : X.env.globals = mainGlobals
  blt : X.env.builtins = builtinsNs
  above : X.s₀.heap.objs.size ≤ X.env.locals
  inj : ∀ x y c, X.env.cells.lookup x = some c → X.env.cells.lookup y = some c → x = y
  has : ∀ x, (X.env.kindOf x = some .cell ∨ X.env.kindOf x = some .free) → ∃ c, X.env.cells.lookup x = some c
  cab : ∀ x c, X.fn x = true → X.env.cells.lookup x = some c → X.s₀.heap.objs.size ≤ c
  hd : X.calm = true → X.A.handled = none
  frames : X.A.frames = some X.stack
  stk : X.stack = X.outer ∨ (X.stack = X.env :: X.outer ∧ X.env.frame = some X.env.locals)
  exf : ∀ b ∈ X.ex, b ≠ X.env.locals ∧ ∀ x c, X.env.cells.lookup x = some c → c ≠ b
  bs : ∀ b o, X.base.get? b = some o → X.s₀.heap.get? b = some o ∧ X.H₀ b = none
  bsz : X.base.objs.size ≤ X.s₀.heap.objs.size
  noex : ∀ b o, X.base.get? b = some o → b ∉ X.ex
  exfs : ∀ b ∈ X.ex, b ∉ X.fs
  funs : X.s₀.heap.FunFrames X.base X.outer
  frf : ∀ b ∈ X.fs, X.H₀ b = none
structure Inv (X : Cx) (pins : List (Addr × Obj)) (σ : List (Option V)) (H : Hp) (s : Shared) : Prop where
  ok : X.Ok
  os : s.os = X.s₀.os
  bare : AllBare s.gens
  base : Un X.fs X.ex X.H₀ H X.s₀.heap s.heap
  loc : ∃ m, s.heap.Ns X.env.locals m ∧ ∀ (i : Nat) (x : Str) (v : V), X.N[i]? = some x → σ[i]? = some (some v) → Vis X.env.scope x → ∃ u, RelV v u ∧ Look X.env s.heap m x u
  cell : ∀ x c, X.env.cells.lookup x = some c → ∃ v, s.heap.IsCell c v
  free : H X.env.locals = none
  freeC : ∀ x c, X.env.cells.lookup x = some c → H c = none
  pin : ∀ p ∈ X.pn ++ pins, s.heap.get? p.1 = some p.2 ∧ H p.1 = none ∧ p.1 ≠ X.env.locals ∧ p.1 ∉ X.fs ∧ ∀ v, p.2.data ≠ .cell v
  hok : HOk X.prog X.w H s.heap
  len : σ.length = X.N.length
section
variable {X : Cx} {pins : List (Addr × Obj)} {σ : List (Option V)} {H H' : Hp} {s : Shared} {h' : Heap}
theorem Cx.Ok.nofr (ok : X.Ok) {b : Addr} {o : Obj} (e : X.base.get? b = some o) : b ∉ X.fs := fun hb => by
  have := (ok.funs.mem hb).1
  rw [e] at this; cases this
theorem Inv.bs (I : Inv X pins σ H s) : ∀ b o, X.base.get? b = some o → s.heap.get? b = some o ∧ H b = none := fun b o e =>
  ⟨I.base.keep b o (I.ok.bs b o e).1 (I.ok.bs b o e).2 (I.ok.nofr e) (I.ok.noex b o e), I.base.free b o (I.ok.bs b o e).1 (I.ok.bs b o e).2 (I.ok.noex b o e)⟩
theorem Inv.bk (I : Inv X pins σ H s) : ∀ b o, X.base.get? b = some o → s.heap.get? b = some o := fun b o e => (I.bs b o e).1
theorem Inv.mod (I : Inv X pins σ H s) : Mod X.K X.mg X.base := I.ok.mod
theorem Inv.kIn (I : Inv X pins σ H s) : X.K.In s.heap := I.ok.mod.kin.keeps I.bk
theorem Inv.nolimit (I : Inv X pins σ H s) : s.heap.NoLimit := I.ok.mod.nolimit.keeps I.bk
theorem Inv.fr (I : Inv X pins σ H s) : ∃ m, Fr X.base X.env.locals s.heap m :=
  let ⟨m, hn, _⟩ := I.loc
  ⟨m, hn, I.bk, Nat.le_trans I.ok.bsz I.ok.above⟩
theorem Inv.lt (I : Inv X pins σ H s) : X.env.locals < s.heap.objs.size := let ⟨_, hn, _⟩ := I.loc; hn.lt
theorem Inv.sz (I : Inv X pins σ H s) : X.s₀.heap.objs.size ≤ s.heap.objs.size := Nat.le_trans I.ok.above (Nat.le_of_lt I.lt)
theorem Inv.nofs (I : Inv X pins σ H s) {a : Addr} (h : s.heap.objs.size ≤ a) : a ∉ X.fs := fun hb => by
  obtain ⟨_, o, ho, _⟩ := I.ok.funs.mem hb
  exact absurd (Nat.lt_of_lt_of_le (Heap.lt_size ho) (Nat.le_trans I.sz h)) (Nat.lt_irrefl _)
theorem Inv.cne (I : Inv X pins σ H s) : ∀ x c, X.env.cells.lookup x = some c → c ≠ X.env.locals := fun x c e z => by
  obtain ⟨v, o, ho, hd⟩ := I.cell x c e
  obtain ⟨m, ⟨o', es, ep, ho', hd', _⟩, _⟩ := I.loc
  rw [z, ho'] at ho; cases ho; rw [hd'] at hd; cases hd
theorem Inv.funs (I : Inv X pins σ H s) : s.heap.FunFrames X.base X.outer := by
  have all : ∀ (l : List Env), (∀ b ∈ frs l, b ∈ X.fs) → X.s₀.heap.FunFrames X.base l → s.heap.FunFrames X.base l := by
    intro l
    induction l with
    | nil => intro _ _; trivial
    | cons env r ih =>
      intro hs hl
      obtain ⟨hk, ⟨L, o, hf, hn, ho, hd⟩, hr⟩ := hl
      have hL : L ∈ X.fs := hs L (by unfold frs; rw [List.filterMap_cons, hf]; exact List.mem_cons_self)
      obtain ⟨sl, e⟩ := I.base.slot L o ho (I.ok.frf L hL) hL fun z => I.ok.exfs L z hL
      exact ⟨hk, ⟨L, _, hf, hn, e, hd⟩, ih (fun b hb => hs b (by unfold frs; rw [List.filterMap_cons, hf]; exact List.mem_cons_of_mem _ hb)) hr⟩
  exact all X.outer (fun _ hb => hb) I.ok.funs
theorem Inv.stack (I : Inv X pins σ H s) : s.heap.FunFrames X.base X.stack := by
  rcases I.ok.stk with e | ⟨e, hf⟩
  · rw [e]; exact I.funs
  · rw [e]
    obtain ⟨m, hn, _⟩ := I.loc
    refine .cons (by rw [I.ok.kind]; decide) hf hn ?_ I.funs
    exact Heap.get?_none_of_le (Nat.le_trans I.ok.bsz I.ok.above)
theorem Inv.stkSub (I : Inv X pins σ H s) : ∀ b ∈ frs X.stack, b ∈ X.env.locals :: X.fs := fun b hb => by
  rcases I.ok.stk with e | ⟨e, hf⟩
  · rw [e] at hb; exact List.mem_cons_of_mem _ hb
  · rw [e] at hb
    unfold frs at hb
    rw [List.filterMap_cons, hf] at hb
    exact hb
theorem Inv.stkFree (I : Inv X pins σ H s) : ∀ b ∈ frs X.stack, H b = none := fun b hb => by
  rcases List.mem_cons.mp (I.stkSub b hb) with e | hb
  · rw [e]; exact I.free
  · obtain ⟨_, o, ho, _⟩ := I.ok.funs.mem hb
    exact I.base.free b o ho (I.ok.frf b hb) fun z => I.ok.exfs b z hb
theorem Inv.step {g' : Array GenState} {t' : Nat} {d' : Drawn} {ch : List Addr} (I : Inv X pins σ H s)
    (hch : ∀ b ∈ ch, (b ∈ X.ex ∨ X.s₀.heap.objs.size ≤ b) ∧ b ≠ X.env.locals ∧ (∀ x c, X.env.cells.lookup x = some c → c ≠ b) ∧ ∀ p ∈ X.pn ++ pins, p.1 ≠ b)
    (keep : ∀ b o, b ≠ X.env.locals → b ∉ X.fs → b ∉ ch → s.heap.get? b = some o → H b = none → h'.get? b = some o)
    (slot : ∀ b o, b ≠ X.env.locals → b ∈ X.fs → b ∉ ch → s.heap.get? b = some o → H b = none → ∃ sl, h'.get? b = some { o with slots := sl }) (free : ∀ b o, b ∉ ch → s.heap.get? b = some o → H b = none → H' b = none)
    (there : ∀ b o, b ∉ ch → s.heap.get? b = some o → ∃ o', h'.get? b = some o')
    (tups : ∀ b xs, H b = some (.tup xs) → H' b = some (.tup xs)) (frzs : ∀ b o u, H b = some (.frz o u) → H' b = some (.frz o u)) (tbls : ∀ b ps, H b = some (.tbl ps) → ∃ more, H' b = some (.tbl (ps ++ more)))
    (ns : ∀ m, s.heap.Ns X.env.locals m → h'.Ns X.env.locals m) (hok : HOk X.prog X.w H' h') (hg : AllBare g') :
    Inv X pins σ H' { s with heap := h', gens := g', drawn := d', toks := t' } := by
  have neL : ∀ b o, X.s₀.heap.get? b = some o → b ≠ X.env.locals := fun b o e => Nat.ne_of_lt (Nat.lt_of_lt_of_le (Heap.lt_size e) I.ok.above)
  have neC : ∀ b o, X.s₀.heap.get? b = some o → b ∉ X.ex → b ∉ ch := fun b o e hx hb => by
    rcases (hch b hb).1 with z | z
    · exact hx z
    · exact absurd (Nat.lt_of_lt_of_le (Heap.lt_size e) z) (Nat.lt_irrefl _)
  have cellK : ∀ x c, X.env.cells.lookup x = some c → ∀ v, s.heap.IsCell c v → h'.IsCell c v := fun x c e v ⟨o, ho, hd⟩ => by
    have nch : c ∉ ch := fun z => (hch c z).2.2.1 x c e rfl
    by_cases hc : c ∈ X.fs
    · obtain ⟨sl, q⟩ := slot c o (I.cne x c e) hc nch ho (I.freeC x c e)
      exact ⟨_, q, hd⟩
    · exact ⟨o, keep c o (I.cne x c e) hc nch ho (I.freeC x c e), hd⟩
  refine ⟨I.ok, I.os, hg, ⟨fun b o e n hb hx => ?_, fun b o e n hb hx => ?_, fun b o e n hx => ?_, fun b o e hx => ?_, fun b xs e => tups b xs (I.base.tups b xs e), fun b o xs e => frzs b o xs (I.base.frzs b o xs e), fun b ps e => ?_⟩, ?_, fun x c e => ?_, ?_, fun x c e => ?_, fun p hp => ?_, hok, I.len⟩
  · exact keep b o (neL b o e) hb (neC b o e hx) (I.base.keep b o e n hb hx) (I.base.free b o e n hx)
  · obtain ⟨sl, e1⟩ := I.base.slot b o e n hb hx
    obtain ⟨sl', e2⟩ := slot b _ (neL b o e) hb (neC b o e hx) e1 (I.base.free b o e n hx)
    exact ⟨sl', e2⟩
  · obtain ⟨o', e1⟩ := I.base.there b o e hx
    exact free b o' (neC b o e hx) e1 (I.base.free b o e n hx)
  · obtain ⟨o', e1⟩ := I.base.there b o e hx
    exact there b o' (neC b o e hx) e1
  · obtain ⟨m1, e1⟩ := I.base.tbls b ps e
    obtain ⟨m2, e2⟩ := tbls b _ e1
    exact ⟨m1 ++ m2, by rw [e2, Array.append_assoc]⟩
  · obtain ⟨m, hn, hl⟩ := I.loc
    refine ⟨m, ns m hn, fun i x v e1 e2 e3 => ?_⟩
    obtain ⟨u, r, l⟩ := hl i x v e1 e2 e3
    refine ⟨u, r, ?_⟩
    rcases l with l | ⟨k, c, e, z⟩
    · exact .inl l
    · exact .inr ⟨k, c, e, cellK x c e _ z⟩
  · obtain ⟨v, z⟩ := I.cell x c e
    exact ⟨v, cellK x c e v z⟩
  · obtain ⟨m, ⟨o, _, _, ho, _⟩, _⟩ := I.loc
    exact free _ o (fun z => (hch _ z).2.1 rfl) ho I.free
  · obtain ⟨v, o, ho, hd⟩ := I.cell x c e
    exact free c o (fun z => (hch c z).2.2.1 x c e rfl) ho (I.freeC x c e)
  · obtain ⟨e, n, ne, nf, d⟩ := I.pin p hp
    have nch : p.1 ∉ ch := fun z => (hch p.1 z).2.2.2 p hp rfl
    exact ⟨keep p.1 p.2 ne nf nch e n, free p.1 p.2 nch e n, ne, nf, d⟩
theorem Inv.un {t' : Nat} (I : Inv X pins σ H s) (u : Un X.fs [] H H' s.heap h') (hok : HOk X.prog X.w H' h') : Inv X pins σ H' { s with heap := h', toks := t' } := by
  obtain ⟨m, ⟨o, es, ep, ho, r⟩, _⟩ := id I.loc
  obtain ⟨sl, hL⟩ := u.any ho I.free (by simp)
  exact I.step (g' := s.gens) (d' := s.drawn) (ch := []) (fun _ z => nomatch z) (fun b o _ hb _ e n => u.keep b o e n hb (by simp)) (fun b o _ hb _ e n => u.slot b o e n hb (by simp)) (fun b o _ e n => u.free b o e n (by simp)) (fun b o _ e => u.there b o e (by simp)) u.tups u.frzs u.tbls (fun m' hm => by
    obtain ⟨o', es', ep', ho', r'⟩ := hm
    rw [ho] at ho'; cases ho'
    exact ⟨_, es', ep', hL, r'⟩) hok I.bare
theorem Inv.call {g' : Array GenState} {t' : Nat} {d' : Drawn} {ch : List Addr} (I : Inv X pins σ H s) (u : Un (frs X.stack) ch H H' s.heap h') (hok : HOk X.prog X.w H' h') (hg : AllBare g')
    (hch : ∀ b ∈ ch, (b ∈ X.ex ∨ X.s₀.heap.objs.size ≤ b) ∧ b ≠ X.env.locals ∧ (∀ x c, X.env.cells.lookup x = some c → c ≠ b) ∧ ∀ p ∈ X.pn ++ pins, p.1 ≠ b) :
    Inv X pins σ H' { s with heap := h', gens := g', drawn := d', toks := t' } := by
  obtain ⟨m, ⟨o, es, ep, ho, r⟩, _⟩ := id I.loc
  obtain ⟨sl, hL⟩ := u.any ho I.free fun z => (hch _ z).2.1 rfl
  exact I.step (ch := ch) hch (fun b o hL hb hc e n => u.keep b o e n (fun z => (List.mem_cons.mp (I.stkSub b z)).elim hL hb) hc) (fun b o _ _ hc e n => u.any e n hc) (fun b o hc e n => u.free b o e n hc) (fun b o hc e => u.there b o e hc) u.tups u.frzs u.tbls (fun m' hm => by
    obtain ⟨o', es', ep', ho', r'⟩ := hm
    rw [ho] at ho'; cases ho'
    exact ⟨_, es', ep', hL, r'⟩) hok hg
theorem Inv.turned {t' : Nat} {it : Addr} (I : Inv X pins σ H s) (k : ∀ b o, b ≠ it → s.heap.get? b = some o → h'.get? b = some o) (hn : H it = none) (hL : it ≠ X.env.locals)
    (h1 : it ∈ X.ex ∨ X.s₀.heap.objs.size ≤ it) (h2 : ∀ x c, X.env.cells.lookup x = some c → c ≠ it) (h3 : ∀ p ∈ X.pn ++ pins, p.1 ≠ it) : Inv X pins σ H { s with heap := h', toks := t' } := by
  have nit : ∀ b u, H b = some u → b ≠ it := fun b u e z => by rw [z, hn] at e; cases e
  refine I.step (g' := s.gens) (d' := s.drawn) (ch := [it]) (fun b hb => ?_) (fun b o _ _ hc e _ => k b o (fun z => hc (by simp [z])) e) (fun b o _ _ hc e _ => ⟨o.slots, k b o (fun z => hc (by simp [z])) e⟩) (fun _ _ _ _ n => n)
    (fun b o hc e => ⟨o, k b o (fun z => hc (by simp [z])) e⟩) (fun _ _ e => e) (fun _ _ _ e => e) (fun b ps e => ⟨#[], by rw [e]; simp⟩) (fun m hm => ?_) (fun b u e => ?_) I.bare
  · have e : b = it := by simpa using hb
    subst e
    exact ⟨h1, hL, h2, h3⟩
  · obtain ⟨o, es, ep, ho, r⟩ := hm
    exact ⟨o, es, ep, k _ o (Ne.symm hL) ho, r⟩
  · refine (I.hok b u e).stay (fun c v hc q => k c v ?_ q) (fun _ q => q) fun _ _ q => q
    rcases hc with z | z
    · rw [z]; exact nit b u e
    · exact nit c _ z
theorem Inv.tok (I : Inv X pins σ H s) (t : Nat) : Inv X pins σ H { s with toks := t } := I.un (h' := s.heap) (t' := t) Un.refl I.hok
theorem Inv.kept {t' : Nat} (I : Inv X pins σ H s) (k : ∀ b u, s.heap.get? b = some u → h'.get? b = some u) : Inv X pins σ H { s with heap := h', toks := t' } := I.un (Un.kept k) (I.hok.kept k)
theorem Inv.laid {a : Addr} {o : HO} {t' : Nat} (I : Inv X pins σ H s) (k : ∀ b u, s.heap.get? b = some u → h'.get? b = some u) (hp : s.heap.objs.size ≤ a) (new : ObjOk X.prog X.w (upd H a o) h' a o) :
    Inv X pins σ (upd H a o) { s with heap := h', toks := t' } := I.un (Un.laid k hp (I.hok.fresh hp)) (I.hok.laid k hp new)
theorem Inv.write {x e : Addr} {o : HO} {t' : Nat} (I : Inv X pins σ H s) (mu : Mut (H x)) (he : e = x ∨ H e = some (.own x)) (k : ∀ b u, b ≠ e → s.heap.get? b = some u → h'.get? b = some u) (heo : ∃ u, h'.get? e = some u)
    (new : ObjOk X.prog X.w (upd H x o) h' x o) : Inv X pins σ (upd H x o) { s with heap := h', toks := t' } := I.un (Un.write mu he k heo) (I.hok.write mu he k heo new)
theorem Inv.pins_of {pins' : List (Addr × Obj)} (I : Inv X pins σ H s) (h : ∀ p ∈ pins', s.heap.get? p.1 = some p.2 ∧ H p.1 = none ∧ p.1 ≠ X.env.locals ∧ p.1 ∉ X.fs ∧ ∀ v, p.2.data ≠ .cell v) : Inv X pins' σ H s :=
  ⟨I.ok, I.os, I.bare, I.base, I.loc, I.cell, I.free, I.freeC, fun p hp => (List.mem_append.mp hp).elim (fun z => I.pin p (List.mem_append_left _ z)) (h p), I.hok, I.len⟩
theorem nodup_ix {N : List Str} (hN : N.Nodup) {i j : Nat} {x : Str} (a : N[i]? = some x) (b : N[j]? = some x) : i = j := by
  obtain ⟨h1, e1⟩ := List.getElem?_eq_some_iff.mp a
  obtain ⟨h2, e2⟩ := List.getElem?_eq_some_iff.mp b
  exact (List.getElem_inj hN).mp (e1.trans e2.symm)
theorem store_ok2 {M : Model} {A : Around} {E : Value → Shared → Prop} {i : Nat} {x : Str} {v : V} {u : Value} {Q : Unit → Shared → Prop} (I : Inv X pins σ H s) (hN : X.N.Nodup) (hi : X.N[i]? = some x) (hx : Loc X.env.scope x) (r : RelV v u)
    (h : ∀ s', Inv X pins (σ.set i (some v)) H s' → (∃ a, Heap.SameBut a s.heap s'.heap ∧ (a = X.env.locals ∨ X.env.cells.lookup x = some a)) → Q () s') (hf : X.fn x = true ∨ X.env.scope.names.lookup x = some .local := by first | exact .inl rfl | exact .inr rfl | assumption) : wpAny M A (storeName X.env x u) Q E s := by
  obtain ⟨m, hn, hl⟩ := id I.loc
  have hcls : (X.env.scope.kind == .class || (X.env.scope.kind == .module && X.env.locals != X.env.globals)) = false := by rw [I.ok.kind]; rfl
  have hiσ : i < σ.length := by rw [I.len]; exact (List.getElem?_eq_some_iff.mp hi).1
  have cne := I.cne
  have tracked : ∀ {a : Addr} {h' : Heap}, (∃ o, s.heap.get? a = some o ∧ H a = none) → Heap.SameBut a s.heap h' → HOk X.prog X.w H h' := fun {a h'} ha hs b ob e => by
    obtain ⟨_, _, hfree⟩ := ha
    refine (I.hok b ob e).stay (fun c w' hc q => (hs.2 c ?_).trans q) (fun _ q => q) fun _ _ q => q
    rintro rfl
    rcases hc with rfl | hc
    · rw [hfree] at e; cases e
    · rw [hfree] at hc; cases hc
  rcases hx with hk | hk
  · refine wpAny_storeName_local hk hn (fun h' hn' hs => ?_) hcls
    obtain ⟨oL, _, _, hoL, _⟩ := id hn
    refine h _ ⟨I.ok, I.os, I.bare, ⟨fun b o e n hb hx => ?_, fun b o e n hb hx => ?_, I.base.free, fun b o e hx => ?_, I.base.tups, I.base.frzs, I.base.tbls⟩, ⟨_, hn', fun j y v' e1 e2 e3 => ?_⟩, fun y c e => ?_, I.free, I.freeC, fun p hp => ?_, tracked ⟨oL, hoL, I.free⟩ hs, by simpa using I.len⟩ ⟨_, hs, .inl rfl⟩
    · exact (hs.2 b (Nat.ne_of_lt (Nat.lt_of_lt_of_le (Heap.lt_size e) I.ok.above))).trans (I.base.keep b o e n hb hx)
    · obtain ⟨sl, e1⟩ := I.base.slot b o e n hb hx
      exact ⟨sl, (hs.2 b (Nat.ne_of_lt (Nat.lt_of_lt_of_le (Heap.lt_size e) I.ok.above))).trans e1⟩
    · obtain ⟨o', e1⟩ := I.base.there b o e hx
      exact ⟨o', (hs.2 b (Nat.ne_of_lt (Nat.lt_of_lt_of_le (Heap.lt_size e) I.ok.above))).trans e1⟩
    · by_cases hj : j = i
      · subst hj
        rw [hi] at e1; cases e1
        rw [List.getElem?_set_self hiσ] at e2
        cases e2
        exact ⟨u, r, .inl ⟨hk, by simp⟩⟩
      · rw [List.getElem?_set_ne (Ne.symm hj)] at e2
        obtain ⟨u', r', q⟩ := hl j y v' e1 e2 e3
        refine ⟨u', r', ?_⟩
        rcases q with ⟨k, e⟩ | ⟨k, c, e, z⟩
        · refine .inl ⟨k, ?_⟩
          have : y ≠ x := fun e => hj (nodup_ix hN e1 (e ▸ hi))
          simp [this, e]
        · exact .inr ⟨k, c, e, z.sameBut hs (cne y c e)⟩
    · obtain ⟨w', z⟩ := I.cell y c e
      exact ⟨w', z.sameBut hs (cne y c e)⟩
    · obtain ⟨e, n, ne, nf, d⟩ := I.pin p hp
      exact ⟨(hs.2 p.1 ne).trans e, n, ne, nf, d⟩
  · have hfn : X.fn x = true := by
      rcases hf with z | z
      · exact z
      · rw [z] at hk; cases hk
    obtain ⟨c, hc⟩ := I.ok.has x (.inl hk)
    obtain ⟨w', z⟩ := I.cell x c hc
    refine wpAny_storeName_cell I.ok.kind hk hc z (fun h' hc' hs => ?_)
    obtain ⟨oc, hoc, hocd⟩ := id z
    refine h { s with heap := h' } ⟨I.ok, I.os, I.bare, ⟨fun b o e n hb hx => ?_, fun b o e n hb hx => ?_, I.base.free, fun b o e hx => ?_, I.base.tups, I.base.frzs, I.base.tbls⟩, ⟨m, hn.sameBut hs (Ne.symm (cne x c hc)), fun j y v' e1 e2 e3 => ?_⟩, fun y c' e => ?_, I.free, I.freeC, fun p hp => ?_, tracked ⟨oc, hoc, I.freeC x c hc⟩ hs, by simpa using I.len⟩ ⟨c, hs, .inr hc⟩
    · exact (hs.2 b (Nat.ne_of_lt (Nat.lt_of_lt_of_le (Heap.lt_size e) (I.ok.cab x c hfn hc)))).trans (I.base.keep b o e n hb hx)
    · obtain ⟨sl, e1⟩ := I.base.slot b o e n hb hx
      exact ⟨sl, (hs.2 b (Nat.ne_of_lt (Nat.lt_of_lt_of_le (Heap.lt_size e) (I.ok.cab x c hfn hc)))).trans e1⟩
    · obtain ⟨o', e1⟩ := I.base.there b o e hx
      exact ⟨o', (hs.2 b (Nat.ne_of_lt (Nat.lt_of_lt_of_le (Heap.lt_size e) (I.ok.cab x c hfn hc)))).trans e1⟩
    · by_cases hj : j = i
      · subst hj
        rw [hi] at e1; cases e1
        rw [List.getElem?_set_self hiσ] at e2
        cases e2
        exact ⟨u, r, .inr ⟨.inl hk, c, hc, hc'⟩⟩
      · rw [List.getElem?_set_ne (Ne.symm hj)] at e2
        obtain ⟨u', r', q⟩ := hl j y v' e1 e2 e3
        refine ⟨u', r', ?_⟩
        rcases q with q | ⟨k, c', e, z'⟩
        · exact .inl q
        · refine .inr ⟨k, c', e, z'.sameBut hs ?_⟩
          rintro rfl
          exact hj (nodup_ix hN e1 (I.ok.inj _ _ _ e hc ▸ hi))
    · by_cases hcc : c' = c
      · subst hcc; exact ⟨_, hc'⟩
      · obtain ⟨w2, z2⟩ := I.cell y c' e
        exact ⟨w2, z2.sameBut hs hcc⟩
    · obtain ⟨e, n, ne, nf, d⟩ := I.pin p hp
      refine ⟨(hs.2 p.1 ?_).trans e, n, ne, nf, d⟩
      intro q
      rw [q, hoc] at e
      have q' : oc = p.2 := Option.some.inj e
      exact d w' (by rw [← q']; exact hocd)
theorem store_ok {M : Model} {A : Around} {E : Value → Shared → Prop} {i : Nat} {x : Str} {v : V} {u : Value} {Q : Unit → Shared → Prop} (I : Inv X pins σ H s) (hN : X.N.Nodup) (hi : X.N[i]? = some x) (hx : Loc X.env.scope x) (r : RelV v u)
    (h : ∀ s', Inv X pins (σ.set i (some v)) H s' → Q () s') (hf : X.fn x = true ∨ X.env.scope.names.lookup x = some .local := by first | exact .inl rfl | exact .inr rfl | assumption) : wpAny M A (storeName X.env x u) Q E s :=
  store_ok2 I hN hi hx r (fun s' I' _ => h s' I') hf
theorem Inv.call' {s' : Shared} {ch : List Addr} (I : Inv X pins σ H s) (ho : s'.os = s.os) (u : Un (frs X.stack) ch H H' s.heap s'.heap) (hok : HOk X.prog X.w H' s'.heap) (hg : AllBare s'.gens)
    (hch : ∀ b ∈ ch, (b ∈ X.ex ∨ X.s₀.heap.objs.size ≤ b) ∧ b ≠ X.env.locals ∧ (∀ x c, X.env.cells.lookup x = some c → c ≠ b) ∧ ∀ p ∈ X.pn ++ pins, p.1 ≠ b) : Inv X pins σ H' s' := by
  obtain ⟨h', g', d', t', o'⟩ := s'
  have e : o' = s.os := ho
  subst e
  exact I.call (g' := g') (t' := t') (d' := d') u hok hg hch
end
abbrev XK := Value → Option Addr → Hp → Prop
abbrev St := List (Option V)
abbrev VK := V → Hp → Prop
abbrev TE := St → Hp → VK → Prop
abbrev TT := St → Hp → (Bool → Hp → Prop) → Prop
abbrev TA := St → Hp → (List V → Hp → Prop) → Prop
structure Ends where
  nx : St → Hp → Prop
  rt : VK
  bk : St → Hp → Prop := fun _ _ => False
  ct : St → Hp → Prop := fun _ _ => False
abbrev TS := Ends → St → Hp → Prop
def EP (X : Cx) (pins : List (Addr × Obj)) (σ : St) (Q : VK) (u : Value) (s' : Shared) : Prop := ∃ v H', Inv X pins σ H' s' ∧ RelV v u ∧ Q v H'
def TP (X : Cx) (pins : List (Addr × Obj)) (σ : St) (Q : Bool → Hp → Prop) (b : Bool) (s' : Shared) : Prop := ∃ H', Inv X pins σ H' s' ∧ Q b H'
def AP (X : Cx) (pins : List (Addr × Obj)) (σ : St) (Q : List V → Hp → Prop) (us : List Value) (s' : Shared) : Prop := ∃ vs H', Inv X pins σ H' s' ∧ Vals vs us ∧ Q vs H'
def SP (X : Cx) (pins : List (Addr × Obj)) (D : Ends) (f : Flow) (s' : Shared) : Prop :=
  match f with
  | .next => ∃ σ' H', Inv X pins σ' H' s' ∧ D.nx σ' H'
  | .brk => ∃ σ' H', Inv X pins σ' H' s' ∧ D.bk σ' H'
  | .cont => ∃ σ' H', Inv X pins σ' H' s' ∧ D.ct σ' H'
  | .ret u => ∃ v σ' H', Inv X pins σ' H' s' ∧ RelV v u ∧ D.rt v H'
def PE (X : Cx) (e : Expr) (t : TE) : Prop :=
  ∀ (pins : List (Addr × Obj)) (s : Shared) (σ : St) (H : Hp) (Q : VK), Inv X pins σ H s → t σ H Q → wpAny (model X.prog X.w) X.A (eval e X.env) (EP X pins σ Q) X.xe s
def PT (X : Cx) (e : Expr) (t : TT) : Prop :=
  ∀ (pins : List (Addr × Obj)) (s : Shared) (σ : St) (H : Hp) (Q : Bool → Hp → Prop), Inv X pins σ H s → t σ H Q → wpAny (model X.prog X.w) X.A (isTrue e X.env (eval e X.env)) (TP X pins σ Q) X.xe s
def PW (X : Cx) (e : Expr) (t : TT) : Prop :=
  ∀ (whole : Sem Value) (pins : List (Addr × Obj)) (s : Shared) (σ : St) (H : Hp) (Q : Bool → Hp → Prop), Inv X pins σ H s → t σ H Q → wpAny (model X.prog X.w) X.A (isTrue e X.env whole) (TP X pins σ Q) X.xe s
theorem PW.pt {X : Cx} {e : Expr} {t : TT} (h : PW X e t) : PT X e t := h _
def PA (X : Cx) (es : List Expr) (t : TA) : Prop :=
  ∀ (pos : Pos) (pins : List (Addr × Obj)) (s : Shared) (σ : St) (H : Hp) (Q : List V → Hp → Prop), Inv X pins σ H s → t σ H Q → wpAny (model X.prog X.w) X.A (spliced (backTo pos (starEach es X.env))) (AP X pins σ Q) X.xe s
def PS (X : Cx) (st : Stmt) (t : TS) : Prop :=
  ∀ (pins : List (Addr × Obj)) (s : Shared) (σ : St) (H : Hp) (D : Ends), Inv X pins σ H s → t D σ H → wpAny (model X.prog X.w) X.A (exec st X.env) (SP X pins D) X.xe s
def PSs (X : Cx) (st : List Stmt) (t : TS) : Prop :=
  ∀ (pins : List (Addr × Obj)) (s : Shared) (σ : St) (H : Hp) (D : Ends), Inv X pins σ H s → t D σ H → wpAny (model X.prog X.w) X.A (execs st X.env) (SP X pins D) X.xe s
theorem thn {α : Type} {t : Sem α} {Q Q' : α → Shared → Prop} {M : Model} {A : Around} {E : Value → Shared → Prop} {s : Shared} (h : wpAny M A t Q E s) (hQ : ∀ a s, Q a s → Q' a s) : wpAny M A t Q' E s := wpAny_mono h hQ fun _ _ x => x
end L2
namespace L2
open PySem PySem.Spec PyProof.Rows
section
variable {X : Cx}
def tVar (i : Nat) : TE := fun σ H Q => ∃ v, σ[i]? = some (some v) ∧ Q v H
def tC (v : V) : TE := fun _ H Q => Q v H
theorem pe_var {i : Nat} {x : Str} {pos : Pos} (hN : X.N[i]? = some x) (hv : Vis X.env.scope x) (hd : (x == ("__debug__" : Str)) = false := by decide) (hcd : (x == ("__classdict__" : Str)) = false := by decide) : PE X (.Name x pos) (tVar i) := by
  intro pins s σ H Q I h
  obtain ⟨v, e, h⟩ := h
  obtain ⟨m, hn, hl⟩ := I.loc
  obtain ⟨u, r, l⟩ := hl i x v hN e hv
  have fin : EP X pins σ Q u s := ⟨v, H, I, r, h⟩
  rcases l with ⟨hk, hm⟩ | ⟨hk, c, hc, hcell⟩
  · exact wpAny_Name (wpAny_loadName_local I.ok.kind hk hn hm fin) hd
  · rcases hk with hk | hk
    · exact wpAny_Name (wpAny_loadName_cell I.ok.kind hk hc hcell fin) hd
    · exact wpAny_Name (wpAny_loadName_free I.ok.kind hk hc hcell fin hcd) hd
theorem pe_int {i j pos} : PE X (.Constant (.int i) j pos) (tC (.int i)) := fun _ _ _ H _ I h => wpAny_Constant_int ⟨.int i, H, I.tok _, ⟨_, rfl⟩, h⟩
theorem pe_bl {b j pos} : PE X (.Constant (.bool b) j pos) (tC (.bl b)) := fun _ _ _ H _ I h => Constant_bool ⟨.bl b, H, I, rfl, h⟩
theorem pe_non {j pos} : PE X (.Constant .none j pos) (tC .non) := fun _ _ _ H _ I h => Constant_none ⟨.non, H, I, rfl, h⟩
def Gl (X : Cx) (x : Str) : Prop := X.env.kindOf x = some .globalImplicit
theorem ld_glob {E : Value → Shared → Prop} {pins : List (Addr × Obj)} {s : Shared} {σ : St} {H : Hp} {x : Str} {u : Value} {pos : Pos} {Q : Value → Shared → Prop} (I : Inv X pins σ H s) (hg : Gl X x) (hm : X.mg x = some u) (h : Q u s)
    (hd : (x == ("__debug__" : Str)) = false := by decide) : wpAny (model X.prog X.w) X.A (eval (.Name x pos) X.env) Q E s :=
  Calls.Name_function_global I.ok.kind hg (Calls.loadGlobal_global (by rw [I.ok.glob]; exact I.mod.glob.keeps I.bk) hm h) hd
theorem ld_blt {E : Value → Shared → Prop} {pins : List (Addr × Obj)} {s : Shared} {σ : St} {H : Hp} {x : Str} {u : Value} {pos : Pos} {Q : Value → Shared → Prop} (I : Inv X pins σ H s) (hg : Gl X x) (hm : X.mg x = none) (hv : bootBuiltins x = some u) (h : Q u s)
    (hn : x ≠ "__name__" := by decide) (hd : (x == ("__debug__" : Str)) = false := by decide) : wpAny (model X.prog X.w) X.A (eval (.Name x pos) X.env) Q E s := by
  obtain ⟨mb, h1, h2⟩ := I.mod.blt
  exact Calls.Name_function_global I.ok.kind hg (Calls.loadGlobal_builtin (by rw [I.ok.glob]; exact I.mod.glob.keeps I.bk) hm (by rw [I.ok.blt]; exact h1.keeps I.bk) ((h2 x hn).trans hv) h) hd
theorem pe_bltn {x : Str} {v : V} {u : Value} {pos : Pos} (hg : Gl X x) (hm : X.mg x = none) (hv : bootBuiltins x = some u) (r : RelV v u) (hn : x ≠ "__name__" := by decide) (hd : (x == ("__debug__" : Str)) = false := by decide) : PE X (.Name x pos) (tC v) :=
  fun _ _ _ H _ I h => ld_blt I hg hm hv ⟨v, H, I, r, h⟩ hn hd
variable {a b : Expr} {ta tb : TE} {pos : Pos}
def PC (X : Cx) (op : CmpOp) (a b : Expr) (t : TE) : Prop :=
  ∀ (pins : List (Addr × Obj)) (s : Shared) (σ : St) (H : Hp) (Q : VK), Inv X pins σ H s → t σ H Q →
    wpAny (model X.prog X.w) X.A (eval a X.env) (fun v s₁ => wpAny (model X.prog X.w) X.A (eval b X.env) (fun u s₂ => wpAny (model X.prog X.w) X.A (compareOp op v u) (EP X pins σ Q) X.xe s₂) X.xe s₁) X.xe s
theorem nobehind (b : Expr) {op : CmpOp} (h : op ≠ .In) (h2 : op ≠ .NotIn) : behindInMarks op b = false := by
  have e1 : (op == CmpOp.In) = false := by cases op <;> first | rfl | exact absurd rfl h
  have e2 : (op == CmpOp.NotIn) = false := by cases op <;> first | rfl | exact absurd rfl h2
  cases b <;> simp [behindInMarks, e1, e2]
def tB (t : TE) : TT := fun σ H Q => t σ H fun x H1 => ∃ c, x = .bl c ∧ Q c H1
theorem pt_cmp {op : CmpOp} {t : TE} (h : PC X op a b t) (h1 : behindInMarks op b = false := by first | exact nobehind _ (by decide) (by decide) | rfl) : PT X (.Compare a [op] [b] pos) (tB t) := by
  intro pins s σ H Q I hw
  refine wpAny_isTrue_Compare1 (thn (h pins s σ H _ I hw) fun v s1 h1 => thn h1 fun u s2 h2 => thn h2 fun c s3 ⟨x, H1, I1, r1, q1⟩ => ?_) h1
  obtain ⟨d, rfl, q⟩ := q1
  cases r1
  exact wpAny_truthy_bool ⟨H1, I1, q⟩
theorem pt_val {e : Expr} {t : TE} (h : PE X e t) (he : ∀ whole, isTrue e X.env whole = (do let v ← whole; standAt e.pos; holding [v] (truthy v)) := by intro _; rfl) : PT X e (tB t) := by
  intro pins s σ H Q I hw
  refine isTrue_plain (thn (h pins s σ H _ I hw) fun v s1 ⟨x, H1, I1, r1, q1⟩ => ?_) (he _)
  obtain ⟨d, rfl, q⟩ := q1
  cases r1
  exact wpAny_truthy_bool ⟨H1, I1, q⟩
variable {tA tB' : TT} {rest : List Expr}
def tAnd (t u : TT) : TT := fun σ H Q => t σ H fun c H1 => if c = true then u σ H1 Q else Q false H1
def tOr (t u : TT) : TT := fun σ H Q => t σ H fun c H1 => if c = true then Q true H1 else u σ H1 Q
def tNot (t : TT) : TT := fun σ H Q => t σ H fun c H1 => Q (!c) H1
theorem pw_and1 (ha : PT X a tA) : PW X (.BoolOp .And [a] pos) tA := by
  intro wh pins s σ H Q I h
  refine isTrue_and (thn (ha pins s σ H Q I h) fun c s1 e => ?_)
  cases c with
  | true => exact isTrue_and_nil e
  | false => exact e
theorem pw_or1 (ha : PT X a tA) : PW X (.BoolOp .Or [a] pos) tA := by
  intro wh pins s σ H Q I h
  refine isTrue_or (thn (ha pins s σ H Q I h) fun c s1 e => ?_)
  cases c with
  | false => exact isTrue_or_nil e
  | true => exact e
theorem pw_and (ha : PT X a tA) (hb : PW X (.BoolOp .And (b :: rest) pos) tB') : PW X (.BoolOp .And (a :: b :: rest) pos) (tAnd tA tB') := by
  intro wh pins s σ H Q I h
  refine isTrue_and (thn (ha pins s σ H _ I h) fun c s1 ⟨H1, I1, q1⟩ => ?_)
  cases c with
  | true => exact hb wh pins s1 σ H1 Q I1 q1
  | false => exact ⟨H1, I1, q1⟩
theorem pw_or (ha : PT X a tA) (hb : PW X (.BoolOp .Or (b :: rest) pos) tB') : PW X (.BoolOp .Or (a :: b :: rest) pos) (tOr tA tB') := by
  intro wh pins s σ H Q I h
  refine isTrue_or (thn (ha pins s σ H _ I h) fun c s1 ⟨H1, I1, q1⟩ => ?_)
  cases c with
  | true => exact ⟨H1, I1, q1⟩
  | false => exact hb wh pins s1 σ H1 Q I1 q1
theorem pt_not (ha : PT X a tA) : PT X (.UnaryOp .Not a pos) (tNot tA) := by
  intro pins s σ H Q I h
  exact isTrue_not (ha pins s σ H (fun c H1 => Q (!c) H1) I h)
def tAndV (ta tb : TE) : TE := fun σ H Q => ta σ H fun x H1 => ∃ c, x = .bl c ∧ if c = true then tb σ H1 Q else Q (.bl false) H1
theorem pe_one {op} {t : TE} (h : PE X a t) : PE X (.BoolOp op [a] pos) t := fun pins s σ H Q I hw => BoolOp_one (h pins s σ H Q I hw)
theorem pe_and (ha : PE X a ta) (hb : PE X (.BoolOp .And (b :: rest) pos) tb) : PE X (.BoolOp .And (a :: b :: rest) pos) (tAndV ta tb) := by
  intro pins s σ H Q I h
  refine BoolOp_and (thn (ha pins s σ H _ I h) fun v s1 ⟨x, H1, I1, r1, q1⟩ => ?_)
  obtain ⟨c, rfl, q1⟩ := q1
  cases r1
  refine wpAny_truthy_bool ?_
  cases c with
  | true => exact hb pins s1 σ H1 Q I1 q1
  | false => exact ⟨.bl false, H1, I1, rfl, q1⟩
end
end L2
namespace L2
open PySem PySem.Spec PyProof.Rows
def SqL (K : PySem.W.Frag) (H : Hp) (a : Addr) (xs : List V) : Prop :=
  Rd H a (.lst xs) ∨
    ∃ (o : Obj) (its : Array Value) (n : Nat), K.lookup a = some o ∧ o.cls = .type "list" ∧ o.dict = none ∧ o.data = .seq its n ∧ its.size ≤ sizeLine ∧ Vals xs its.toList
def SqT (K : PySem.W.Frag) (H : Hp) (a : Addr) (xs : List V) : Prop :=
  Rd H a (.tup xs) ∨
    ∃ (o : Obj) (its : Array Value) (n : Nat), K.lookup a = some o ∧ o.cls = .type "tuple" ∧ o.data = .seq its n ∧ its.size ≤ sizeLine ∧ Vals xs its.toList
def absV : Value → Option V
  | .none => some .non
  | .bool b => some (.bl b)
  | .int i _ => some (.int i)
  | .str x _ => some (.str x)
  | .bytes b _ => some (.byt b)
  | .float b _ => some (.flt b)
  | .ref a => some (.ref a)
  | .type n => some (.ty n)
  | _ => none
theorem RelV.abs {x : V} {u : Value} (r : RelV x u) : absV u = some x := by
  cases x with
  | non => cases r; rfl
  | bl _ => cases r; rfl
  | int _ => obtain ⟨t, rfl⟩ := r; rfl
  | str _ => obtain ⟨t, rfl⟩ := r; rfl
  | byt _ => obtain ⟨t, rfl⟩ := r; rfl
  | flt _ => obtain ⟨t, rfl⟩ := r; rfl
  | ref _ => cases r; rfl
  | ty _ => cases r; rfl
theorem RelV.inj {x y : V} {u : Value} (r : RelV x u) (q : RelV y u) : x = y := Option.some.inj (r.abs.symm.trans q.abs)
theorem Vals.inj : ∀ {xs ys : List V} {us : List Value}, Vals xs us → Vals ys us → xs = ys
  | _, _, _, .nil, .nil => rfl
  | _, _, _, .cons r t, .cons r' t' => by rw [r.inj r', Vals.inj t t']
section
variable {X : Cx} {pins : List (Addr × Obj)} {σ : St} {H : Hp} {s : Shared} {a : Addr} {xs ys : List V}
theorem SqL.of {K : PySem.W.Frag} (h : H a = some (.lst xs)) : SqL K H a xs := .inl (.inl h)
theorem SqT.of {K : PySem.W.Frag} (h : H a = some (.tup xs)) : SqT K H a xs := .inl (.inl h)
theorem Inv.list (I : Inv X pins σ H s) (h : SqL X.K H a xs) : ∃ its : List Value, Vals xs its ∧ PlainL s.heap a its.toArray ∧ xs.length ≤ sizeLine := by
  rcases h with h | ⟨o, its, n, hk, hc, hd, hs, hz, r⟩
  · obtain ⟨z, its, n, r, e⟩ := h.ok I.hok
    exact ⟨its, r, ⟨_, n, e, rfl, rfl, rfl⟩, z⟩
  · refine ⟨its.toList, r, ⟨o, n, I.kIn a o hk, hc, hd, by simpa using hs⟩, ?_⟩
    have e := r.length
    simp only [Array.length_toList] at e
    omega
theorem Inv.tuple (I : Inv X pins σ H s) (h : SqT X.K H a xs) : ∃ its : List Value, Vals xs its ∧ IsTup s.heap a its.toArray ∧ xs.length ≤ sizeLine := by
  rcases h with h | ⟨o, its, n, hk, hc, hs, hz, r⟩
  · obtain ⟨z, its, r, p⟩ := h.ok I.hok
    exact ⟨its, r, p, z⟩
  · refine ⟨its.toList, r, ⟨o, I.kIn a o hk, hc, n, by simpa using hs⟩, ?_⟩
    have e := r.length
    simp only [Array.length_toList] at e
    omega
theorem Inv.list_inj (I : Inv X pins σ H s) (h : SqL X.K H a xs) (h' : SqL X.K H a ys) : xs = ys := by
  obtain ⟨its, r, ⟨o, n, e, _, _, d⟩, _⟩ := I.list h
  obtain ⟨its', r', ⟨o', n', e', _, _, d'⟩, _⟩ := I.list h'
  rw [e] at e'; cases e'
  rw [d] at d'
  injection d' with d1 _
  have : its = its' := by simpa using congrArg Array.toList d1
  subst this
  exact r.inj r'
end
abbrev Cx.wish (X : Cx) (E : Value → Shared → Prop) : Cx := { X with xe := E }
abbrev Cx.nox (X : Cx) : Cx := X.wish fun _ _ => False
theorem Cx.Ok.wish {X : Cx} (ok : X.Ok) (E : Value → Shared → Prop) : (X.wish E).Ok :=
  ⟨ok.mod, ok.kind, ok.glob, ok.blt, ok.above, ok.inj, ok.has, ok.cab, ok.hd, ok.frames, ok.stk, ok.exf, ok.bs, ok.bsz, ok.noex, ok.exfs, ok.funs, ok.frf⟩
theorem Cx.Ok.unwish {X : Cx} {E : Value → Shared → Prop} (ok : (X.wish E).Ok) : X.Ok :=
  ⟨ok.mod, ok.kind, ok.glob, ok.blt, ok.above, ok.inj, ok.has, ok.cab, ok.hd, ok.frames, ok.stk, ok.exf, ok.bs, ok.bsz, ok.noex, ok.exfs, ok.funs, ok.frf⟩
section
variable {X : Cx} {pins : List (Addr × Obj)} {σ : St} {H : Hp} {s : Shared} {E : Value → Shared → Prop}
theorem Inv.wish (I : Inv X pins σ H s) (E : Value → Shared → Prop) : Inv (X.wish E) pins σ H s := ⟨I.ok.wish E, I.os, I.bare, I.base, I.loc, I.cell, I.free, I.freeC, I.pin, I.hok, I.len⟩
theorem Inv.unwish (I : Inv (X.wish E) pins σ H s) : Inv X pins σ H s := ⟨I.ok.unwish, I.os, I.bare, I.base, I.loc, I.cell, I.free, I.freeC, I.pin, I.hok, I.len⟩
theorem SP.unwish {D : Ends} {f : Flow} {s' : Shared} (h : SP (X.wish E) pins D f s') : SP X pins D f s' := by
  cases f with
  | next => obtain ⟨σ', H', I, q⟩ := h; exact ⟨σ', H', I.unwish, q⟩
  | brk => obtain ⟨σ', H', I, q⟩ := h; exact ⟨σ', H', I.unwish, q⟩
  | cont => obtain ⟨σ', H', I, q⟩ := h; exact ⟨σ', H', I.unwish, q⟩
  | ret u => obtain ⟨v, σ', H', I, r, q⟩ := h; exact ⟨v, σ', H', I.unwish, r, q⟩
theorem PE.nox {e : Expr} {t : TE} (h : PE X.nox e t) : PE X e t := fun pins s σ H Q I hw =>
  wpAny_mono (h pins s σ H Q (I.wish _) hw) (fun _ _ ⟨v, H', I', r, q⟩ => ⟨v, H', I'.unwish, r, q⟩) fun _ _ z => False.elim z
theorem PT.nox {e : Expr} {t : TT} (h : PT X.nox e t) : PT X e t := fun pins s σ H Q I hw =>
  wpAny_mono (h pins s σ H Q (I.wish _) hw) (fun _ _ ⟨H', I', q⟩ => ⟨H', I'.unwish, q⟩) fun _ _ z => False.elim z
theorem PSs.nox {st : List Stmt} {t : TS} (h : PSs X.nox st t) : PSs X st t := fun pins s σ H D I hw =>
  wpAny_mono (h pins s σ H D (I.wish _) hw) (fun _ _ q => q.unwish) fun _ _ z => False.elim z
end
section
variable {X : Cx} {st : Stmt} {rest : List Stmt} {t u : TS} {e : Expr} {te : TE} {pos : Pos}
def tNext : TS := fun D σ H => D.nx σ H
def tSeq (t u : TS) : TS := fun D σ H => t { D with nx := u D } σ H
theorem pss_nil : PSs X [] tNext := fun _ _ σ H _ I h => wpAny_execs_nil ⟨σ, H, I, h⟩
theorem pss_cons (h1 : PS X st t) (h2 : PSs X rest u) : PSs X (st :: rest) (tSeq t u) := by
  intro pins s σ H D I h
  refine wpAny_execs_cons (thn (h1 pins s σ H { D with nx := u D } I h) fun f s1 q => ?_)
  cases f with
  | next =>
    obtain ⟨σ', H', I', q⟩ := q
    exact h2 pins s1 σ' H' D I' q
  | ret v => exact q
  | brk => exact q
  | cont => exact q
theorem pss_one (h1 : PS X st t) : PSs X [st] t := by
  intro pins s σ H D I h
  refine wpAny_execs_cons (thn (h1 pins s σ H D I h) fun f s1 q => ?_)
  cases f with
  | next => exact wpAny_execs_nil q
  | ret v => exact q
  | brk => exact q
  | cont => exact q
def tBreak : TS := fun D σ H => D.bk σ H
theorem ps_break : PS X (.Break pos) tBreak := fun _ _ σ H _ I h => wpAny_Break ⟨σ, H, I, h⟩
theorem Inv.quiet {pins : List (Addr × Obj)} {σ : St} {H : Hp} {s : Shared} (I : Inv X pins σ H s) : interactive X.env = false := by simp [interactive, I.ok.kind]
def tDrop (te : TE) : TS := fun D σ H => te σ H fun _ H1 => D.nx σ H1
theorem ps_expr (he : PE X e te) (hs : swapsWith e none pos.line X.env = pure false := by rfl) : PS X (.Expr e pos) (tDrop te) := by
  intro pins s σ H D I h
  exact wpAny_Expr_any (thn (he pins s σ H _ I h) fun v s1 ⟨x, H1, I1, r1, q1⟩ => ⟨σ, H1, I1, q1⟩) I.quiet hs
def tRet (te : TE) : TS := fun D σ H => te σ H D.rt
theorem ps_ret (he : PE X e te) : PS X (.Return (some e) pos) (tRet te) := by
  intro pins s σ H D I h
  exact wpAny_Return_some (thn (he pins s σ H _ I h) fun v s1 ⟨x, H1, I1, r1, q1⟩ => ⟨x, σ, H1, I1, r1, q1⟩)
def tIfS (c : TT) (t u : TS) : TS := fun D σ H => c σ H fun b H1 => if b = true then t D σ H1 else u D σ H1
theorem ps_if {c : Expr} {a b : List Stmt} {tc : TT} (hc : PT X c tc) (ha : PSs X a t) (hb : PSs X b u) : PS X (.If c a b pos) (tIfS tc t u) := by
  intro pins s σ H D I h
  refine wpAny_If (thn (hc pins s σ H _ I h) fun d s1 ⟨H1, I1, q1⟩ => ?_)
  cases d with
  | true => exact ha pins s1 σ H1 D I1 q1
  | false => exact hb pins s1 σ H1 D I1 q1
end
abbrev TG := V → St → Hp → (St → Hp → Prop) → Prop
abbrev TGs := List V → St → Hp → (St → Hp → Prop) → Prop
def PG (X : Cx) (target : Expr) (t : TG) : Prop :=
  ∀ (pins : List (Addr × Obj)) (s : Shared) (σ : St) (H : Hp) (v : V) (u : Value) (Q : St → Hp → Prop), Inv X pins σ H s → RelV v u → t v σ H Q →
    wpAny (model X.prog X.w) X.A (assign target X.env u) (fun _ s' => ∃ σ' H', Inv X pins σ' H' s' ∧ Q σ' H') X.xe s
def PGs (X : Cx) (ts : List Expr) (t : TGs) : Prop :=
  ∀ (pins : List (Addr × Obj)) (s : Shared) (σ : St) (H : Hp) (vs : List V) (us : List Value) (Q : St → Hp → Prop), Inv X pins σ H s → Vals vs us → t vs σ H Q →
    wpAny (model X.prog X.w) X.A (assignInOrder ((assignEach ts X.env).map (·.2)) us) (fun _ s' => ∃ σ' H', Inv X pins σ' H' s' ∧ Q σ' H') X.xe s
abbrev TSet := V → V → V → Hp → (Hp → Prop) → Prop
def PSet (X : Cx) (t : TSet) : Prop :=
  ∀ (pins : List (Addr × Obj)) (s : Shared) (σ : St) (H : Hp) (o i v : V) (ov iv u : Value) (Q : Hp → Prop), Inv X pins σ H s → RelV o ov → RelV i iv → RelV v u → t o i v H Q →
    wpAny (model X.prog X.w) X.A (setItem ov iv u) (fun _ s' => ∃ H', Inv X pins σ H' s' ∧ Q H') X.xe s
section
variable {X : Cx} {pos : Pos}
def gName (i : Nat) : TG := fun v σ H Q => Q (σ.set i (some v)) H
theorem pg_name {i : Nat} {x : Str} (hN : X.N.Nodup) (hi : X.N[i]? = some x) (hx : Loc X.env.scope x) (hf : X.fn x = true ∨ X.env.scope.names.lookup x = some .local := by first | exact .inl rfl | exact .inr rfl | assumption) : PG X (.Name x pos) (gName i) := by
  intro pins s σ H v u Q I r h
  exact wpAny_assign_Name (store_ok I hN hi hx r (fun s' I' => ⟨_, H, I', h⟩) hf)
def gNil : TGs := fun vs σ H Q => vs = [] ∧ Q σ H
def gCons (t : TG) (u : TGs) : TGs := fun vs σ H Q => ∃ v r, vs = v :: r ∧ t v σ H fun σ' H' => u r σ' H' Q
theorem pgs_nil : PGs X [] gNil := by
  intro pins s σ H vs us Q I r h
  obtain ⟨e, h⟩ := h
  subst e
  cases r
  exact assignInOrder_nil ⟨σ, H, I, h⟩
theorem pgs_cons {e : Expr} {es : List Expr} {t : TG} {u : TGs} (h1 : PG X e t) (h2 : PGs X es u)
    (hs : (assignEach (e :: es) X.env).map (·.2) = assign e X.env :: (assignEach es X.env).map (·.2) := by rfl) : PGs X (e :: es) (gCons t u) := by
  intro pins s σ H vs us Q I r h
  obtain ⟨v, vr, e1, h⟩ := h
  subst e1
  cases r with
  | cons r rr =>
    rw [hs]
    refine assignInOrder_cons (thn (h1 pins s σ H _ _ _ I r h) fun _ s1 ⟨σ1, H1, I1, q1⟩ => ?_)
    exact h2 pins s1 σ1 H1 _ _ Q I1 rr q1
def gTup (K : PySem.W.Frag) (n : Nat) (t : TGs) : TG := fun v σ H Q => ∃ a xs, v = .ref a ∧ SqT K H a xs ∧ xs.length = n ∧ t xs σ H Q
theorem pg_tup {es : List Expr} {k : Nat} {t : TGs} {n : Nat} (hc : X.calm = true) (h : PGs X es t)
    (hn : (assignEach es X.env).length = n := by rfl) (hst : (assignEach es X.env).findIdx? (·.1) = none := by rfl) : PG X (.Tuple es k pos) (gTup X.K n t) := by
  intro pins s σ H v u Q I r hw
  obtain ⟨a, xs, e1, hq, hl, hw⟩ := hw
  subst e1
  cases r
  obtain ⟨its, rv, ht, hz⟩ := I.tuple hq
  refine assign_Tuple_tuple (I.ok.hd hc) ht (by simp [hn, ← hl, rv.length]) hst fun h' hx => ?_
  have I1 : Inv X pins σ H { s with heap := h' } := I.kept (t' := s.toks) fun b o e => hx b o (Nat.ne_of_lt (Heap.lt_size e)) e
  exact h pins _ σ H xs _ Q I1 (by simpa using rv) hw
def gSub (to ti : TE) (t : TSet) : TG := fun v σ H Q => to σ H fun o H1 => ti σ H1 fun i H2 => t o i v H2 fun H3 => Q σ H3
theorem pg_sub {o i : Expr} {to ti : TE} {t : TSet} (ho : PE X o to) (hi : PE X i ti) (hs : PSet X t)
    (ha : ∀ v, assign (.Subscript o i pos) X.env v = (do
      let ov ← holding [v] (eval o X.env)
      let iv ← holding [v, ov] (eval i X.env)
      standAt pos
      holding [v, ov, iv] (setItem ov iv v)
      release [v, ov, iv] []) := by intro _; rfl) : PG X (.Subscript o i pos) (gSub to ti t) := by
  intro pins s σ H v u Q I r h
  rw [ha]
  refine wpAny_bind (wpAny_holding (thn (ho pins s σ H _ I h) fun ov s1 ⟨x, H1, I1, r1, q1⟩ => ?_))
  refine wpAny_bind (wpAny_holding (thn (hi pins s1 σ H1 _ I1 q1) fun iv s2 ⟨y, H2, I2, r2, q2⟩ => ?_))
  refine wpAny_bind (wpAny_standAt (wpAny_bind (wpAny_holding (thn (hs pins s2 σ H2 x y v ov iv u _ I2 r1 r2 r q2) fun _ s3 ⟨H3, I3, q3⟩ => ?_))))
  exact wpAny_release ⟨σ, H3, I3, q3⟩
def tAsg (te : TE) (g : TG) : TS := fun D σ H => te σ H fun x H1 => g x σ H1 D.nx
theorem ps_asg {tg e : Expr} {te : TE} {g : TG} (he : PE X e te) (hg : PG X tg g) (hs : swapsWithSole [tg] e pos.line X.env = pure false := by rfl) (hw : swappedStores [tg] e X.env = pure none := by rfl)
    (h1 : (assignEach [tg] X.env).map (·.2) = [assign tg X.env] := by rfl) : PS X (.Assign [tg] e pos) (tAsg te g) := by
  intro pins s σ H D I h
  refine wpAny_Assign_stores (thn (he pins s σ H _ I h) fun v s1 ⟨x, H1, I1, r1, q1⟩ => ?_) hs hw
  rw [h1]
  exact thn (hg pins s1 σ H1 x v _ I1 r1 q1) fun _ s2 q => q
theorem ps_set {i : Nat} {x : Str} {e : Expr} {te : TE} {pos' : Pos} (hN : X.N.Nodup) (hi : X.N[i]? = some x) (hx : Loc X.env.scope x) (he : PE X e te) (hs : swapsWith e (some (.Name x pos')) pos.line X.env = pure false := by rfl) (hf : X.fn x = true ∨ X.env.scope.names.lookup x = some .local := by first | exact .inl rfl | exact .inr rfl | assumption) :
    PS X (.Assign [.Name x pos'] e pos) (tAsg te (gName i)) := by
  intro pins s σ H D I h
  refine wpAny_Assign_Name (thn (he pins s σ H _ I h) fun v s1 ⟨y, H1, I1, r1, q1⟩ => ?_) hs
  exact store_ok I1 hN hi hx r1 (fun s2 I2 => ⟨_, H1, I2, q1⟩) hf
end
section
variable {X : Cx} {pos : Pos}
def tWhile (c : TT) (tb : TS) : TS := fun D σ H => ∃ W : Nat → St → Hp → Prop, (∃ m, W m σ H) ∧ ∀ m σ H, W m σ H →
  c σ H fun b H1 => if b = true then ∃ N : St → Hp → Prop, (∀ σ' H', N σ' H' → ∃ m', m' < m ∧ W m' σ' H') ∧ tb { D with nx := N, ct := N, bk := D.nx } σ H1 else D.nx σ H1
theorem ps_while {c : Expr} {body : List Stmt} {tc : TT} {tb : TS} (hp : PassesOwn (model X.prog X.w) X.A X.env X.xe) (hc : PT X c tc) (hb : PSs X body tb) : PS X (.While c body [] pos) (tWhile tc tb) := by
  intro pins s σ H D I h
  obtain ⟨W, ⟨m0, w0⟩, turn⟩ := h
  refine wpAny_While (codeAny_whileLoop (fun n s' => ∃ σ' H', Inv X pins σ' H' s' ∧ W n σ' H') ?_ m0 ⟨σ, H, I, w0⟩)
  rintro n s1 ⟨σ1, H1, I1, w1⟩
  refine wpAny_passesOwn hp (thn (hc pins s1 σ1 H1 _ I1 (turn n σ1 H1 w1)) fun b s2 ⟨H2, I2, q2⟩ => ?_)
  cases b with
  | true =>
    obtain ⟨N, hN, q2⟩ := q2
    rw [if_pos rfl]
    refine wpAny_passesOwn hp (thn (hb pins s2 σ1 H2 _ I2 q2) fun f s3 q3 => ?_)
    cases f with
    | next =>
      obtain ⟨σ3, H3, I3, n3⟩ := q3
      obtain ⟨m', hm, w3⟩ := hN σ3 H3 n3
      exact ⟨m', hm, σ3, H3, I3, w3⟩
    | cont =>
      obtain ⟨σ3, H3, I3, n3⟩ := q3
      obtain ⟨m', hm, w3⟩ := hN σ3 H3 n3
      exact ⟨m', hm, σ3, H3, I3, w3⟩
    | brk => exact q3
    | ret v => exact q3
  | false =>
    rw [if_neg Bool.false_ne_true]
    exact wpAny_execs_nil ⟨σ1, H2, I2, q2⟩
end
structure It where
  go : Nat → Hp → Prop
  yld : Nat → Hp → V → Hp → Prop
  stop : Nat → Hp → Prop
def FpOk (X : Cx) (pins : List (Addr × Obj)) (H : Hp) (b : Addr) : Prop :=
  H b = none ∧ b ≠ X.env.locals ∧ b ∉ X.fs ∧ (b ∈ X.ex ∨ X.s₀.heap.objs.size ≤ b) ∧ (∀ x c, X.env.cells.lookup x = some c → c ≠ b) ∧ ∀ p ∈ X.pn ++ pins, p.1 ≠ b
theorem Inv.fpOk {X : Cx} {pins : List (Addr × Obj)} {σ : St} {H H' : Hp} {s : Shared} {b : Addr} (I : Inv X pins σ H s) (hb : s.heap.objs.size ≤ b) (hn : H' b = none) : FpOk X pins H' b := by
  refine ⟨hn, Nat.ne_of_gt (Nat.lt_of_lt_of_le I.lt hb), I.nofs hb, .inr (Nat.le_trans I.sz hb), fun x c e z => ?_, fun p hp z => ?_⟩
  · obtain ⟨v, q⟩ := I.cell x c e
    exact absurd (Nat.lt_of_lt_of_le q.lt (by rw [z]; exact hb)) (Nat.lt_irrefl _)
  · exact absurd (Nat.lt_of_lt_of_le (Heap.lt_size (I.pin p hp).1) (by rw [z]; exact hb)) (Nat.lt_irrefl _)
structure Turn (P : Program) (w : World) (K : PySem.W.Frag) (tg : Expr) (J : It) (fp : List Addr) (it : Addr) (tn : Nat → Heap → Prop) : Prop where
  mem : it ∈ fp
  obj : ∀ i h, tn i h → ∀ b ∈ fp, ∃ o, h.get? b = some o ∧ ∀ v, o.data ≠ .cell v
  keep : ∀ i h h', tn i h → (∀ b ∈ fp, ∀ o, h.get? b = some o → h'.get? b = some o) → tn i h'
  item : ∀ (X : Cx), X.prog = P → X.w = w → X.K = K → X.calm = true → ∀ (i : Nat) (pins : List (Addr × Obj)) (s : Shared) (σ : St) (H : Hp) (E : Value → Shared → Prop), Inv X pins σ H s → (∀ b ∈ fp, FpOk X pins H b) → tn i s.heap → J.go i H →
    wpAny (model P w) X.A (pyNext (.ref it)) (fun r s1 => ∃ u, r = some u ∧
      wpAny (model P w) X.A (letOwnedTupleGo tg (.ref it) u) (fun _ s2 => ∃ x H', Inv X pins σ H' s2 ∧ RelV x u ∧ J.yld i H x H' ∧ tn (i + 1) s2.heap ∧ ∀ b ∈ fp, H' b = none) E s1) E s
  done : ∀ (X : Cx), X.prog = P → X.w = w → X.K = K → X.calm = true → ∀ (i : Nat) (pins : List (Addr × Obj)) (s : Shared) (σ : St) (H : Hp) (E : Value → Shared → Prop), Inv X pins σ H s → (∀ b ∈ fp, FpOk X pins H b) → tn i s.heap → J.stop i H →
    wpAny (model P w) X.A (pyNext (.ref it)) (fun r s1 => r = none ∧ Inv X pins σ H s1) E s
  self : ∀ (A : Around) (i : Nat) (s : Shared) (Q : Value → Shared → Prop) (E : Value → Shared → Prop), tn i s.heap → Q (.ref it) s → wpAny (model P w) A (pyIter (.ref it)) Q E s
abbrev TI := St → Hp → (It → Hp → Prop) → Prop
def PIE (X : Cx) (pins : List (Addr × Obj)) (σ : St) (tg : Expr) (R : It → Hp → Prop) (itv : Value) (s2 : Shared) : Prop :=
  ∃ (it : Addr) (fp : List Addr) (tn : Nat → Heap → Prop) (J : It) (H' : Hp), itv = .ref it ∧ Inv X pins σ H' s2 ∧ Turn X.prog X.w X.K tg J fp it tn ∧ tn 0 s2.heap ∧ (∀ b ∈ fp, FpOk X pins H' b) ∧ R J H'
def PI (X : Cx) (tg iter : Expr) (wi : TI) : Prop :=
  ∀ (pins : List (Addr × Obj)) (s : Shared) (σ : St) (H : Hp) (R : It → Hp → Prop), Inv X pins σ H s → wi σ H R →
    wpAny (model X.prog X.w) X.A (eval iter X.env) (fun v s1 => wpAny (model X.prog X.w) X.A (pyIter v) (PIE X pins σ tg R) X.xe s1) X.xe s
theorem go_of {M : Model} {A : Around} {E : Value → Shared → Prop} {s : Shared} {tg : Expr} {it : Addr} {u : Value} {o : Obj} {n : String} {vs : Array Value} {Q : Unit → Shared → Prop} (ho : s.heap.get? it = some o) (hc : o.cls = .type n) (hd : o.data = .fields vs)
    (hn : ["enumerate", "zip", "dict_itemiterator", "dict_reverseitemiterator", "odict_iterator", "itertools.zip_longest", "itertools.pairwise"].contains n = false) (hQ : Q () s) : wpAny M A (letOwnedTupleGo tg (.ref it) u) Q E s := by
  unfold letOwnedTupleGo
  cases tg <;> first
    | exact wpAny_pure hQ
    | (cases u <;> first
        | exact wpAny_pure hQ
        | (refine wpAny_bind (wpAny_load ho ?_)
           rw [hc, hd]
           show wpAny M A (if (["enumerate", "zip", "dict_itemiterator", "dict_reverseitemiterator", "odict_iterator", "itertools.zip_longest", "itertools.pairwise"].contains n && vs[0]? == some (rawInt _)) = true then _ else _) Q E s
           rw [if_neg (by intro h; rw [hn, Bool.false_and] at h; cases h)]
           exact wpAny_pure hQ))
def Itl (K : PySem.W.Frag) (a : Addr) : It :=
  ⟨fun i H => ∃ xs x, SqL K H a xs ∧ xs[i]? = some x, fun i H x H' => H' = H ∧ ∀ xs, SqL K H a xs → xs[i]? = some x, fun i H => ∃ xs, SqL K H a xs ∧ xs.length ≤ i⟩
def Itr (lo : Int) (n : Nat) : It := ⟨fun i _ => i < n, fun i H x H' => H' = H ∧ x = .int (lo + i), fun i _ => n ≤ i⟩
theorem turn_list {P : Program} {w : World} {K : PySem.W.Frag} {tg : Expr} (a it : Addr) : Turn P w K tg (Itl K a) [it] it (fun i h => h.IsListIter it a i) where
  mem := by simp
  obj := fun i h st b hb => by
    have e : b = it := by simpa using hb
    subst e
    obtain ⟨o, e, c, d⟩ := st
    exact ⟨o, e, fun v z => by rw [d] at z; cases z⟩
  keep := fun i h h' st k => st.at fun o e => k it (by simp) o e
  item := by
    intro X hP hw hK hc i pins s σ H E I hf st hg
    subst hP hw hK
    obtain ⟨xs, x, hq, hx⟩ := hg
    obtain ⟨its, rv, p, hz⟩ := I.list hq
    obtain ⟨u, hu, ru⟩ := rv.get hx
    obtain ⟨f0, f1, f2, f3, f4, f5⟩ := hf it (by simp)
    refine wpAny_pyNext_list_item st p.isList (x := u) (by simpa using hu) fun h' st' sb => ?_
    have I1 : Inv X pins σ H { s with heap := h' } := I.turned (t' := s.toks) (fun b o hb e => (sb.2 b hb).trans e) f0 f1 f3 f4 f5
    obtain ⟨o, e, c, d⟩ := id st'
    exact ⟨u, rfl, go_of (s := { s with heap := h' }) e c d (by decide) ⟨x, H, I1, ru, ⟨rfl, fun ys hy => by rw [I.list_inj hy hq]; exact hx⟩, st', fun b hb => (hf b hb).1⟩⟩
  done := by
    intro X hP hw hK hc i pins s σ H E I hf st hg
    subst hP hw hK
    obtain ⟨xs, hq, hx⟩ := hg
    obtain ⟨its, rv, p, hz⟩ := I.list hq
    obtain ⟨f0, f1, f2, f3, f4, f5⟩ := hf it (by simp)
    have hl := rv.length
    exact wpAny_pyNext_list_end (I.ok.hd hc) st p.isList (by simp; omega) fun h' eb => ⟨rfl, I.turned (t' := s.toks) (fun b o hb e => eb b o hb e) f0 f1 f3 f4 f5⟩
  self := fun _ _ _ _ _ st h => wpAny_pyIter_listiter st h
theorem turn_range {P : Program} {w : World} {K : PySem.W.Frag} {tg : Expr} (it : Addr) (lo : Int) (n : Nat) : Turn P w K tg (Itr lo n) [it] it (fun i h => IsRangeIter h it (lo + (i : Nat) * 1) ((n : Int) - (i : Nat)) 1) where
  mem := by simp
  obj := fun i h st b hb => by
    have e : b = it := by simpa using hb
    subst e
    exact ⟨_, st, fun v z => by
      have z' : Data.fields _ = Data.cell v := z
      cases z'⟩
  keep := fun i h h' st k => k it (by simp) _ st
  item := by
    intro X hP hw hK hc i pins s σ H E I hf st hg
    subst hP hw hK
    obtain ⟨f0, f1, f2, f3, f4, f5⟩ := hf it (by simp)
    have W := Walks.range (prog := X.prog) (w := X.w) (I.ok.hd hc) it lo 1 n
    refine W.item i s _ _ hg st fun v h' tk hv st' kk => ?_
    obtain ⟨t, rfl⟩ := hv
    have I1 : Inv X pins σ H { s with heap := h', toks := tk } := I.turned (fun b o hb e => kk b o (by simpa using hb) e) f0 f1 f3 f4 f5
    refine ⟨_, rfl, go_of (s := { s with heap := h', toks := tk }) (n := "range_iterator") st' rfl rfl (by decide) ⟨.int (lo + i), H, I1, ⟨t, ?_⟩, ⟨rfl, rfl⟩, st', fun b hb => (hf b hb).1⟩⟩
    rw [Int.mul_one]
  done := by
    intro X hP hw hK hc i pins s σ H E I hf st hg
    subst hP hw hK
    obtain ⟨f0, f1, f2, f3, f4, f5⟩ := hf it (by simp)
    exact wpAny_pyNext_range_end (I.ok.hd hc) st (by have : n ≤ i := hg; omega) fun h' eb => ⟨rfl, I.turned (t' := s.toks) (fun b o hb e => eb b o hb e) f0 f1 f3 f4 f5⟩
  self := fun _ _ _ _ _ st h => wpAny_pyIter_rangeiter st h
end L2
namespace L2
open PySem PySem.Spec PyProof.Rows
section
variable {X : Cx} {tg : Expr}
def iList (K : PySem.W.Frag) (tl : TE) : TI := fun σ H R => tl σ H fun x H1 => ∃ a, x = .ref a ∧ (∃ xs, SqL K H1 a xs) ∧ R (Itl K a) H1
theorem pi_list {l : Expr} {tl : TE} (hl : PE X l tl) : PI X tg l (iList X.K tl) := by
  intro pins s σ H R I h
  refine thn (hl pins s σ H _ I h) fun v s1 ⟨x, H1, I1, r1, q1⟩ => ?_
  obtain ⟨a, e, ⟨xs, hq⟩, q⟩ := q1
  subst e
  cases r1
  obtain ⟨its, rv, p, hz⟩ := I1.list hq
  refine wpAny_pyIter_list p.isList ?_
  refine ⟨s1.heap.objs.size, [s1.heap.objs.size], _, _, H1, rfl, I1.kept (t' := s1.toks) fun b o e => Heap.get?_push_of_some _ e, turn_list a _, ⟨_, Heap.get?_push_size _ rfl, rfl, rfl⟩, fun b hb => ?_, q⟩
  have e : b = s1.heap.objs.size := by simpa using hb
  subst e
  exact I1.fpOk (Nat.le_refl _) (I1.hok.fresh (Nat.le_refl _))
theorem range_it {pins : List (Addr × Obj)} {σ : St} {H : Hp} {s : Shared} {R : It → Hp → Prop} {E : Value → Shared → Prop} {lo hi : Int} {t u v : Tok} {tk : Nat} (I : Inv X pins σ H s) (h1 : -(2 ^ 62) ≤ lo) (h2 : lo < 2 ^ 62) (h3 : -(2 ^ 62) ≤ hi) (h4 : hi < 2 ^ 62)
    (q : R (Itr lo (hi - lo).toNat) H) : wpAny (model X.prog X.w) X.A (pyIter (.ref s.heap.objs.size)) (PIE X pins σ tg R) E { s with heap := s.heap.push { cls := .type "range", data := .fields #[.int lo t, .int hi u, .int 1 v] }, toks := tk } := by
  refine wpAny_pyIter_range (IsRange.new ..) (small_one h1 h2 h3 h4) ?_
  have I1 : Inv X pins σ H { s with heap := s.heap.push { cls := .type "range", data := .fields #[.int lo t, .int hi u, .int 1 v] }, toks := tk } := I.kept fun b o e => Heap.get?_push_of_some _ e
  refine ⟨(s.heap.push { cls := .type "range", data := .fields #[.int lo t, .int hi u, .int 1 v] }).objs.size, [(s.heap.push { cls := .type "range", data := .fields #[.int lo t, .int hi u, .int 1 v] }).objs.size], _, _, H, rfl,
    I1.kept (t' := tk) fun b o e => Heap.get?_push_of_some _ e, turn_range _ lo (hi - lo).toNat, ?_, fun b hb => ?_, q⟩
  · have e1 : lo + ((0 : Nat) : Int) * 1 = lo := by simp
    have e2 : (((hi - lo).toNat : Nat) : Int) - ((0 : Nat) : Int) = Builtin.Range.rangeSize lo hi 1 := by rw [rangeSize_one]; split <;> omega
    show IsRangeIter _ _ (lo + ((0 : Nat) : Int) * 1) ((((hi - lo).toNat : Nat) : Int) - ((0 : Nat) : Int)) 1
    rw [e1, e2]
    exact Heap.get?_push_size _ rfl
  · have e : b = (s.heap.push { cls := .type "range", data := .fields #[.int lo t, .int hi u, .int 1 v] }).objs.size := by simpa using hb
    subst e
    exact I1.fpOk (Nat.le_refl _) (I1.hok.fresh (Nat.le_refl _))
def iRng1 (ta : TA) : TI := fun σ H R => ta σ H fun vs H1 => ∃ j : Int, vs = [.int j] ∧ -(2 ^ 62) ≤ j ∧ j < 2 ^ 62 ∧ R (Itr 0 j.toNat) H1
def iRng2 (ta : TA) : TI := fun σ H R => ta σ H fun vs H1 => ∃ i j : Int, vs = [.int i, .int j] ∧ (-(2 ^ 62) ≤ i ∧ i < 2 ^ 62 ∧ -(2 ^ 62) ≤ j ∧ j < 2 ^ 62) ∧ R (Itr i (j - i).toNat) H1
theorem pi_range1 {a : Expr} {ta : TA} {p pos : Pos} (hg : Gl X "range") (hm : X.mg "range" = none) (ha : PA X [a] ta) (hs : starEach [a] X.env = [(false, eval a X.env)] := by rfl) : PI X tg (.Call (.Name "range" p) [a] [] pos) (iRng1 ta) := by
  intro pins s σ H R I h
  refine Call_ (ld_blt I hg hm boot_range (PyProof.Rows.callWith_type1 (thn (ha pos pins s σ H _ I h) fun us s1 ⟨vs, H1, I1, r1, q1⟩ => ?_) hs rfl))
  obtain ⟨j, e, q1, q2, q⟩ := q1
  subst e
  cases r1 with
  | cons r rr =>
    cases rr
    obtain ⟨t, rfl⟩ := r
    exact call_range_1 (range_it I1 (by omega) (by omega) q1 q2 (by simpa using q))
theorem pi_range2 {a b : Expr} {ta : TA} {p pos : Pos} (hg : Gl X "range") (hm : X.mg "range" = none) (ha : PA X [a, b] ta) (hs : starEach [a, b] X.env = [(false, eval a X.env), (false, eval b X.env)] := by rfl) (hs2 : starEach [b] X.env = [(false, eval b X.env)] := by rfl) :
    PI X tg (.Call (.Name "range" p) [a, b] [] pos) (iRng2 ta) := by
  intro pins s σ H R I h
  refine Call_ (ld_blt I hg hm boot_range (PyProof.Rows.callWith_type1 (thn (ha pos pins s σ H _ I h) fun us s1 ⟨vs, H1, I1, r1, q1⟩ => ?_) (by rw [hs, hs2]) (by rw [hs2]; rfl)))
  obtain ⟨i, j, e, ⟨q1, q2, q3, q4⟩, q⟩ := q1
  subst e
  cases r1 with
  | cons r rr =>
    cases rr with
    | cons r' rr =>
      cases rr
      obtain ⟨t, rfl⟩ := r
      obtain ⟨t', rfl⟩ := r'
      exact call_range_2 (range_it I1 q1 q2 q3 q4 q)
def tFor (wi : TI) (g : TG) (tb : TS) : TS := fun D σ H => wi σ H fun J H1 => ∃ W : Nat → Nat → St → Hp → Prop, (∃ m, W 0 m σ H1) ∧ ∀ i m σ H, W i m σ H →
  (J.stop i H ∧ D.nx σ H) ∨ (J.go i H ∧ ∃ N : St → Hp → Prop, (∀ σ' H', N σ' H' → ∃ m', m' < m ∧ W (i + 1) m' σ' H') ∧ ∀ x H', J.yld i H x H' → g x σ H' fun σ2 H2 => tb { D with nx := N, ct := N, bk := D.nx } σ2 H2)
def pinsAt (fp : List Addr) (h : Heap) : List (Addr × Obj) := fp.filterMap fun b => (h.get? b).map fun o => (b, o)
theorem mem_pinsAt {fp : List Addr} {h : Heap} {b : Addr} {o : Obj} (hb : b ∈ fp) (e : h.get? b = some o) : (b, o) ∈ pinsAt fp h := List.mem_filterMap.mpr ⟨b, hb, by rw [e]; rfl⟩
theorem of_pinsAt {fp : List Addr} {h : Heap} {p : Addr × Obj} (hp : p ∈ pinsAt fp h) : p.1 ∈ fp ∧ h.get? p.1 = some p.2 := by
  obtain ⟨b, hb, e⟩ := List.mem_filterMap.mp hp
  cases q : h.get? b with
  | none => rw [q] at e; cases e
  | some o =>
    rw [q] at e
    have e' : (b, o) = p := Option.some.inj e
    subst e'
    exact ⟨hb, q⟩
theorem Inv.pinned {pins : List (Addr × Obj)} {σ : St} {H : Hp} {s : Shared} {fp : List Addr} (I : Inv X pins σ H s) (hf : ∀ b ∈ fp, FpOk X pins H b) (ho : ∀ b ∈ fp, ∃ o, s.heap.get? b = some o ∧ ∀ v, o.data ≠ .cell v) : Inv X (pins ++ pinsAt fp s.heap) σ H s :=
  I.pins_of fun p hp => (List.mem_append.mp hp).elim (fun z => I.pin p (List.mem_append_right _ z)) fun z => by
    obtain ⟨hb, e⟩ := of_pinsAt z
    obtain ⟨f0, f1, f2, _⟩ := hf p.1 hb
    obtain ⟨o, e', d⟩ := ho p.1 hb
    rw [e] at e'; cases e'
    exact ⟨e, f0, f1, f2, d⟩
theorem Inv.unpinned {pins pl : List (Addr × Obj)} {σ : St} {H : Hp} {s : Shared} (I : Inv X (pins ++ pl) σ H s) : Inv X pins σ H s := I.pins_of fun p hp => I.pin p (List.mem_append_right _ (List.mem_append_left _ hp))
theorem ps_for {iter : Expr} {body : List Stmt} {wi : TI} {g : TG} {tb : TS} {pos : Pos} (hp : PassesOwn (model X.prog X.w) X.A X.env X.xe) (hc : X.calm = true) (hi : PI X tg iter wi) (hg : PG X tg g) (hb : PSs X body tb)
    (hs : ∀ x, foldedSetIterable iter X.env x = pure x := by intro _; rfl) : PS X (.For tg iter body [] pos) (tFor wi g tb) := by
  intro pins s σ H D I h
  refine wpAny_For (thn (hi pins s σ H _ I h) fun v s1 h1 => thn h1 fun itv s2 h2 => ?_) hs
  obtain ⟨it, fp, tn, J, H2, e, I2, T, st2, f2, W, ⟨m0, w0⟩, turn⟩ := h2
  subst e
  have stat : ∀ {H' : Hp}, (∀ b ∈ fp, H' b = none) → ∀ b ∈ fp, FpOk X pins H' b := fun hn b hb => ⟨hn b hb, (f2 b hb).2⟩
  refine codeAny_forLoop_any (fun n s' => ∃ i σ' H', Inv X pins σ' H' s' ∧ tn i s'.heap ∧ (∀ b ∈ fp, H' b = none) ∧ W i n σ' H') ?_ m0 ⟨0, σ, H2, I2, st2, fun b hb => (f2 b hb).1, w0⟩
  rintro n s3 ⟨i, σ3, H3, I3, st3, fr3, w3⟩
  rcases turn i n σ3 H3 w3 with ⟨stop, qn⟩ | ⟨go, N, hN, step⟩
  · refine wpAny_passesOwn hp (thn (T.done X rfl rfl rfl hc i pins s3 σ3 H3 X.xe I3 (stat fr3) st3 stop) fun r s4 ⟨hr, I4⟩ => ?_)
    subst hr
    exact wpAny_execs_nil ⟨σ3, H3, I4, qn⟩
  · refine wpAny_passesOwn hp (thn (T.item X rfl rfl rfl hc i pins s3 σ3 H3 X.xe I3 (stat fr3) st3 go) fun r s4 ⟨u, hr, h4⟩ => ?_)
    subst hr
    refine wpAny_passesOwn hp (thn h4 fun _ s5 ⟨x, H5, I5, r5, y5, st5, fr5⟩ => ?_)
    have I5' := I5.pinned (stat fr5) (T.obj _ _ st5)
    refine wpAny_passesOwn hp (thn (hg _ s5 σ3 H5 x u _ I5' r5 (step x H5 y5)) fun _ s6 ⟨σ6, H6, I6, q6⟩ => ?_)
    refine wpAny_passesOwn hp (thn (hb _ s6 σ6 H6 _ I6 q6) fun f s7 q7 => ?_)
    have again : ∀ {σ7 : St} {H7 : Hp}, Inv X (pins ++ pinsAt fp s5.heap) σ7 H7 s7 → N σ7 H7 → ∃ m, m < n ∧ ∃ i σ' H', Inv X pins σ' H' s7 ∧ tn i s7.heap ∧ (∀ b ∈ fp, H' b = none) ∧ W i m σ' H' := fun {σ7 H7} I7 n7 => by
      obtain ⟨m', hm, w7⟩ := hN σ7 H7 n7
      refine ⟨m', hm, i + 1, σ7, H7, I7.unpinned, T.keep _ _ _ st5 fun b hb o e => (I7.pin (b, o) (List.mem_append_right _ (List.mem_append_right _ (mem_pinsAt hb e)))).1, fun b hb => ?_, w7⟩
      obtain ⟨o, e, d⟩ := T.obj _ _ st5 b hb
      exact (I7.pin (b, o) (List.mem_append_right _ (List.mem_append_right _ (mem_pinsAt hb e)))).2.1
    cases f with
    | next => obtain ⟨σ7, H7, I7, n7⟩ := q7; exact again I7 n7
    | cont => obtain ⟨σ7, H7, I7, n7⟩ := q7; exact again I7 n7
    | brk => obtain ⟨σ7, H7, I7, q7⟩ := q7; exact ⟨σ7, H7, I7.unpinned, q7⟩
    | ret v => obtain ⟨x7, σ7, H7, I7, r7, q7⟩ := q7; exact ⟨x7, σ7, H7, I7.unpinned, r7, q7⟩
end
theorem for_list {K : PySem.W.Frag} {a : Addr} {xs : List V} {g : TG} {tb : TS} {D : Ends} {σ : St} {H : Hp} (Pv : Nat → St → Hp → Prop) (h0 : Pv 0 σ H) (hl : ∀ i σ H, i ≤ xs.length → Pv i σ H → SqL K H a xs)
    (hs : ∀ i x σ H, xs[i]? = some x → Pv i σ H → g x σ H fun σ2 H2 => tb { D with nx := Pv (i + 1), ct := Pv (i + 1), bk := D.nx } σ2 H2) (hd : ∀ σ H, Pv xs.length σ H → D.nx σ H) :
    ∃ W : Nat → Nat → St → Hp → Prop, (∃ m, W 0 m σ H) ∧ ∀ i m σ H, W i m σ H →
      ((Itl K a).stop i H ∧ D.nx σ H) ∨ ((Itl K a).go i H ∧ ∃ N : St → Hp → Prop, (∀ σ' H', N σ' H' → ∃ m', m' < m ∧ W (i + 1) m' σ' H') ∧ ∀ x H', (Itl K a).yld i H x H' → g x σ H' fun σ2 H2 => tb { D with nx := N, ct := N, bk := D.nx } σ2 H2) := by
  refine ⟨fun i m σ H => m = xs.length - i ∧ i ≤ xs.length ∧ Pv i σ H, ⟨xs.length, by simp, Nat.zero_le _, h0⟩, ?_⟩
  rintro i m σ H ⟨rfl, hi, p⟩
  have q := hl i σ H hi p
  by_cases hlt : i < xs.length
  · refine .inr ⟨⟨xs, xs[i], q, by simp [hlt]⟩, Pv (i + 1), fun σ' H' p' => ⟨xs.length - (i + 1), by omega, rfl, hlt, p'⟩, fun x H' y => ?_⟩
    obtain ⟨e, y⟩ := y
    subst e
    exact hs i x σ _ (y xs q) p
  · have e : i = xs.length := by omega
    subst e
    exact .inl ⟨⟨xs, q, Nat.le_refl _⟩, hd σ H p⟩
theorem for_range {lo : Int} {n : Nat} {g : TG} {tb : TS} {D : Ends} {σ : St} {H : Hp} (Pv : Nat → St → Hp → Prop) (h0 : Pv 0 σ H)
    (hs : ∀ i σ H, i < n → Pv i σ H → g (.int (lo + i)) σ H fun σ2 H2 => tb { D with nx := Pv (i + 1), ct := Pv (i + 1), bk := D.nx } σ2 H2) (hd : ∀ σ H, Pv n σ H → D.nx σ H) :
    ∃ W : Nat → Nat → St → Hp → Prop, (∃ m, W 0 m σ H) ∧ ∀ i m σ H, W i m σ H →
      ((Itr lo n).stop i H ∧ D.nx σ H) ∨ ((Itr lo n).go i H ∧ ∃ N : St → Hp → Prop, (∀ σ' H', N σ' H' → ∃ m', m' < m ∧ W (i + 1) m' σ' H') ∧ ∀ x H', (Itr lo n).yld i H x H' → g x σ H' fun σ2 H2 => tb { D with nx := N, ct := N, bk := D.nx } σ2 H2) := by
  refine ⟨fun i m σ H => m = n - i ∧ i ≤ n ∧ Pv i σ H, ⟨n, by simp, Nat.zero_le _, h0⟩, ?_⟩
  rintro i m σ H ⟨rfl, hi, p⟩
  by_cases hlt : i < n
  · refine .inr ⟨hlt, Pv (i + 1), fun σ' H' p' => ⟨n - (i + 1), by omega, rfl, hlt, p'⟩, fun x H' y => ?_⟩
    obtain ⟨e, y⟩ := y
    subst e y
    exact hs i σ _ hlt p
  · have e : i = n := by omega
    subst e
    exact .inl ⟨Nat.le_refl _, hd σ H p⟩
end L2
namespace L2
open PySem PySem.Spec PyProof.Rows
abbrev R2 := V → V → Hp → VK → Prop
def OpR (X : Cx) (f : Value → Value → Sem Value) (r : R2) : Prop :=
  ∀ (pins : List (Addr × Obj)) (s : Shared) (σ : St) (H : Hp) (x y : V) (v u : Value) (Q : VK), Inv X pins σ H s → RelV x v → RelV y u → r x y H Q →
    wpAny (model X.prog X.w) X.A (f v u) (EP X pins σ Q) X.xe s
def UnR (X : Cx) (f : Value → Sem Value) (r : V → Hp → VK → Prop) : Prop :=
  ∀ (pins : List (Addr × Obj)) (s : Shared) (σ : St) (H : Hp) (x : V) (v : Value) (Q : VK), Inv X pins σ H s → RelV x v → r x H Q →
    wpAny (model X.prog X.w) X.A (f v) (EP X pins σ Q) X.xe s
def CallR (X : Cx) (f : Value) (r : List V → Hp → VK → Prop) : Prop :=
  ∀ (pins : List (Addr × Obj)) (s : Shared) (σ : St) (H : Hp) (xs : List V) (us : List Value) (Q : VK), Inv X pins σ H s → Vals xs us → r xs H Q →
    wpAny (model X.prog X.w) X.A (call f us) (EP X pins σ Q) X.xe s
def tOp (r : R2) (ta tb : TE) : TE := fun σ H Q => ta σ H fun x H1 => tb σ H1 fun y H2 => r x y H2 Q
def tUn (r : V → Hp → VK → Prop) (ta : TE) : TE := fun σ H Q => ta σ H fun x H1 => r x H1 Q
def rI (C : Int → Int → Prop) (g : Int → Int → V) : R2 := fun x y H Q => ∃ i j, x = .int i ∧ y = .int j ∧ C i j ∧ Q (g i j) H
def rI0 (g : Int → Int → V) : R2 := fun x y H Q => ∃ i j, x = .int i ∧ y = .int j ∧ Q (g i j) H
def rU (g : Int → V) : V → Hp → VK → Prop := fun x H Q => ∃ i, x = .int i ∧ Q (g i) H
section
variable {X : Cx} {a b c : Expr} {ta tb tc : TE} {pos : Pos}
theorem binT (ha : PE X a ta) (hb : PE X b tb) {pins : List (Addr × Obj)} {s : Shared} {σ : St} {H : Hp} {R : V → V → Hp → Prop} (I : Inv X pins σ H s)
    (h : ta σ H fun x H1 => tb σ H1 fun y H2 => R x y H2) {Q : Value → Shared → Prop} {f : Value → Value → Sem Value}
    (hf : ∀ v u s2 x y H2, Inv X pins σ H2 s2 → RelV x v → RelV y u → R x y H2 → wpAny (model X.prog X.w) X.A (f v u) Q X.xe s2) :
    wpAny (model X.prog X.w) X.A (eval a X.env) (fun v s₁ => wpAny (model X.prog X.w) X.A (eval b X.env) (fun u s₂ => wpAny (model X.prog X.w) X.A (f v u) Q X.xe s₂) X.xe s₁) X.xe s := by
  refine thn (ha pins s σ H _ I h) fun v s1 ⟨x, H1, I1, r1, q1⟩ => ?_
  refine thn (hb pins s1 σ H1 _ I1 q1) fun u s2 ⟨y, H2, I2, r2, q2⟩ => ?_
  exact hf v u s2 x y H2 I2 r1 r2 q2
theorem pe_op {op : Operator} {r : R2} (ho : OpR X (binaryOp op) r) (ha : PE X a ta) (hb : PE X b tb) : PE X (.BinOp a op b pos) (tOp r ta tb) := by
  intro pins s σ H Q I h
  exact wpAny_BinOp (binT ha hb I h fun v u s2 x y H2 I2 rx ry q => ho pins s2 σ H2 x y v u Q I2 rx ry q)
theorem pe_un {op : UnaryOp} {r : V → Hp → VK → Prop} (ho : UnR X (unaryOp op) r) (ha : PE X a ta) : PE X (.UnaryOp op a pos) (tUn r ta) := by
  intro pins s σ H Q I h
  exact UnaryOp_ (thn (ha pins s σ H _ I h) fun v s1 ⟨x, H1, I1, r1, q1⟩ => ho pins s1 σ H1 x v Q I1 r1 q1)
theorem opI {f : Value → Value → Sem Value} {C : Int → Int → Prop} {g : Int → Int → Int}
    (rule : ∀ (i j : Int) (t u : Tok) (s : Shared) (Q : Value → Shared → Prop) (E : Value → Shared → Prop), C i j → Q (.int (g i j) s.toks) { s with toks := s.toks + 1 } → wpAny (model X.prog X.w) X.A (f (.int i t) (.int j u)) Q E s) :
    OpR X f (rI C fun i j => .int (g i j)) := by
  intro pins s σ H x y v u Q I rx ry h
  obtain ⟨i, j, rfl, rfl, hc, q⟩ := h
  obtain ⟨t, rfl⟩ := rx
  obtain ⟨t', rfl⟩ := ry
  exact rule i j t t' s _ _ hc ⟨.int (g i j), H, I.tok _, ⟨_, rfl⟩, q⟩
theorem opI0 {f : Value → Value → Sem Value} {g : Int → Int → Int}
    (rule : ∀ (i j : Int) (t u : Tok) (s : Shared) (Q : Value → Shared → Prop) (E : Value → Shared → Prop), Q (.int (g i j) s.toks) { s with toks := s.toks + 1 } → wpAny (model X.prog X.w) X.A (f (.int i t) (.int j u)) Q E s) :
    OpR X f (rI0 fun i j => .int (g i j)) := by
  intro pins s σ H x y v u Q I rx ry h
  obtain ⟨i, j, rfl, rfl, q⟩ := h
  obtain ⟨t, rfl⟩ := rx
  obtain ⟨t', rfl⟩ := ry
  exact rule i j t t' s _ _ ⟨.int (g i j), H, I.tok _, ⟨_, rfl⟩, q⟩
theorem opB0 {f : Value → Value → Sem Value} {g : Int → Int → Bool}
    (rule : ∀ (i j : Int) (t u : Tok) (s : Shared) (Q : Value → Shared → Prop) (E : Value → Shared → Prop), Q (.bool (g i j)) s → wpAny (model X.prog X.w) X.A (f (.int i t) (.int j u)) Q E s) :
    OpR X f (rI0 fun i j => .bl (g i j)) := by
  intro pins s σ H x y v u Q I rx ry h
  obtain ⟨i, j, rfl, rfl, q⟩ := h
  obtain ⟨t, rfl⟩ := rx
  obtain ⟨t', rfl⟩ := ry
  exact rule i j t t' s _ _ ⟨.bl (g i j), H, I, rfl, q⟩
def CPow (i j : Int) : Prop := 0 ≤ j ∧ j ≤ 1000000 ∧ i.natAbs < 2 ^ 64
def CMul (i j : Int) : Prop := (-(2 ^ 64) < i ∧ i < 2 ^ 64) ∨ (-(2 ^ 64) < j ∧ j < 2 ^ 64)
theorem CMul.ok {i j : Int} (h : CMul i j) : IntMulOk i j := by
  rcases h with ⟨h1, h2⟩ | ⟨h1, h2⟩
  · exact .of_left (intBits_le_64 h1 h2)
  · exact .of_right (intBits_le_64 h1 h2)
theorem op_add : OpR X (binaryOp .Add) (rI0 fun i j => .int (i + j)) := opI0 fun _ _ _ _ _ _ _ q => add_int q
theorem op_sub : OpR X (binaryOp .Sub) (rI0 fun i j => .int (i - j)) := opI0 fun _ _ _ _ _ _ _ q => sub_int q
theorem op_mul : OpR X (binaryOp .Mult) (rI CMul fun i j => .int (i * j)) := opI fun _ _ _ _ _ _ _ hc q => mul_int q hc.ok
theorem op_mod : OpR X (binaryOp .Mod) (rI (fun _ j => 0 < j) fun i j => .int (i % j)) := opI fun i j _ _ _ _ _ hc q => by
  have h1 : (0 : Int) < j := hc
  exact mod_int' (by omega) (by rw [Int.fmod_eq_emod_of_nonneg i (by omega)]; exact q)
theorem op_pow : OpR X (binaryOp .Pow) (rI CPow fun i j => .int (i ^ j.toNat)) := opI fun _ _ _ _ _ _ _ hc q => pow_int_small hc.1 hc.2.1 hc.2.2 q
theorem unI {f : Value → Sem Value} {g : Int → Int}
    (rule : ∀ (i : Int) (t : Tok) (s : Shared) (Q : Value → Shared → Prop) (E : Value → Shared → Prop), Q (.int (g i) s.toks) { s with toks := s.toks + 1 } → wpAny (model X.prog X.w) X.A (f (.int i t)) Q E s) :
    UnR X f (rU fun i => .int (g i)) := by
  intro pins s σ H x v Q I rx h
  obtain ⟨i, rfl, q⟩ := h
  obtain ⟨t, rfl⟩ := rx
  exact rule i t s _ _ ⟨.int (g i), H, I.tok _, ⟨_, rfl⟩, q⟩
theorem un_neg : UnR X (unaryOp .USub) (rU fun i => .int (-i)) := unI fun _ _ _ _ _ q => neg_int q
end
def scal : V → V → Bool
  | .non, .non => true | .non, .int _ => true | .int _, .non => true | .non, .bl _ => true | .bl _, .non => true | .non, .str _ => true | .str _, .non => true
  | .int _, .int _ => true | .bl _, .bl _ => true | .str _, .str _ => true | .byt _, .byt _ => true
  | .int _, .str _ => true | .str _, .int _ => true | .bl _, .str _ => true | .str _, .bl _ => true
  | _, _ => false
def rEq : R2 := fun x y H Q => scal x y = true ∧ Q (.bl (decide (x = y))) H
def rNe : R2 := fun x y H Q => scal x y = true ∧ Q (.bl (!decide (x = y))) H
theorem dec_int {i j : Int} : decide (V.int i = V.int j) = (i == j) := by
  rw [Bool.eq_iff_iff]
  simp
theorem dec_bl {i j : Bool} : decide (V.bl i = V.bl j) = (i == j) := by
  rw [Bool.eq_iff_iff]
  simp
theorem dec_str {i j : Str} : decide (V.str i = V.str j) = (i == j) := by
  rw [Bool.eq_iff_iff]
  simp
theorem dec_byt {i j : Array UInt8} : decide (V.byt i = V.byt j) = (i.toList == j.toList) := by
  rw [Bool.eq_iff_iff]
  cases i
  cases j
  simp
section
variable {X : Cx} {a b c : Expr} {ta tb tc : TE} {pos : Pos}
theorem fin_bl {pins : List (Addr × Obj)} {σ : St} {H : Hp} {s : Shared} {Q : VK} {k k' : Bool} (I : Inv X pins σ H s) (q : Q (.bl k) H) (e : k = k') : EP X pins σ Q (.bool k') s := by
  subst e
  exact ⟨.bl k, H, I, rfl, q⟩
theorem op_eq : OpR X (compareOp .Eq) rEq := by
  intro pins s σ H x y v u Q I rx ry h
  obtain ⟨hs, q⟩ := h
  cases x with
  | non =>
    cases rx
    cases y with
    | non => cases ry; exact PySem.EqNone.eq_none_none (fin_bl I q (by simp))
    | bl j => cases ry; exact PySem.EqNone.eq_none_bool (fin_bl I q (by simp))
    | int j => obtain ⟨t', rfl⟩ := ry; exact PySem.EqNone.eq_none_int (fin_bl I q (by simp))
    | str j => obtain ⟨t', rfl⟩ := ry; exact PySem.EqNone.eq_none_str (fin_bl I q (by simp))
    | _ => exact absurd (show false = true from hs) Bool.false_ne_true
  | bl i =>
    cases rx
    cases y with
    | non => cases ry; exact PySem.EqNone.eq_bool_none (fin_bl I q (by simp))
    | bl j => cases ry; exact eq_bool (fin_bl I q dec_bl)
    | str j => obtain ⟨t', rfl⟩ := ry; exact PySem.EqMixed.eq_bool_str (fin_bl I q (by simp))
    | _ => exact absurd (show false = true from hs) Bool.false_ne_true
  | int i =>
    obtain ⟨t, rfl⟩ := rx
    cases y with
    | non => cases ry; exact PySem.EqNone.eq_int_none (fin_bl I q (by simp))
    | int j => obtain ⟨t', rfl⟩ := ry; exact eq_int (fin_bl I q dec_int)
    | str j => obtain ⟨t', rfl⟩ := ry; exact PySem.EqMixed.eq_int_str (fin_bl I q (by simp))
    | _ => exact absurd (show false = true from hs) Bool.false_ne_true
  | str i =>
    obtain ⟨t, rfl⟩ := rx
    cases y with
    | non => cases ry; exact PySem.EqNone.eq_str_none (fin_bl I q (by simp))
    | bl j => cases ry; exact PySem.EqMixed.eq_str_bool (fin_bl I q (by simp))
    | int j => obtain ⟨t', rfl⟩ := ry; exact PySem.EqMixed.eq_str_int (fin_bl I q (by simp))
    | str j => obtain ⟨t', rfl⟩ := ry; exact eq_str (fin_bl I q dec_str)
    | _ => exact absurd (show false = true from hs) Bool.false_ne_true
  | byt i =>
    obtain ⟨t, rfl⟩ := rx
    cases y with
    | byt j => obtain ⟨t', rfl⟩ := ry; exact PySem.W.eq_bytes (fin_bl I q dec_byt)
    | _ => exact absurd (show false = true from hs) Bool.false_ne_true
  | _ => cases y <;> exact absurd (show false = true from hs) Bool.false_ne_true
theorem op_ne : OpR X (compareOp .NotEq) rNe := by
  intro pins s σ H x y v u Q I rx ry h
  obtain ⟨hs, q⟩ := h
  cases x with
  | non =>
    cases rx
    cases y with
    | non => cases ry; exact PySem.EqNone.ne_none_none (fin_bl I q (by simp))
    | bl j => cases ry; exact PySem.EqNone.ne_none_bool (fin_bl I q (by simp))
    | int j => obtain ⟨t', rfl⟩ := ry; exact PySem.EqNone.ne_none_int (fin_bl I q (by simp))
    | str j => obtain ⟨t', rfl⟩ := ry; exact PySem.EqNone.ne_none_str (fin_bl I q (by simp))
    | _ => exact absurd (show false = true from hs) Bool.false_ne_true
  | bl i =>
    cases rx
    cases y with
    | non => cases ry; exact PySem.EqNone.ne_bool_none (fin_bl I q (by simp))
    | bl j => cases ry; exact ne_bool (fin_bl I q (congrArg not dec_bl))
    | str j => obtain ⟨t', rfl⟩ := ry; exact PySem.EqMixed.ne_bool_str (fin_bl I q (by simp))
    | _ => exact absurd (show false = true from hs) Bool.false_ne_true
  | int i =>
    obtain ⟨t, rfl⟩ := rx
    cases y with
    | non => cases ry; exact PySem.EqNone.ne_int_none (fin_bl I q (by simp))
    | int j => obtain ⟨t', rfl⟩ := ry; exact ne_int (fin_bl I q (congrArg not dec_int))
    | str j => obtain ⟨t', rfl⟩ := ry; exact PySem.EqMixed.ne_int_str (fin_bl I q (by simp))
    | _ => exact absurd (show false = true from hs) Bool.false_ne_true
  | str i =>
    obtain ⟨t, rfl⟩ := rx
    cases y with
    | non => cases ry; exact PySem.EqNone.ne_str_none (fin_bl I q (by simp))
    | bl j => cases ry; exact PySem.EqMixed.ne_str_bool (fin_bl I q (by simp))
    | int j => obtain ⟨t', rfl⟩ := ry; exact PySem.EqMixed.ne_str_int (fin_bl I q (by simp))
    | str j => obtain ⟨t', rfl⟩ := ry; exact ne_str (fin_bl I q (congrArg not dec_str))
    | _ => exact absurd (show false = true from hs) Bool.false_ne_true
  | byt i =>
    obtain ⟨t, rfl⟩ := rx
    cases y with
    | byt j => obtain ⟨t', rfl⟩ := ry; exact PySem.W.ne_bytes (fin_bl I q (congrArg not dec_byt))
    | _ => exact absurd (show false = true from hs) Bool.false_ne_true
  | _ => cases y <;> exact absurd (show false = true from hs) Bool.false_ne_true
theorem op_lt : OpR X (compareOp .Lt) (rI0 fun i j => .bl (decide (i < j))) := opB0 fun _ _ _ _ _ _ _ q => lt_int q
theorem op_gt : OpR X (compareOp .Gt) (rI0 fun i j => .bl (decide (j < i))) := opB0 fun _ _ _ _ _ _ _ q => gt_int q
theorem op_isN : OpR X (compareOp .Is) (fun x y H Q => y = .non ∧ Q (.bl (decide (x = .non))) H) := by
  intro pins s σ H x y v u Q I rx ry h
  obtain ⟨rfl, q⟩ := h
  cases ry
  refine is_none_gen (fin_bl I q ?_)
  cases x <;> first
    | (cases rx; rfl)
    | (obtain ⟨t, rfl⟩ := rx; rfl)
theorem op_notN : OpR X (compareOp .IsNot) (fun x y H Q => y = .non ∧ Q (.bl (!decide (x = .non))) H) := by
  intro pins s σ H x y v u Q I rx ry h
  obtain ⟨rfl, q⟩ := h
  cases ry
  refine isnot_none_gen (fin_bl I q ?_)
  cases x <;> first
    | (cases rx; rfl)
    | (obtain ⟨t, rfl⟩ := rx; rfl)
theorem nomark (b : Expr) {op : CmpOp} (h : op ≠ .In := by decide) (h2 : op ≠ .NotIn := by decide) : behindInMarks op b = false := by
  have e1 : (op == CmpOp.In) = false := by cases op <;> first | rfl | exact absurd rfl h
  have e2 : (op == CmpOp.NotIn) = false := by cases op <;> first | rfl | exact absurd rfl h2
  cases b <;> simp [behindInMarks, e1, e2]
theorem pe_cmpR {op : CmpOp} {r : R2} (ho : OpR X (compareOp op) r) (ha : PE X a ta) (hb : PE X b tb) (hm : behindInMarks op b = false) : PE X (.Compare a [op] [b] pos) (tOp r ta tb) := by
  intro pins s σ H Q I h
  exact wpAny_Compare1 (binT ha hb I h fun v u s2 x y H2 I2 rx ry q => ho pins s2 σ H2 x y v u Q I2 rx ry q) hm
def tTest (t : TE) : TT := fun σ H Q => t σ H fun x H' => ∃ k, x = .bl k ∧ Q k H'
theorem pt_cmpR {op : CmpOp} {r : R2} (ho : OpR X (compareOp op) r) (ha : PE X a ta) (hb : PE X b tb) (hm : behindInMarks op b = false) : PT X (.Compare a [op] [b] pos) (tTest (tOp r ta tb)) := by
  intro pins s σ H Q I h
  refine wpAny_isTrue_Compare1 (thn (ha pins s σ H _ I h) fun v s1 ⟨x, H1, I1, r1, q1⟩ => thn (hb pins s1 σ H1 _ I1 q1) fun u s2 ⟨y, H2, I2, r2, q2⟩ =>
    thn (ho pins s2 σ H2 x y v u _ I2 r1 r2 q2) fun c s3 ⟨z, H3, I3, r3, k, e, q3⟩ => ?_) hm
  subst e
  cases r3
  exact wpAny_truthy_bool ⟨H3, I3, q3⟩
theorem line63 : (sizeLine : Nat) < 2 ^ 63 := by rw [sizeLine_eq]; decide
theorem vals1 {x : V} {us : List Value} (r : Vals [x] us) : ∃ u, us = [u] ∧ RelV x u := by
  cases r with
  | cons r1 r2 => cases r2; exact ⟨_, rfl, r1⟩
theorem vals2 {x y : V} {us : List Value} (r : Vals [x, y] us) : ∃ u w', us = [u, w'] ∧ RelV x u ∧ RelV y w' := by
  cases r with
  | cons r1 r2 =>
    cases r2 with
    | cons r3 r4 => cases r4; exact ⟨_, _, rfl, r1, r3⟩
def LenV (K : PySem.W.Frag) (x : V) (H : Hp) (n : Nat) : Prop :=
  match x with
  | .str y => y.length ≤ sizeLine ∧ n = y.length
  | .byt y => y.size ≤ sizeLine ∧ n = y.size
  | .ref p => (∃ xs, SqL K H p xs ∧ n = xs.length) ∨ ∃ xs, SqT K H p xs ∧ n = xs.length
  | _ => False
theorem call_len : CallR X (.builtin "len") (fun xs H Q => ∃ x n, xs = [x] ∧ LenV X.K x H n ∧ Q (.int n) H) := by
  intro pins s σ H xs us Q I r h
  obtain ⟨x, n, rfl, e, q⟩ := h
  obtain ⟨u, rfl, rx⟩ := vals1 r
  have hl := line63
  have hs : sizeLine = 16777216 := sizeLine_eq
  cases x with
  | str y =>
    obtain ⟨t, rfl⟩ := rx
    obtain ⟨hy, e'⟩ : y.length ≤ sizeLine ∧ n = y.length := e
    subst e'
    exact len_str (by omega) ⟨.int _, H, I.tok _, ⟨_, rfl⟩, q⟩
  | byt y =>
    obtain ⟨t, rfl⟩ := rx
    obtain ⟨hy, e'⟩ : y.size ≤ sizeLine ∧ n = y.size := e
    subst e'
    exact PySem.W.len_bytes (by omega) ⟨.int _, H, I.tok _, ⟨_, rfl⟩, q⟩
  | ref p =>
    cases rx
    have e' : (∃ xs, SqL X.K H p xs ∧ n = xs.length) ∨ ∃ xs, SqT X.K H p xs ∧ n = xs.length := e
    rcases e' with ⟨xs, hx, e'⟩ | ⟨xs, hx, e'⟩
    · subst e'
      obtain ⟨its, r', pl, hz⟩ := I.list hx
      have hlen := r'.length
      exact Calls.call_len_list pl.isList (by simp only [List.size_toArray]; omega) ⟨.int xs.length, H, I.tok _, ⟨_, by simp only [List.size_toArray]; rw [hlen]⟩, q⟩
    · subst e'
      obtain ⟨its, r', pl, hz⟩ := I.tuple hx
      have hlen := r'.length
      exact len_tuple pl (by simp only [List.size_toArray]; omega) ⟨.int xs.length, H, I.tok _, ⟨_, by simp only [List.size_toArray]; rw [hlen]⟩, q⟩
  | _ => exact (show False from e).elim
end
end L2
namespace L2
open PySem PySem.Spec PyProof.Rows
structure ObjM (h : Heap) (x dx C : Addr) (mA : Str → Option Value) : Prop where
  obj : h.get? x = some (PySem.W.instObj C dx)
  ns : h.Ns1 dx mA
  ne : dx ≠ x
theorem lookIn_ns {h : Heap} {dx : Addr} {mA : Str → Option Value} (n : h.Ns1 dx mA) : ∃ od, h.get? dx = some od ∧ ∀ name, PySem.W.lookIn name od = some (mA name) := by
  obtain ⟨o, es, ep, ho, hd, hk, _, hm⟩ := n
  refine ⟨o, ho, fun name => ?_⟩
  have e := hm name
  unfold nsFind findBy at e
  rw [← Array.find?_toList] at e
  unfold PySem.W.lookIn
  rw [hd]
  dsimp only
  split
  · rename_i y q
    rw [q] at e
    exact congrArg some e
  · rename_i q
    rw [q] at e
    have a : es.toList.any (·.refKey) = false := by
      rw [List.any_eq_false]
      intro y hy
      obtain ⟨z, t, hkey⟩ := hk y (Array.mem_toList_iff.mp hy)
      simp [DictEntry.refKey, hkey]
    have a' : ¬ es.toList.any (·.refKey) = true := by rw [a]; exact Bool.false_ne_true
    rw [if_neg a']
    exact congrArg some e
theorem ObjM.look {h : Heap} {x dx C : Addr} {mA : Str → Option Value} (I : ObjM h x dx C mA) : ∃ od, PySem.W.InstAt h x (PySem.W.instObj C dx) C (some od) ∧ ∀ name, PySem.W.lookIn name od = some (mA name) :=
  let ⟨od, ho, hl⟩ := lookIn_ns I.ns
  ⟨od, ⟨I.obj, rfl, rfl, ho⟩, hl⟩
section
variable {prog : Program} {w : World} {A : Around} {E : Value → Shared → Prop} {s : Shared} {K : PySem.W.Frag} {x dx C f : Addr} {mA : Str → Option Value} {name : Str} {v : Value}
end
theorem RelO.some_of {v : V} {o : Option Value} (r : RelO (some v) o) : ∃ u, o = some u ∧ RelV v u := by
  cases o with
  | none => exact (show False from r).elim
  | some u => exact ⟨u, rfl, r⟩
theorem RelO.none_of {o : Option Value} (r : RelO none o) : o = none := by
  cases o with
  | none => rfl
  | some u => exact (show False from r).elim
section
variable {P : Program} {w : World} {H H' : Hp} {h h' : Heap} {a C dx : Addr} {fs fs' : List (Str × V)}
theorem ins_get (hok : HOk P w H h) (e : H a = some (.ins C dx fs)) : ∃ mA, ObjM h a dx C mA ∧ (∀ f, RelO (fs.lookup f) (mA f)) ∧ PySem.Within mA (fs.map (·.1)) ∧ fs.length ≤ 1000 ∧ H dx = some (.own a) := by
  obtain ⟨d, z, ne, ob, mA, n, r, q⟩ := (show ObjOk P w H h a (.ins C dx fs) from hok a _ e)
  exact ⟨mA, ⟨ob, n, ne⟩, r, q, z, d⟩
end
structure Cls (K : PySem.W.Frag) (C : Addr) : Prop where
  pg : PySem.W.plainGet K C Str.empty = true
  hd : PySem.W.hasDictIn K C = true
  po : PySem.W.plainOver K C = true
  sa : PySem.W.findIn K (.ref C) "__setattr__" = some (some (.builtin "object.__setattr__"))
theorem Cls.get {K : PySem.W.Frag} {C : Addr} (c : Cls K C) (f : Str) : PySem.W.plainGet K C f = true := c.pg
structure Con (K : PySem.W.Frag) (C : Addr) (f : Str) (v : V) (u : Value) : Prop where
  at_ : PySem.W.findIn K (.ref C) f = some (some u)
  rel : RelV v u
  get : PySem.W.specialIn K u "__get__" = some none
  cp : PySem.W.copiedNames.contains f = false
structure Meth (K : PySem.W.Frag) (C : Addr) (m : Str) (f : Addr) : Prop where
  at_ : PySem.W.findIn K (.ref C) m = some (some (.ref f))
  fn : PySem.W.isFn K (.ref f) = true
  kp : PySem.W.keepIn K (.ref f) = true
section
variable {X : Cx} {pins : List (Addr × Obj)} {σ : St} {H : Hp} {s : Shared} {a C dx : Addr} {fs : List (Str × V)} {f : Str} {v : V} {A : Around} {E : Value → Shared → Prop}
theorem Inv.made (I : Inv X pins σ H s) : Inv X pins σ (upd (upd H s.heap.objs.size (.own (s.heap.objs.size + 1))) (s.heap.objs.size + 1) (.ins C s.heap.objs.size []))
    { s with heap := (s.heap.push PySem.W.emptyDict).push (PySem.W.instObj C s.heap.objs.size) } := by
  have e1 : (s.heap.push PySem.W.emptyDict).get? s.heap.objs.size = some PySem.W.emptyDict := Heap.get?_push_size s.heap rfl
  have e2 : ((s.heap.push PySem.W.emptyDict).push (PySem.W.instObj C s.heap.objs.size)).get? (s.heap.objs.size + 1) = some (PySem.W.instObj C s.heap.objs.size) := by
    have := Heap.get?_push_size (s.heap.push PySem.W.emptyDict) (o := PySem.W.instObj C s.heap.objs.size) rfl
    rwa [Heap.size_push] at this
  have e3 : (s.heap.push PySem.W.emptyDict).Ns s.heap.objs.size (fun _ => none) := ⟨PySem.W.emptyDict, #[], _, e1, rfl, (fun e he => absurd he (by simp)), fun _ => rfl⟩
  have I1 := I.laid (a := s.heap.objs.size) (o := .own (s.heap.objs.size + 1)) (h' := s.heap.push PySem.W.emptyDict) (t' := s.toks) (fun b u q => Heap.get?_push_of_some _ q) (Nat.le_refl _) ⟨_, e1⟩
  refine I1.laid (a := s.heap.objs.size + 1) (o := .ins C s.heap.objs.size []) (t' := s.toks) (fun b u q => Heap.get?_push_of_some _ q) (Nat.le_of_eq (Heap.size_push _ _)) ?_
  have ne : s.heap.objs.size ≠ s.heap.objs.size + 1 := Nat.ne_of_lt (Nat.lt_succ_self _)
  refine ⟨by rw [upd_ne ne, upd_same], Nat.zero_le _, ne, e2, fun _ => none, (Heap.Ns1.of_empty e3).at fun o q => Heap.get?_push_of_some _ q, fun _ => True.intro, fun y hy => absurd rfl hy⟩
end
section
variable {X : Cx} {o e value : Expr} {f : Str} {pos pos' tpos : Pos} {ta tv : TE}
end
section
variable {X : Cx} {pins : List (Addr × Obj)} {σ : St} {H : Hp} {s : Shared} {A : Around} {E : Value → Shared → Prop} {Q : Value → Shared → Prop} {c : Value} {b : Bool}
inductive TyOf (K : PySem.W.Frag) (H : Hp) : V → Value → Prop where
  | non : TyOf K H .non (.type "NoneType")
  | bl (x : Bool) : TyOf K H (.bl x) (.type "bool")
  | int (i : Int) : TyOf K H (.int i) (.type "int")
  | str (x : Str) : TyOf K H (.str x) (.type "str")
  | flt (x : UInt64) : TyOf K H (.flt x) (.type "float")
  | lst {a : Addr} {xs : List V} (e : H a = some (.lst xs)) : TyOf K H (.ref a) (.type "list")
  | frz {a : Addr} {o : Obj} {xs : List V} (e : H a = some (.frz o (.lst xs))) : TyOf K H (.ref a) (.type "list")
  | tup {a : Addr} {xs : List V} (e : H a = some (.tup xs)) : TyOf K H (.ref a) (.type "tuple")
  | dK {a : Addr} {kvs : List (Key × V)} (e : H a = some (.dK kvs)) : TyOf K H (.ref a) (.type "dict")
  | dT {a : Addr} {kvs : List (List Key × V)} (e : H a = some (.dT kvs)) : TyOf K H (.ref a) (.type "dict")
  | ins {a C dx : Addr} {fs : List (Str × V)} (e : H a = some (.ins C dx fs)) (cl : Cls K C) (ha : PySem.W.findIn K (.ref C) "__class__" = some (some (.builtin "object.__class__")))
      (hn : PySem.W.specialIn K (.builtin "object.__class__") "__get__" = some (some (.builtin "getset_descriptor.__get__"))) (htk : PySem.W.takesIn K (.builtin "object.__class__") = some true)
      (hm : PySem.W.mroIn K C (.type "object") = some true) : TyOf K H (.ref a) (.ref C)
theorem isinst_ok {x : V} {u t : Value} (I : Inv X pins σ H s) (rx : RelV x u) (ty : TyOf X.K H x t) (e : PySem.W.kitOne X.K t c = some b) (h : ∀ tk, Q (.bool b) { s with toks := tk }) :
    wpAny (model X.prog X.w) A (call (.builtin "isinstance") [u, c]) Q E s := by
  cases ty with
  | non => cases (show u = Value.none from rx); exact PySem.W.kia_one PySem.W.kitx_none I.kIn True.intro e (fun z => nomatch z) h
  | bl y => cases (show u = Value.bool y from rx); exact PySem.W.kia_one PySem.W.kitx_bool I.kIn True.intro e (fun z => nomatch z) h
  | int i => obtain ⟨t, q⟩ := (show ∃ t, u = Value.int i t from rx); cases q; exact PySem.W.kia_one PySem.W.kitx_int I.kIn True.intro e (fun z => nomatch z) h
  | str y => obtain ⟨t, q⟩ := (show ∃ t, u = Value.str y t from rx); cases q; exact PySem.W.kia_one PySem.W.kitx_str I.kIn True.intro e (fun z => nomatch z) h
  | flt y => obtain ⟨t, q⟩ := (show ∃ t, u = Value.float y t from rx); cases q; exact PySem.W.kia_one PySem.W.kitx_float I.kIn True.intro e (fun z => nomatch z) h
  | @lst a xs ea =>
    cases (show u = Value.ref a from rx)
    obtain ⟨_, _, n, _, h1⟩ := (show ObjOk X.prog X.w H s.heap a (.lst xs) from I.hok a _ ea)
    exact PySem.W.kia_one PySem.W.kitx_list I.kIn ⟨_, h1, rfl⟩ e (fun z => nomatch z) h
  | @frz a ob xs ea =>
    cases (show u = Value.ref a from rx)
    obtain ⟨_, _, _, n, _, h1⟩ := (show ObjOk X.prog X.w H s.heap a (.frz ob (.lst xs)) from I.hok a _ ea)
    exact PySem.W.kia_one PySem.W.kitx_list I.kIn ⟨_, h1, rfl⟩ e (fun z => nomatch z) h
  | @tup a xs ea =>
    cases (show u = Value.ref a from rx)
    obtain ⟨_, _, _, p⟩ := (show ObjOk X.prog X.w H s.heap a (.tup xs) from I.hok a _ ea)
    obtain ⟨o, h1, h2, _⟩ := p
    exact PySem.W.kia_one PySem.W.kitx_tuple I.kIn ⟨o, h1, h2⟩ e (fun z => nomatch z) h
  | @dK a kvs ea =>
    cases (show u = Value.ref a from rx)
    obtain ⟨_, _, vs, _, p⟩ := (show ObjOk X.prog X.w H s.heap a (.dK kvs) from I.hok a _ ea)
    obtain ⟨o, es, ep, h1, h2, _⟩ := p
    exact PySem.W.kia_one PySem.W.kitx_dict I.kIn ⟨o, h1, h2.1⟩ e (fun z => nomatch z) h
  | @dT a kvs ea =>
    cases (show u = Value.ref a from rx)
    obtain ⟨_, _, xs, _, o, es, ep, h1, h2, _⟩ := (show ObjOk X.prog X.w H s.heap a (.dT kvs) from I.hok a _ ea)
    exact PySem.W.kia_one PySem.W.kitx_dict I.kIn ⟨o, h1, h2.1⟩ e (fun z => nomatch z) h
  | @ins a C dx fs ea cl ha hn htk hm =>
    cases (show u = Value.ref a from rx)
    obtain ⟨mA, O, _⟩ := ins_get I.hok ea
    obtain ⟨od, J, _⟩ := O.look
    exact PySem.W.kia_one (PySem.W.kitx_own (cl.get _) cl.hd ha hn htk hm) I.kIn J e (fun z => nomatch z) h
end
end L2
namespace L2
open PySem PySem.Spec PyProof.Rows
structure Room (k : Nat) (A : Around) : Prop where
  hd : A.handled = none
  dp : A.depth + 3 * k + 5 < recursionLimit
  un : A.units + 16 * k + 200 < cLine
  gd : A.guards = some []
theorem Room.mono {j k : Nat} {A : Around} (r : Room k A) (h : j ≤ k) : Room j A := ⟨r.hd, by have := r.dp; omega, by have := r.un; omega, r.gd⟩
theorem Room.deeper {k : Nat} {A : Around} (r : Room (k + 1) A) (env : Env) : Room k (A.deeper env) :=
  ⟨r.hd, by have := r.dp; show A.depth + 1 + 3 * k + 5 < _; omega, by have := r.un; show A.units + 3 + 16 * k + 200 < _; omega, r.gd⟩
theorem Room.in1 {k : Nat} {A : Around} (r : Room (k + 1) A) : Room k A.in1 :=
  ⟨r.hd, by have := r.dp; show A.depth + 3 * k + 5 < _; omega, by have := r.un; show A.units + 1 + 16 * k + 200 < _; omega, r.gd⟩
theorem Room.depth {k : Nat} {A : Around} (r : Room k A) : A.depth < recursionLimit := by have := r.dp; omega
theorem Room.units {k : Nat} {A : Around} (r : Room k A) : A.units + 64 < cLine := by have := r.un; omega
def tNil : TA := fun _ H Q => Q [] H
def tCons (ta : TE) (tr : TA) : TA := fun σ H Q => ta σ H fun x H1 => tr σ H1 fun xs H2 => Q (x :: xs) H2
section
variable {X : Cx} {e : Expr} {es : List Expr} {te : TE} {t : TA} {pos : Pos}
theorem pa_nil : PA X [] tNil := fun _ _ _ _ H Q I h => Calls.spliced_nil ⟨[], H, I, .nil, h⟩
theorem pa_cons (ha : PE X e te) (hr : PA X es t) (hs : starEach (e :: es) X.env = (false, eval e X.env) :: starEach es X.env := by rfl) : PA X (e :: es) (tCons te t) := by
  intro pos pins s σ H Q I h
  rw [hs]
  show wpAny _ _ (spliced ((false, eval e X.env) :: backTo pos (starEach es X.env))) _ _ s
  refine Calls.spliced_cons (thn (ha pins s σ H _ I h) fun u s1 ⟨x, H1, I1, r1, q1⟩ => ?_)
  exact thn (hr pos pins s1 σ H1 _ I1 q1) fun us s2 ⟨xs, H2, I2, r2, q2⟩ => ⟨x :: xs, H2, I2, .cons r1 r2, q2⟩
def tTup (t : TA) : TE := fun σ H Q => t σ H fun xs H1 => xs.length ≤ sizeLine ∧ ∀ p, H1 p = none → Q (.ref p) (upd H1 p (.tup xs))
def tLst (t : TA) : TE := fun σ H Q => t σ H fun xs H1 => xs.length ≤ sizeLine ∧ ∀ p, H1 p = none → Q (.ref p) (upd H1 p (.lst xs))
theorem pe_tup {x1} (h : PA X es t) : PE X (.Tuple es x1 pos) (tTup t) := by
  intro pins s σ H Q I hq
  refine wpAny_Tuple_spliced (thn (h pos pins s σ H _ I hq) fun us s1 ⟨xs, H1, I1, r, z, q⟩ => ⟨by rw [← r.length]; exact z, ?_⟩)
  have hf : H1 s1.heap.objs.size = none := I1.hok.fresh (Nat.le_refl _)
  refine ⟨.ref s1.heap.objs.size, upd H1 s1.heap.objs.size (.tup xs), I1.laid (t' := s1.toks) (fun b u e => Heap.get?_push_of_some _ e) (Nat.le_refl _) ?_, rfl, q _ hf⟩
  exact ⟨z, us, r, ⟨_, Heap.get?_push_size _ rfl, rfl, _, rfl⟩⟩
theorem pe_lst (h : PA X es t) : PE X (.List es pos) (tLst t) := by
  intro pins s σ H Q I hq
  refine wpAny_List_spliced (thn (h pos pins s σ H _ I hq) fun us s1 ⟨xs, H1, I1, r, z, q⟩ => ⟨by rw [← r.length]; exact z, ?_⟩)
  have hf : H1 s1.heap.objs.size = none := I1.hok.fresh (Nat.le_refl _)
  refine ⟨.ref s1.heap.objs.size, upd H1 s1.heap.objs.size (.lst xs), I1.laid (t' := s1.toks) (fun b u e => Heap.get?_push_of_some _ e) (Nat.le_refl _) ?_, rfl, q _ hf⟩
  exact ⟨z, us, 0, r, Heap.get?_push_size _ rfl⟩
end
abbrev Sp := List V → Hp → VK → XK → Prop
abbrev CXT := List Env → Hp → Shared → XK → Value → Shared → Prop
structure Env0 (P : Program) (w : World) (K : PySem.W.Frag) (mg : Str → Option Value) (base : Heap) (A : Around) (outer : List Env) (s : Shared) (H : Hp) : Prop where
  frames : A.frames = some outer
  mod : Mod K mg base
  bs : ∀ b o, base.get? b = some o → s.heap.get? b = some o ∧ H b = none
  bsz : base.objs.size ≤ s.heap.objs.size
  funs : s.heap.FunFrames base outer
  frf : ∀ b ∈ frs outer, H b = none
  hok : HOk P w H s.heap
  bare : AllBare s.gens
def CE (outer : List Env) (P : Program) (w : World) (H : Hp) (s : Shared) (Q : VK) (u : Value) (s' : Shared) : Prop :=
  ∃ v H', s'.os = s.os ∧ AllBare s'.gens ∧ Un (frs outer) [] H H' s.heap s'.heap ∧ HOk P w H' s'.heap ∧ RelV v u ∧ Q v H'
def CR (CX : CXT) (outer : List Env) (P : Program) (w : World) (H : Hp) (s : Shared) (Q : VK) (E : XK) (r : Result) (s' : Shared) : Prop :=
  match r with
  | .ok (.ret u) => CE outer P w H s Q u s'
  | .ok _ => False
  | .error e => CX outer H s E e s'
structure FnOk (P : Program) (w : World) (K : PySem.W.Frag) (mg : Str → Option Value) (base : Heap) (CX : CXT) (k : Nat) (f : Addr) (fd : FuncData) (ps : List Str) (sp : Sp) : Prop where
  len : ∀ vs H Q E, sp vs H Q E → vs.length = ps.length
  run : ∀ (A : Around) (outer : List Env) (s : Shared) (H : Hp) (args : Args) (us : List Value) (vs : List V) (Q : VK) (E : XK), Room k A → Env0 P w K mg base A outer s H → BindsTo s fd args (ps.zip us) → Vals vs us → sp vs H Q E →
    codeAny (model P w) A (.call (.ref f) args) (CR CX outer P w H s Q E) s
theorem FnOk.mono {P : Program} {w : World} {K : PySem.W.Frag} {mg : Str → Option Value} {base : Heap} {CX : CXT} {j k : Nat} {f : Addr} {fd : FuncData} {ps : List Str} {sp : Sp} (F : FnOk P w K mg base CX j f fd ps sp) (h : j ≤ k) :
    FnOk P w K mg base CX k f fd ps sp := ⟨F.len, fun A outer s H args us vs Q E hr => F.run A outer s H args us vs Q E (hr.mono h)⟩
theorem FnOk.imp {P : Program} {w : World} {K : PySem.W.Frag} {mg : Str → Option Value} {base : Heap} {CX : CXT} {k : Nat} {f : Addr} {fd : FuncData} {ps : List Str} {sp sp' : Sp} (F : FnOk P w K mg base CX k f fd ps sp)
    (h : ∀ vs H Q E, sp' vs H Q E → sp vs H Q E) : FnOk P w K mg base CX k f fd ps sp' :=
  ⟨fun vs H Q E q => F.len vs H Q E (h _ _ _ _ q), fun A outer s H args us vs Q E hr he hb hv hs => F.run A outer s H args us vs Q E hr he hb hv (h _ _ _ _ hs)⟩
theorem Env0.in1 {P : Program} {w : World} {K : PySem.W.Frag} {mg : Str → Option Value} {base : Heap} {A : Around} {outer : List Env} {s : Shared} {H : Hp} (e : Env0 P w K mg base A outer s H) :
    Env0 P w K mg base A.in1 outer s H := ⟨e.frames, e.mod, e.bs, e.bsz, e.funs, e.frf, e.hok, e.bare⟩
section
variable {X : Cx} {pins : List (Addr × Obj)} {σ : St} {H : Hp} {s s' : Shared}
theorem Inv.env0 (I : Inv X pins σ H s) : Env0 X.prog X.w X.K X.mg X.base X.A X.stack s H :=
  ⟨I.ok.frames, I.ok.mod, I.bs, Nat.le_trans I.ok.bsz I.sz, I.stack, I.stkFree, I.hok, I.bare⟩
theorem Inv.after {Q : VK} {u : Value} (I : Inv X pins σ H s) (h : CE X.stack X.prog X.w H s Q u s') : EP X pins σ Q u s' := by
  obtain ⟨v, H', os, bare, un, hok, r, q⟩ := h
  obtain ⟨hh, g, d, t, os'⟩ := s'
  obtain rfl : os' = s.os := os
  exact ⟨v, H', I.call (h' := hh) (g' := g) (d' := d) (t' := t) (ch := []) un hok bare (fun b z => absurd z (by simp)), r, q⟩
end
def tCall (sp : Sp) (dvs : List V) (E : XK) (t : TA) : TE := fun σ H Q => t σ H fun vs H1 => sp (vs ++ dvs) H1 Q E
def Binds (K : PySem.W.Frag) (fd : FuncData) (ps : List Str) (ds : List Value) : Prop :=
  ∀ (s : Shared) (us : List Value), K.In s.heap → (us ++ ds).length = ps.length → BindsTo s fd ⟨us, []⟩ (ps.zip (us ++ ds))
theorem Binds.all {K : PySem.W.Frag} {fd : FuncData} {ps : List Str} (h : ∀ us : List Value, us.length = ps.length → bindArgs fd ⟨us, []⟩ = pure (ps.zip us)) : Binds K fd ps [] := fun s us _ hl => by
  rw [List.append_nil] at hl ⊢
  exact .of_eq (h us hl)
def Passes (CX : CXT) (X : Cx) (E : XK) : Prop := ∀ (pins : List (Addr × Obj)) (σ : St) (H : Hp) (s : Shared) (e : Value) (s' : Shared), Inv X pins σ H s → CX X.stack H s E e s' → X.xe e s'
section
variable {X : Cx} {CX : CXT} {k : Nat} {f C : Addr} {fd : FuncData} {ps : List Str} {sp : Sp} {dvs : List V} {ds : List Value} {E : XK} {x m : Str} {p pos apos : Pos} {e o : Expr} {es : List Expr} {ta : TE} {t : TA}
theorem run_fn {pins : List (Addr × Obj)} {σ : St} {H : Hp} {s : Shared} {Q : VK} {us : List Value} {vs : List V} (F : FnOk X.prog X.w X.K X.mg X.base CX k f fd ps sp) (hr : Room k X.A) (hb : Binds X.K fd ps ds) (hd : Vals dvs ds) (hx : Passes CX X E)
    (I : Inv X pins σ H s) (r : Vals vs us) (h : sp (vs ++ dvs) H Q E) : wpAny (model X.prog X.w) X.A (call (.ref f) us) (EP X pins σ Q) X.xe s := by
  have r2 : Vals (vs ++ dvs) (us ++ ds) := r.append hd
  have hl : (us ++ ds).length = ps.length := by rw [← r2.length]; exact F.len _ _ _ _ h
  refine wpAny_call (codeAny_mono (F.run X.A X.stack s H ⟨us, []⟩ (us ++ ds) (vs ++ dvs) Q E hr I.env0 (hb s us I.kIn hl) r2 h) fun r s' hq => ?_)
  cases r with
  | error e => exact hx pins σ H s e s' I hq
  | ok fl =>
    cases fl with
    | ret u => exact I.after hq
    | next => exact False.elim hq
    | brk => exact False.elim hq
    | cont => exact False.elim hq
theorem pe_call (F : FnOk X.prog X.w X.K X.mg X.base CX k f fd ps sp) (hr : Room k X.A) (hg : Gl X x) (hm : X.mg x = some (.ref f)) (hk : PySem.W.keepIn X.K (.ref f) = true) (hb : Binds X.K fd ps ds) (hd : Vals dvs ds) (hx : Passes CX X E)
    (ha : PA X (e :: es) t) (hdb : (x == ("__debug__" : Str)) = false := by decide) (he : starEach (e :: es) X.env = (false, eval e X.env) :: starEach es X.env := by rfl) (hpl : (backTo pos (starEach es X.env)).any (·.1) = false := by rfl) :
    PE X (.Call (.Name x p) (e :: es) [] pos) (tCall sp dvs E t) := by
  intro pins s σ H Q I h
  refine wpAny_Call_Name_kw (ld_glob I hg hm ?_ hdb)
  refine PySem.W.callWith_K (h₀ := X.base) I.ok.mod.kin hk (thn (ha pos pins s σ H _ I h) fun us s1 ⟨vs, H1, I1, r, q⟩ => ⟨I1.kIn, ?_⟩) he hpl
  exact run_fn F hr hb hd hx I1 r q
structure Mk (K : PySem.W.Frag) (C f : Addr) : Prop where
  makes : PySem.W.makesIn K C = true
  init : PySem.W.findIn K (.ref C) "__init__" = some (some (.ref f))
  fn : PySem.W.isFn K (.ref f) = true
  kp : PySem.W.keepIn K (.ref C) = true
end
section
variable {X : Cx} {CX : CXT} {k : Nat} {f C : Addr} {fd : FuncData} {ps ks : List Str} {sp : Sp} {E : XK} {x m : Str} {p pos apos kpos : Pos} {e o : Expr} {es : List Expr} {kws : List Keyword} {te ta : TE} {t tk : TA} {nm : Option Str}
structure KBinds (K : PySem.W.Frag) (fd : FuncData) (ps ks : List Str) (g : List Value → List Value → List Value) (gV : List V → List V → List V) : Prop where
  to : ∀ (s : Shared) (us ws : List Value), K.In s.heap → (g us ws).length = ps.length → BindsTo s fd ⟨us, ks.zip ws⟩ (ps.zip (g us ws))
  rel : ∀ {vs : List V} {us : List Value} {zs : List V} {ws : List Value}, Vals vs us → Vals zs ws → Vals (gV vs zs) (g us ws)
variable {g : List Value → List Value → List Value} {gV : List V → List V → List V}
end
structure FnScope (N P : List Str) (sc : Scope) : Prop where
  kind : sc.kind = .function
  co : sc.isCoroutine = false
  gen : sc.isGenerator = false
  nd : N.Nodup
  pre : N.take P.length = P
  par : ∀ x ∈ P, sc.names.lookup x = some .local ∨ sc.names.lookup x = some .cell
  nofree : ∀ y ∈ sc.names, y.2 ≠ .free
theorem bindL_out {kindOf : Str → Option NameKind} {x : Str} : ∀ {binds : List (Str × Value)} {m : Str → Option Value}, (∀ v, (x, v) ∉ binds) → bindL kindOf binds m x = m x
  | [], _, _ => rfl
  | (n, v) :: r, m, h => by
    unfold bindL
    rw [bindL_out fun w hw => h w (List.mem_cons_of_mem _ hw)]
    split
    · have : x ≠ n := by rintro rfl; exact h v List.mem_cons_self
      simp [this]
    · rfl
theorem bindC_out {kindOf : Str → Option NameKind} {x : Str} : ∀ {binds : List (Str × Value)} {m : Str → Option Value}, (∀ v, (x, v) ∉ binds) → bindC kindOf binds m x = m x
  | [], _, _ => rfl
  | (n, v) :: r, m, h => by
    unfold bindC
    rw [bindC_out fun w hw => h w (List.mem_cons_of_mem _ hw)]
    split
    · rfl
    · have : x ≠ n := by rintro rfl; exact h v List.mem_cons_self
      simp [this]
theorem bindL_get {kindOf : Str → Option NameKind} {x : Str} {v : Value} : ∀ {P : List Str} {vs : List Value} {i : Nat} {m : Str → Option Value}, P.Nodup → P[i]? = some x → vs[i]? = some v → kindOf x = some .local →
    bindL kindOf (P.zip vs) m x = some v
  | [], _, _, _, _, h, _, _ => by simp at h
  | _ :: _, [], _, _, _, _, h, _ => by simp at h
  | p :: P, w :: vs, 0, m, nd, h1, h2, hk => by
    simp at h1 h2; subst h1; subst h2
    show bindL kindOf ((p, w) :: P.zip vs) m p = _
    unfold bindL
    rw [bindL_out fun v hv => (List.nodup_cons.mp nd).1 (List.of_mem_zip hv).1, if_pos hk]
    simp
  | p :: P, w :: vs, i + 1, m, nd, h1, h2, hk => by
    show bindL kindOf ((p, w) :: P.zip vs) m x = _
    unfold bindL
    exact bindL_get (i := i) (List.nodup_cons.mp nd).2 (by simpa using h1) (by simpa using h2) hk
theorem bindC_get {kindOf : Str → Option NameKind} {x : Str} {v : Value} : ∀ {P : List Str} {vs : List Value} {i : Nat} {m : Str → Option Value}, P.Nodup → P[i]? = some x → vs[i]? = some v → kindOf x ≠ some .local →
    bindC kindOf (P.zip vs) m x = some v
  | [], _, _, _, _, h, _, _ => by simp at h
  | _ :: _, [], _, _, _, _, h, _ => by simp at h
  | p :: P, w :: vs, 0, m, nd, h1, h2, hk => by
    simp at h1 h2; subst h1; subst h2
    show bindC kindOf ((p, w) :: P.zip vs) m p = _
    unfold bindC
    rw [bindC_out fun v hv => (List.nodup_cons.mp nd).1 (List.of_mem_zip hv).1, if_neg hk]
    simp
  | p :: P, w :: vs, i + 1, m, nd, h1, h2, hk => by
    show bindC kindOf ((p, w) :: P.zip vs) m x = _
    unfold bindC
    exact bindC_get (i := i) (List.nodup_cons.mp nd).2 (by simpa using h1) (by simpa using h2) hk
def start (N : List Str) (vs : List V) : St := vs.map some ++ List.replicate (N.length - vs.length) none
def cxOf (CX : CXT) (P : Program) (w : World) (K : PySem.W.Frag) (mg : Str → Option Value) (base : Heap) (N : List Str) (qual : Str) (scope : Scope) (f : Addr) (cd : Value) (A : Around) (outer : List Env) (s : Shared) (H : Hp) (E : XK) : Cx where
  prog := P
  w := w
  K := K
  mg := mg
  base := base
  A := A.deeper (envOfC qual scope s.heap.objs.size f cd)
  N := N
  s₀ := s
  H₀ := H
  env := envOfC qual scope s.heap.objs.size f cd
  outer := outer
  stack := envOfC qual scope s.heap.objs.size f cd :: outer
  ex := []
  calm := true
  fn := fun _ => true
  pn := []
  xe := fun e s' => wpAny (model P w) (A.deeper (envOfC qual scope s.heap.objs.size f cd)) (leaving (envOfC qual scope s.heap.objs.size f cd) e) (fun _ s'' => CX outer H s E e s'') (fun e' s'' => CX outer H s E e' s'') s'
theorem cell_has {sc : Scope} {n : Nat} {x : Str} (h : sc.names.lookup x = some .cell) : ∃ c, (cellsFrom n sc.names []).lookup x = some c := by
  have q := PySem.W.cellsFrom_some sc.names n [] (.inl h)
  exact Option.isSome_iff_exists.mp q
theorem inv_start {CX : CXT} {P : Program} {w : World} {K : PySem.W.Frag} {mg : Str → Option Value} {base : Heap} {N ps : List Str} {qual : Str} {scope : Scope} {f : Addr} {cd : Value} {A : Around} {outer : List Env} {s s1 : Shared} {H : Hp} {E : XK} {us : List Value} {vs : List V}
    (S : FnScope N ps scope) (hd : A.handled = none) (e0 : Env0 P w K mg base A outer s H) (hl : vs.length = ps.length) (r : Vals vs us)
    (x : InCallC s s.heap.objs.size (bindL (envOfC qual scope s.heap.objs.size f cd).kindOf (ps.zip us) fun _ => none) (cellsFrom (s.heap.objs.size + 1) scope.names []) (bindC (envOfC qual scope s.heap.objs.size f cd).kindOf (ps.zip us) fun _ => none) s1) :
    Inv (cxOf CX P w K mg base N qual scope f cd A outer s H E) [] (start N vs) H s1 := by
  have hpl : ps.length ≤ N.length := by have := congrArg List.length S.pre; rw [List.length_take] at this; omega
  obtain ⟨h1, tk, rfl, hk⟩ := x.done
  have noA : ∀ b : Addr, b ∉ (cxOf CX P w K mg base N qual scope f cd A outer s H E).ex := fun b z => absurd (show b ∈ ([] : List Addr) from z) (by simp)
  refine ⟨⟨e0.mod, S.kind, rfl, rfl, Nat.le_refl _, fun y z c h1 h2 => ?_, fun y hy => ?_, fun y c _ h => ?_, fun _ => hd, Around.frames_deeper e0.frames, .inr ⟨rfl, rfl⟩, fun b z => absurd z (noA b), e0.bs, e0.bsz, fun b _ _ => noA b, fun b z => absurd z (noA b), e0.funs, e0.frf⟩,
    rfl, e0.bare, Un.kept hk, ⟨_, x.toInCall.ns, fun i y v h1 h2 h3 => ?_⟩, fun y c h => ⟨_, x.cell y c h⟩, e0.hok.fresh (Nat.le_refl _), fun y c h => ?_, fun p hp => absurd (show p ∈ ([] : List (Addr × Obj)) from hp) (by simp), e0.hok.kept hk, ?_⟩
  · exact name_of_addr x.apart (PySem.mem_of_lookup h1) (PySem.mem_of_lookup h2)
  · have hy : scope.names.lookup y = some .cell ∨ scope.names.lookup y = some .free := hy
    rcases hy with hy | hy
    · exact cell_has hy
    · exact absurd rfl (S.nofree _ (PySem.mem_of_lookup hy))
  · exact Nat.le_of_lt (x.above y c (PySem.mem_of_lookup h))
  · have hi : i < vs.length := by
      unfold start at h2
      by_cases hi : i < vs.length
      · exact hi
      · rw [List.getElem?_append_right (by simpa using hi)] at h2
        rw [List.getElem?_replicate] at h2
        split at h2 <;> cases h2
    have ha : vs[i]? = some v := by
      unfold start at h2
      rw [List.getElem?_append_left (by simpa using hi), List.getElem?_map] at h2
      cases e : vs[i]? with
      | none => rw [e] at h2; cases h2
      | some a => rw [e] at h2; cases h2; rfl
    obtain ⟨u, hu, rv⟩ := r.get ha
    have hp : ps[i]? = some y := by
      rw [← S.pre, List.getElem?_take_of_lt (by omega)]; exact h1
    have ndP : ps.Nodup := by rw [← S.pre]; exact S.nd.sublist (List.take_sublist _ _)
    refine ⟨u, rv, ?_⟩
    rcases S.par y (List.mem_of_getElem? hp) with k | k
    · exact .inl ⟨k, bindL_get ndP hp hu k⟩
    · obtain ⟨c, e⟩ := cell_has (n := s.heap.objs.size + 1) k
      refine .inr ⟨.inl k, c, e, ?_⟩
      have q := x.cell y c e
      rw [bindC_get ndP hp hu (by show scope.names.lookup y ≠ _; rw [k]; decide)] at q
      exact q
  · exact e0.hok.fresh (Nat.le_of_lt (x.above y c (PySem.mem_of_lookup h)))
  · unfold start
    show _ = N.length
    rw [List.length_append, List.length_map, List.length_replicate]
    omega
theorem fn_of {CX : CXT} {P : Program} {w : World} {K : PySem.W.Frag} {mg : Str → Option Value} {base : Heap} {k : Nat} {f : Addr} {name qual : Str} {params : Arguments} {body : List Stmt} {scope : Scope} {dV kV doc pm cdv ct oc : Value} {an od : Option Addr}
    {osl : Array (Option Value)} {N ps : List Str} {sp : Sp} (lk : K.lookup f = some ⟨oc, od, .func (PySem.W.fnOf name qual params body scope dV kV doc pm an cdv ct), osl⟩) (hcd : PySem.W.codeIn K cdv qual = true) (S : FnScope N ps scope)
    (len : ∀ vs H Q E, sp vs H Q E → vs.length = ps.length)
    (hbody : ∀ (A : Around) (outer : List Env) (s : Shared) (H : Hp) (vs : List V) (Q : VK) (E : XK), Room k (A.deeper (envOfC qual scope s.heap.objs.size f cdv)) → sp vs H Q E →
      ∃ t, PSs (cxOf CX P w K mg base N qual scope f cdv A outer s H E) body t ∧ t { nx := fun _ H' => Q .non H', rt := Q } (start N vs) H) :
    FnOk P w K mg base CX (k + 1) f (PySem.W.fnOf name qual params body scope dV kV doc pm an cdv ct) ps sp := by
  refine ⟨len, fun A outer s H args us vs Q E hr e0 hb r hsp => ?_⟩
  have hl := len _ _ _ _ hsp
  have KX : K.In s.heap := e0.mod.kin.keeps fun b o e => (e0.bs b o e).1
  have lim : s.heap.NoLimit := e0.mod.nolimit.keeps fun b o e => (e0.bs b o e).1
  have hkind : ∀ y ∈ ps.zip us, scope.names.lookup y.1 = some .local ∨ (scope.names.lookup y.1 = some .cell ∧ ((cellsFrom (s.heap.objs.size + 1) scope.names []).lookup y.1).isSome = true) := fun ⟨n, v⟩ hy => by
    rcases S.par n (List.of_mem_zip hy).1 with q | q
    · exact .inl q
    · exact .inr ⟨q, PySem.W.cellsFrom_some _ _ _ (.inl q)⟩
  refine codeAny_call_function hr.depth (KX _ _ lk) rfl S.co S.gen rfl (PySem.W.codeRec_of KX hcd) (hb _ _ _ _ ?_)
  refine wpAny_newFunctionEnv_cells S.kind hkind fun env he s1 x => ?_
  subst he
  refine ⟨lim.keeps x.toInCall.keep, codeAny_func ?_⟩
  obtain ⟨t, ht, hq⟩ := hbody A outer s H vs Q E (hr.deeper _) hsp
  have I : Inv (cxOf CX P w K mg base N qual scope f cdv A outer s H E) [] (start N vs) H s1 := inv_start S hr.hd e0 hl r x
  refine wpAny_mono (ht [] s1 (start N vs) H _ I hq) (fun fl s' hs => ?_) fun e s' hs => hs
  have fin : ∀ {σ' : St} {H' : Hp} {v : V} {u : Value}, Inv (cxOf CX P w K mg base N qual scope f cdv A outer s H E) [] σ' H' s' → RelV v u → Q v H' → CE outer P w H s Q u s' :=
    fun {σ' H' v u} J rv q => ⟨v, H', J.os, J.bare, J.base, J.hok, rv, q⟩
  cases fl with
  | ret u =>
    obtain ⟨v, σ', H', J, rv, q⟩ := hs
    exact fin J rv q
  | next =>
    obtain ⟨σ', H', J, q⟩ := hs
    exact fin (v := V.non) (u := Value.none) J rfl q
  | brk =>
    obtain ⟨_, _, _, q⟩ := hs
    exact False.elim q
  | cont =>
    obtain ⟨_, _, _, q⟩ := hs
    exact False.elim q
end L2
namespace L2
open PySem PySem.Spec PyProof.Rows
section
variable {X : Cx} {x : Str} {p pos : Pos} {e : Expr} {es : List Expr} {t : TA} {id T : String} {r : List V → Hp → VK → Prop}
def tCB (r : List V → Hp → VK → Prop) (t : TA) : TE := fun σ H Q => t σ H fun vs H1 => r vs H1 Q
theorem pe_callB (hc : CallR X (.builtin id) r) (hg : Gl X x) (hm : X.mg x = none) (hv : bootBuiltins x = some (.builtin id)) (ha : PA X (e :: es) t) (hn : x ≠ "__name__" := by decide) (hdb : (x == ("__debug__" : Str)) = false := by decide)
    (he : starEach (e :: es) X.env = (false, eval e X.env) :: starEach es X.env := by rfl) (hpl : (backTo pos (starEach es X.env)).any (·.1) = false := by rfl) : PE X (.Call (.Name x p) (e :: es) [] pos) (tCB r t) := by
  intro pins s σ H Q I h
  refine wpAny_Call_Name_kw (ld_blt I hg hm hv ?_ hn hdb)
  exact PyProof.Rows.callWith_builtin1 (thn (ha pos pins s σ H _ I h) fun us s1 ⟨vs, H1, I1, r1, q1⟩ => hc pins s1 σ H1 vs us Q I1 r1 q1) he hpl
theorem pe_callTy (hc : CallR X (.type T) r) (hg : Gl X x) (hm : X.mg x = none) (hv : bootBuiltins x = some (.type T)) (ha : PA X (e :: es) t) (hn : x ≠ "__name__" := by decide) (hdb : (x == ("__debug__" : Str)) = false := by decide)
    (he : starEach (e :: es) X.env = (false, eval e X.env) :: starEach es X.env := by rfl) (hpl : (backTo pos (starEach es X.env)).any (·.1) = false := by rfl) : PE X (.Call (.Name x p) (e :: es) [] pos) (tCB r t) := by
  intro pins s σ H Q I h
  refine wpAny_Call_Name_kw (ld_blt I hg hm hv ?_ hn hdb)
  exact PyProof.Rows.callWith_type1 (thn (ha pos pins s σ H _ I h) fun us s1 ⟨vs, H1, I1, r1, q1⟩ => hc pins s1 σ H1 vs us Q I1 r1 q1) he hpl
end
end L2
namespace HT
open PySem PyProof.Rows
def lexLt : List Int → List Int → Bool
  | [], [] => false
  | [], _ :: _ => true
  | _ :: _, [] => false
  | x :: xs, y :: ys => if x = y then lexLt xs ys else decide (x < y)
theorem lexLt_cons (x y : Int) (xs ys : List Int) : lexLt (x :: xs) (y :: ys) = if x = y then lexLt xs ys else decide (x < y) := rfl
theorem lexLt_nil_nil : lexLt [] [] = false := rfl
theorem lexLt_nil_cons (y : Int) (ys : List Int) : lexLt [] (y :: ys) = true := rfl
theorem lexLt_cons_nil (x : Int) (xs : List Int) : lexLt (x :: xs) [] = false := rfl
theorem eqAt_int (A : Around) (s : Shared) (a : Int) (t : Tok) (c : Int) (u : Tok) : ∃ e, SeqAt.EqAt A s (.int a t) (.int c u) e ∧ (e = true ↔ a = c) :=
  ⟨(a == c), SeqAt.EqAt.int_int a t c u, by simp⟩
theorem rcLt_int (A : Around) (s : Shared) (a : Int) (t : Tok) (c : Int) (u : Tok) (prog : Program) (w : World) (E : Value → Shared → Prop) (Q : Value → Shared → Prop) (h : Q (.bool (decide (a < c))) s) :
    wpAny (model prog w) A (richCompare .Lt (.int a t) (.int c u)) Q E s :=
  (PyProof.Rows.lt_int h : wpAny (model prog w) A (compareOp .Lt (.int a t) (.int c u)) Q E s)
section
open PySem.SeqAt
open PySem.AutoSeq1 (wpAny_loadPart')
open PySem.MeetsSeq PySem.MeetsSeq2 PySem.MeetsSeq3
theorem tuple_lt_ints (l b : Addr) (items items2 : Array Value) (n n2 : Nat) (dd dd2 : Option Addr) (sl sl2 : Array (Option Value)) (ns ms : List Int) (hi : IntsAre items.toList ns) (hj : IntsAre items2.toList ms) :
    Meets (Builtin.«tuple.__lt__» ⟨[.ref l, .ref b], []⟩)
      (fun _ R s => s.heap.get? l = some { cls := .type "tuple", dict := dd, data := .seq items n, slots := sl } ∧ s.heap.get? b = some { cls := .type "tuple", dict := dd2, data := .seq items2 n2, slots := sl2 } ∧
        R (.ok (.ret (.bool (lexLt ns ms)))) s) :=
  .of_wp fun prog w A R s h => by
    obtain ⟨hp, g, d, tk, os⟩ := s; obtain ⟨hl, hb, h⟩ := h
    have f2 := AutoSeq1.sub_tuple_tuple
    have z1 : items.size = ns.length := by rw [← hi.length]; simp
    have z2 : items2.size = ms.length := by rw [← hj.length]; simp
    wp_walk using wpAny_loadPart' hl, wpAny_loadPart' hb, wpAny_forIn_list _ (fun rest b s' => b.1 = none ∧ s' = ⟨hp, g, d, tk, os⟩ ∧ ∃ (vs ws : List Value) (ns' ms' : List Int), rest = vs.zip ws ∧
      IntsAre vs ns' ∧ IntsAre ws ms' ∧ ns'.length + items2.size = ms'.length + items.size ∧ R (.ok (.ret (.bool (lexLt ns' ms')))) ⟨hp, g, d, tk, os⟩) _
    case turn =>
      rintro ⟨y, x⟩ rest b s' ⟨hb', rfl, vs, ws, ns', ms', hz, hvi, hwi, hlen, hR⟩
      cases hvi with
      | nil => rw [List.zip_nil_left] at hz; cases hz
      | cons a t hvi' =>
        cases hwi with
        | nil => rw [List.zip_nil_right] at hz; cases hz
        | cons c u hwi' =>
          rw [List.zip_cons_cons] at hz
          injection hz with hyx hrest
          injection hyx with hy hx
          subst hy hx
          rw [lexLt_cons] at hR
          simp only [List.length_cons] at hlen
          obtain ⟨e, he, hiff⟩ := eqAt_int A.in1 ⟨hp, g, d, tk, os⟩ a t c u
          refine wpAny_bind (he prog w _ _ ?_)
          cases e with
          | true =>
            rw [if_pos (hiff.mp rfl)] at hR
            wp_walk
            exact ⟨rfl, rfl, _, _, _, _, hrest, hvi', hwi', by omega, hR⟩
          | false =>
            rw [if_neg (fun q => absurd (hiff.mpr q) Bool.false_ne_true)] at hR
            have hri := rcLt_int A.in1 ⟨hp, g, d, tk, os⟩ a t c u prog w
            wp_walk using hri
            exact ⟨_, rfl, by simpa using hR⟩
    case fin =>
      rintro ⟨b1, b2⟩ s' ⟨hb', rfl, vs, ws, ns', ms', hz, hvi, hwi, hlen, hR⟩
      simp only at hb'
      subst hb'
      have hv : lexLt ns' ms' = decide (items.size < items2.size) := by
        cases hvi with
        | nil =>
          cases hwi with
          | nil =>
            simp only [List.length_nil] at hlen
            rw [lexLt_nil_nil]
            exact (decide_eq_false (by omega)).symm
          | cons c u hw =>
            simp only [List.length_nil, List.length_cons] at hlen
            rw [lexLt_nil_cons]
            exact (decide_eq_true (by omega)).symm
        | cons a t hv =>
          cases hwi with
          | nil =>
            simp only [List.length_nil, List.length_cons] at hlen
            rw [lexLt_cons_nil]
            exact (decide_eq_false (by omega)).symm
          | cons c u hw =>
            rw [List.zip_cons_cons] at hz
            cases hz
      rw [hv] at hR
      wp_walk
      exact ⟨_, rfl, by simpa [Builtin.Tuple.tupleCompareSizes] using hR⟩
    case h =>
      exact ⟨rfl, rfl, items.toList, items2.toList, ns, ms, rfl, hi, hj, by omega, h⟩
end
section
variable {prog : Program} {w : World} {A : Around} {E : Value → Shared → Prop} {s : Shared}
theorem lt_tupInts {l b : Addr} {items items2 : Array Value} {ns ms : List Int} {Q : Value → Shared → Prop} (hl : IsTup s.heap l items) (hb : IsTup s.heap b items2) (hi : IntsAre items.toList ns) (hj : IntsAre items2.toList ms)
    (hu : A.units < cLine) (h : Q (.bool (lexLt ns ms)) s) : wpAny (model prog w) A (compareOp .Lt (.ref l) (.ref b)) Q E s := by
  obtain ⟨⟨cls, dd, data, sl⟩, ho, hc, n, hd⟩ := id hl
  obtain ⟨⟨cls2, dd2, data2, sl2⟩, ho2, hc2, n2, hd2⟩ := id hb
  simp only at hc hd hc2 hd2
  subst hc hd hc2 hd2
  exact richCompare_meets_room (op := .Lt) ⟨_, ho, rfl⟩ ⟨_, ho2, rfl⟩ PySem.F.slot_tuple_lt PySem.F.entry_tuple_lt (PySem.F.args_tuple_lt_2 _ _) (tuple_lt_ints l b items items2 n n2 dd dd2 sl sl2 ns ms hi hj)
    ⟨ho, ho2, show Value.bool (lexLt ns ms) ≠ Value.notImplemented ∧ Q (.bool (lexLt ns ms)) s from ⟨(fun x => nomatch x), h⟩⟩ hu
theorem cat_tup {t b : Addr} {vs ws : List Value} {Q : Value → Shared → Prop} (ht : IsTup s.heap t vs.toArray) (hb : IsTup s.heap b ws.toArray) (hv : vs ≠ [])
    (h1 : ws = [] → Q (.ref t) s) (h2 : ws ≠ [] → Q (.ref s.heap.objs.size) { s with heap := s.heap.push { cls := .type "tuple", data := .seq (vs ++ ws).toArray } })
    (hsz : vs.length + ws.length ≤ sizeLine) : wpAny (model prog w) A (binaryOp .Add (.ref t) (.ref b)) Q E s := by
  obtain ⟨⟨cls, dd, data, sl⟩, ho, hc, n, hd⟩ := id ht
  obtain ⟨⟨cls2, dd2, data2, sl2⟩, ho2, hc2, n2, hd2⟩ := id hb
  simp only at hc hd hc2 hd2
  subst hc hd hc2 hd2
  have e : vs.toArray ++ ws.toArray = (vs ++ ws).toArray := by simp
  by_cases hw : ws = []
  · exact concat_meets ⟨_, ho, rfl⟩ ⟨_, ho2, rfl⟩ noFill_tuple_add seq_tuple_add PySem.F.slot_tuple_add PySem.F.entry_tuple_add (PySem.F.args_tuple_add_2 _ _)
      (tuple_addW1 t b vs.toArray ws.toArray n n2 dd dd2 sl sl2 (by simpa using hv) (by simp [hw])) ⟨ho, ho2, h1 hw⟩
  · refine concat_meets ⟨_, ho, rfl⟩ ⟨_, ho2, rfl⟩ noFill_tuple_add seq_tuple_add PySem.F.slot_tuple_add PySem.F.entry_tuple_add (PySem.F.args_tuple_add_2 _ _)
      (tuple_addW2 t b vs.toArray ws.toArray n n2 dd dd2 sl sl2 (by simpa using hv) (by simpa using hw) (by rw [List.size_toArray, List.size_toArray]; exact hsz)) ⟨ho, ho2, ?_⟩
    rw [e]
    exact h2 hw
def sIx (n d : Nat) : Option Int → Nat
  | none => d
  | some v => if v < 0 then (v + (n : Int)).toNat else min v.toNat n
theorem sIx_none (n d : Nat) : sIx n d none = d := rfl
theorem sIx_nat (n d k : Nat) : sIx n d (some (k : Int)) = min k n := by
  show (if (k : Int) < 0 then ((k : Int) + (n : Int)).toNat else min (k : Int).toNat n) = min k n
  rw [if_neg (by omega), Int.toNat_natCast]
theorem sIx_le (n d : Nat) (hd : d ≤ n) (o : Option Int) : sIx n d o ≤ n := by
  cases o with
  | none => exact hd
  | some v =>
    show (if v < 0 then (v + (n : Int)).toNat else min v.toNat n) ≤ n
    by_cases hv : v < 0
    · rw [if_pos hv]; omega
    · rw [if_neg hv]; exact Nat.min_le_right _ _
theorem clip_eq (v : Int) (n d : Nat) : (if v < 0 then max (v + (n : Int)) 0 else min v (n : Int)) = ((sIx n d (some v) : Nat) : Int) := by
  show (if v < 0 then max (v + (n : Int)) 0 else min v (n : Int)) = (((if v < 0 then (v + (n : Int)).toNat else min v.toNat n) : Nat) : Int)
  by_cases hv : v < 0
  · simp only [if_pos hv]; omega
  · simp only [if_neg hv]; omega
theorem adjust_gen (lo hi : Option Int) (n : Nat) : Builtin.Slice.sliceAdjust lo hi 1 (n : Int) = (((sIx n 0 lo : Nat) : Int), ((sIx n n hi : Nat) : Int)) := by
  have h1 : ¬ ((1 : Int) < 0) := by omega
  unfold Builtin.Slice.sliceAdjust
  simp only [h1, if_false]
  refine Prod.ext ?_ ?_
  · cases lo with
    | none => rfl
    | some v => exact clip_eq v n 0
  · cases hi with
    | none => rfl
    | some v => exact clip_eq v n n
theorem places_gen (i j : Nat) : Builtin.Slice.slicePlaces (i : Int) (j : Int) 1 = j - i := by
  unfold Builtin.Slice.slicePlaces
  have h1 : (1 : Int) > 0 := by omega
  simp only [h1, if_true, Int.ediv_one]
  split <;> omega
theorem slicePart_ {v : Value} {o : Option Int} {Q : Option Int → Shared → Prop} (p : IsPart v o) (h : Q o s) : wpAny (model prog w) A (Builtin.Slice.slicePartIndex v) Q E s := by
  cases p with
  | none => exact slicePart_none h
  | int i t => exact slicePart_int h
theorem sliceApplied_gen {sl : Addr} {vl vu : Value} {lo hi : Option Int} {n : Nat} {Q : Int × Int × Nat → Shared → Prop} (hs : s.heap.IsSliceOf sl vl vu .none) (pl : IsPart vl lo) (pu : IsPart vu hi)
    (h : Q (((sIx n 0 lo : Nat) : Int), 1, sIx n n hi - sIx n 0 lo) s) : wpAny (model prog w) A (Builtin.Slice.sliceApplied (.ref sl) (pure (n : Int))) Q E s := by
  obtain ⟨os, hos, hcs, hds⟩ := id hs
  unfold Builtin.Slice.sliceApplied Builtin.Slice.sliceFields
  refine wpAny_bind (wpAny_bind (wpAny_field hos hds (x := vl) rfl (wpAny_bind (wpAny_field hos hds (x := vu) rfl (wpAny_bind (wpAny_field hos hds (x := .none) rfl (wpAny_pure ?_)))))))
  refine wpAny_bind (slicePart_none ?_)
  show wpAny _ _ (if ((1 : Int) == 0) = true then _ else _) _ _ s
  rw [if_neg (by decide)]
  refine wpAny_bind (slicePart_ pl (wpAny_bind (slicePart_ pu (wpAny_bind (wpAny_pure ?_)))))
  show wpAny _ _ (match Builtin.Slice.sliceAdjust lo hi 1 (n : Int) with | (lo, hi) => pure (lo, (1 : Int), Builtin.Slice.slicePlaces lo hi 1)) _ _ s
  rw [adjust_gen lo hi n]
  show wpAny _ _ (pure (((sIx n 0 lo : Nat) : Int), (1 : Int), Builtin.Slice.slicePlaces ((sIx n 0 lo : Nat) : Int) ((sIx n n hi : Nat) : Int) 1)) _ _ s
  rw [places_gen]
  exact wpAny_pure h
theorem pick_gen (xs : Array Value) (i k : Nat) : ((List.range k).filterMap fun (m : Nat) => xs[((i : Int) + (m : Int) * 1).toNat]?).toArray = ((xs.toList.drop i).take k).toArray := by
  have e : (fun (m : Nat) => xs[((i : Int) + (m : Int) * 1).toNat]?) = fun m => xs[i + m]? := by
    funext m
    have : ((i : Int) + (m : Int) * 1).toNat = i + m := by omega
    rw [this]
  rw [e]
  have := pick_run xs i k
  rw [List.filterMap_map] at this
  have e2 : ((fun x => xs[x]?) ∘ fun x => i + x) = fun m => xs[i + m]? := rfl
  rw [e2] at this
  rw [this]
theorem getItem_tuple_cut {t sl : Addr} {items : Array Value} {vl vu : Value} {lo hi : Option Int} {Q : Value → Shared → Prop} (ht : IsTup s.heap t items) (hs : s.heap.IsSliceOf sl vl vu .none) (pl : IsPart vl lo) (pu : IsPart vu hi)
    (hw : ¬ (sIx items.size 0 lo = 0 ∧ sIx items.size items.size hi = items.size))
    (h : Q (.ref s.heap.objs.size) { s with heap := s.heap.push { cls := .type "tuple", data := .seq ((items.toList.drop (sIx items.size 0 lo)).take (sIx items.size items.size hi - sIx items.size 0 lo)).toArray } })
    (hsz : items.size ≤ sizeLine) : wpAny (model prog w) A (getItem (.ref t) (.ref sl)) Q E s := by
  have htake : sizeOk (.seq ((items.toList.drop (sIx items.size 0 lo)).take (sIx items.size items.size hi - sIx items.size 0 lo)).toArray) := by
    show ((items.toList.drop (sIx items.size 0 lo)).take (sIx items.size items.size hi - sIx items.size 0 lo)).toArray.size ≤ sizeLine
    rw [List.size_toArray, List.length_take, List.length_drop, Array.length_toList]
    omega
  have hj : sIx items.size items.size hi ≤ items.size := sIx_le _ _ (Nat.le_refl _) hi
  obtain ⟨os, hos, hcs, hds⟩ := id hs
  have hTs : s.TypeIs (.ref sl) "slice" := ⟨os, hos, hcs⟩
  unfold getItem
  try with_reducible refine wpAny_holding ?_
  first | refine wpAny_bind (wpAny_pure ?_) | skip
  refine wpAny_bind (wpAny_sequenceKey ht.typeIs (by decide) ?_)
  refine wpAny_bind (wpAny_callSpecial?_slot (name := Str.ofString "__getitem__") ht.typeIs PyProof.Rows.slot_tuple_getitem
    (wpAny_call_entry PyProof.Rows.slot_tuple_getitem ht.typeIs entry_tuple_getitem ?_ (args_tuple_getitem _ _)))
  show wpAny _ _ (Builtin.Tuple.tupleItemsOf (.ref t) >>= _) _ _ s
  refine wpAny_bind (tupleItemsOf_ ht ?_)
  refine wpAny_bind (wpAny_typeOf hTs ?_)
  rw [if_pos (by decide)]
  refine wpAny_bind (sliceApplied_gen hs pl pu ?_)
  have hno : ¬ ((((sIx items.size 0 lo : Nat) : Int) == 0 && (1 : Int) == 1 && (sIx items.size items.size hi - sIx items.size 0 lo) == items.size) = true) := by
    intro q
    rw [Bool.and_eq_true, Bool.and_eq_true] at q
    have q1 : ((sIx items.size 0 lo : Nat) : Int) = 0 := eq_of_beq q.1.1
    have q2 : sIx items.size items.size hi - sIx items.size 0 lo = items.size := eq_of_beq q.2
    exact hw ⟨by omega, by omega⟩
  show wpAny _ _ (if (((sIx items.size 0 lo : Nat) : Int) == 0 && (1 : Int) == 1 && (sIx items.size items.size hi - sIx items.size 0 lo) == items.size) = true then _ else _) _ _ s
  rw [if_neg hno, pick_gen]
  first
    | exact wpAny_bind (m := Builtin.Tuple.tupleExact _) (wpAny_newObj_type (wpAny_pure ⟨_, rfl, wpAny_pure h⟩) htake)
    | exact wpAny_bind (m := Builtin.Tuple.tupleExact _) (wpAny_newObj_type (wpAny_bind (wpAny_pure (wpAny_pure ⟨_, rfl, wpAny_pure h⟩))) htake)
    | exact wpAny_bind (wpAny_bind (m := Builtin.Tuple.tupleExact _) (wpAny_newObj_type (wpAny_pure (wpAny_pure ⟨_, rfl, wpAny_pure h⟩)) htake))
    | exact wpAny_bind (wpAny_bind (m := Builtin.Tuple.tupleExact _) (wpAny_newObj_type (wpAny_pure ⟨_, rfl, wpAny_pure h⟩) htake))
end
end HT
namespace L2
open PySem PySem.Spec PyProof.Rows
abbrev TO := St → Hp → (Option Int → Hp → Prop) → Prop
def PO (X : Cx) (e : Option Expr) (t : TO) : Prop :=
  ∀ (pins : List (Addr × Obj)) (s : Shared) (σ : St) (H : Hp) (Q : Option Int → Hp → Prop), Inv X pins σ H s → t σ H Q →
    wpAny (model X.prog X.w) X.A (evalPart e X.env) (fun u s' => ∃ o H', Inv X pins σ H' s' ∧ IsPart u o ∧ Q o H') X.xe s
def tNoPart : TO := fun _ H Q => Q none H
def tPart (t : TE) : TO := fun σ H Q => t σ H fun x H1 => ∃ i, x = .int i ∧ Q (some i) H1
theorem intsAre_of {ns : List Int} : ∀ {us : List Value}, Vals (ns.map V.int) us → IntsAre us ns := by
  induction ns with
  | nil => intro us r; rw [List.map_nil] at r; cases r; exact .nil
  | cons n ns ih =>
    intro us r
    rw [List.map_cons] at r
    cases r with
    | cons r1 r2 =>
      obtain ⟨t, e⟩ := r1
      subst e
      exact .cons n t (ih r2)
section
variable {X : Cx} {e : Expr} {te : TE} {lo hi : Option Expr} {tl th : TO} {pos p2 : Pos}
theorem po_none : PO X none tNoPart := by
  intro pins s σ H Q I h
  rw [evalPart_none]
  exact wpAny_pure ⟨none, H, I, .none, h⟩
theorem po_some (h : PE X e te) : PO X (some e) (tPart te) := by
  intro pins s σ H Q I hw
  rw [evalPart_some]
  refine thn (h pins s σ H _ I hw) fun u s1 ⟨x, H1, I1, r1, q1⟩ => ?_
  obtain ⟨i, rfl, q⟩ := q1
  obtain ⟨t, rfl⟩ := r1
  exact ⟨some i, H1, I1, .int i t, q⟩
def SlR (X : Cx) (r : V → Option Int → Option Int → Hp → VK → Prop) : Prop :=
  ∀ (pins : List (Addr × Obj)) (s : Shared) (σ : St) (H : Hp) (x : V) (v vl vu : Value) (lo hi : Option Int) (sl : Addr) (Q : VK), Inv X pins σ H s → RelV x v → s.heap.IsSliceOf sl vl vu .none → IsPart vl lo → IsPart vu hi → r x lo hi H Q →
    ∃ T id, typeLookup (.type T) "__getitem__" = pure (some (.builtin id)) ∧ s.TypeIs v T ∧ wpAny (model X.prog X.w) X.A (getItem v (.ref sl)) (EP X pins σ Q) X.xe s
def tSl (r : V → Option Int → Option Int → Hp → VK → Prop) (te : TE) (tl th : TO) : TE := fun σ H Q => te σ H fun x H1 => tl σ H1 fun l H2 => th σ H2 fun u H3 => r x l u H3 Q
theorem pe_slice {r : V → Option Int → Option Int → Hp → VK → Prop} (hr : SlR X r) (he : PE X e te) (hl : PO X lo tl) (hu : PO X hi th) : PE X (.Subscript e (.Slice lo hi none p2) pos) (tSl r te tl th) := by
  intro pins s σ H Q I h
  refine Subscript_ (thn (he pins s σ H _ I h) fun v s1 ⟨x, H1, I1, r1, q1⟩ => ?_)
  refine wpAny_Slice (thn (hl pins s1 σ H1 _ I1 q1) fun vl s2 ⟨l, H2, I2, pl, q2⟩ => thn (hu pins s2 σ H2 _ I2 q2) fun vu s3 ⟨u, H3, I3, pu, q3⟩ => ?_)
  rw [evalPart_none]
  refine wpAny_pure ?_
  have I4 : Inv X pins σ H3 { s3 with heap := s3.heap.push { cls := .type "slice", data := .fields #[vl, vu, .none] } } := I3.kept (t' := s3.toks) fun b ob q => Heap.get?_push_of_some _ q
  obtain ⟨T, id, hT, ht, hg⟩ := hr pins { s3 with heap := s3.heap.push { cls := .type "slice", data := .fields #[vl, vu, .none] } } σ H3 x v vl vu l u s3.heap.objs.size Q I4 r1 (Heap.IsSliceOf.new ..) pl pu q3
  show wpAny (model X.prog X.w) X.A (subscriptTail e (.Slice lo hi none p2) v (.ref s3.heap.objs.size)) (EP X pins σ Q) X.xe { s3 with heap := s3.heap.push { cls := .type "slice", data := .fields #[vl, vu, .none] } }
  exact tail_any (ops := [.ref s3.heap.objs.size, v]) ht hT hg (by with_unfolding_all rfl)
def cutV (xs : List V) (lo hi : Option Int) : List V := (xs.drop (HT.sIx xs.length 0 lo)).take (HT.sIx xs.length xs.length hi - HT.sIx xs.length 0 lo)
theorem cutV_length (xs : List V) (lo hi : Option Int) : (cutV xs lo hi).length ≤ xs.length := by
  unfold cutV
  rw [List.length_take, List.length_drop]
  omega
def rSlT (K : PySem.W.Frag) : V → Option Int → Option Int → Hp → VK → Prop := fun x lo hi H Q => ∃ a xs, x = .ref a ∧ SqT K H a xs ∧
  ¬ (HT.sIx xs.length 0 lo = 0 ∧ HT.sIx xs.length xs.length hi = xs.length) ∧ ∀ p, H p = none → Q (.ref p) (upd H p (.tup (cutV xs lo hi)))
theorem sl_tup : SlR X (rSlT X.K) := by
  intro pins s σ H x v vl vu lo hi sl Q I rx hs pl pu h
  obtain ⟨a, xs, rfl, hx, hw, q⟩ := h
  cases rx
  obtain ⟨its, r, ht, hz⟩ := I.tuple hx
  have hlen : its.toArray.size = xs.length := by rw [List.size_toArray]; exact r.length.symm
  refine ⟨"tuple", _, PyProof.Rows.slot_tuple_getitem.lookup, ht.typeIs, ?_⟩
  refine HT.getItem_tuple_cut ht hs pl pu (by rw [hlen]; exact hw) ?_ (by rw [hlen]; exact hz)
  rw [hlen]
  refine ⟨.ref s.heap.objs.size, _, I.laid (t' := s.toks) (o := .tup (cutV xs lo hi)) (fun b ob q => Heap.get?_push_of_some _ q) (Nat.le_refl _) ?_, rfl, q _ (I.hok.fresh (Nat.le_refl _))⟩
  exact ⟨Nat.le_trans (cutV_length xs lo hi) hz, _, (r.drop (HT.sIx xs.length 0 lo)).take (HT.sIx xs.length xs.length hi - HT.sIx xs.length 0 lo), IsTup.new _ _⟩
def rCatT (K : PySem.W.Frag) : R2 := fun x y H Q => ∃ a b xs ys, x = .ref a ∧ y = .ref b ∧ SqT K H a xs ∧ SqT K H b ys ∧ xs ≠ [] ∧ xs.length + ys.length ≤ sizeLine ∧
  (ys = [] → Q (.ref a) H) ∧ (ys ≠ [] → ∀ p, H p = none → Q (.ref p) (upd H p (.tup (xs ++ ys))))
theorem Vals.nil_iff {xs : List V} {us : List Value} (r : Vals xs us) : us = [] ↔ xs = [] := by
  cases r with
  | nil => simp
  | cons _ _ => simp
theorem op_catT : OpR X (binaryOp .Add) (rCatT X.K) := by
  intro pins s σ H x y v u Q I rx ry h
  obtain ⟨a, b, xs, ys, rfl, rfl, ha, hb, hx, hz, q1, q2⟩ := h
  cases rx
  cases ry
  obtain ⟨its, r1, p1, _⟩ := I.tuple ha
  obtain ⟨its2, r2, p2, _⟩ := I.tuple hb
  refine HT.cat_tup p1 p2 (fun z => hx (r1.nil_iff.mp z)) (fun z => ⟨.ref a, H, I, rfl, q1 (r2.nil_iff.mp z)⟩) (fun z => ?_) (by rw [← r1.length, ← r2.length]; exact hz)
  refine ⟨.ref s.heap.objs.size, _, I.laid (t' := s.toks) (o := .tup (xs ++ ys)) (fun b ob q => Heap.get?_push_of_some _ q) (Nat.le_refl _) ?_, rfl, q2 (fun w => z (r2.nil_iff.mpr w)) _ (I.hok.fresh (Nat.le_refl _))⟩
  exact ⟨by rw [List.length_append]; exact hz, _, r1.append r2, IsTup.new _ _⟩
end
end L2
namespace L2
open PySem PySem.Spec PyProof.Rows
def ixN (n : Nat) (i : Int) : Option Nat := if 0 ≤ i then (if i < n then some i.toNat else none) else if -(n : Int) ≤ i then some (i + n).toNat else none
def atI {α : Type} (xs : List α) (i : Int) : Option α := (ixN xs.length i).bind fun j => xs[j]?
theorem ixN_seq {n : Nat} {i : Int} {j : Nat} (h : ixN n i = some j) : seqIndex? i n = some j ∧ j < n ∧ -(n : Int) ≤ i ∧ i < n := by
  unfold ixN at h
  by_cases h0 : 0 ≤ i
  · rw [if_pos h0] at h
    by_cases h1 : i < n
    · rw [if_pos h1] at h
      have e : i.toNat = j := Option.some.inj h
      exact ⟨by rw [seqIndex_of h0 h1, e], by omega, by omega, h1⟩
    · rw [if_neg h1] at h; cases h
  · rw [if_neg h0] at h
    by_cases h1 : -(n : Int) ≤ i
    · rw [if_pos h1] at h
      have e : (i + n).toNat = j := Option.some.inj h
      exact ⟨by rw [seqIndex_neg (by omega) h1, e], by omega, h1, by omega⟩
    · rw [if_neg h1] at h; cases h
theorem atI_get {α : Type} {xs : List α} {i : Int} {v : α} (h : atI xs i = some v) : ∃ j, seqIndex? i xs.length = some j ∧ xs[j]? = some v ∧ j < xs.length ∧ -(xs.length : Int) ≤ i ∧ i < xs.length := by
  unfold atI at h
  cases e : ixN xs.length i with
  | none => rw [e] at h; cases h
  | some j =>
    rw [e] at h
    obtain ⟨h1, h2, h3, h4⟩ := ixN_seq e
    exact ⟨j, h1, h, h2, h3, h4⟩
theorem atI_nat {α : Type} {xs : List α} {j : Nat} {v : α} (h : xs[j]? = some v) : atI xs (j : Int) = some v := by
  have hj : j < xs.length := (List.getElem?_eq_some_iff.mp h).1
  have e : ixN xs.length (j : Int) = some j := by
    unfold ixN
    rw [if_pos (by omega), if_pos (by omega)]; simp
  unfold atI; rw [e]; exact h
theorem atI_last {α : Type} (xs : List α) (v : α) : atI (xs ++ [v]) (-1) = some v := by
  have hl : (xs ++ [v]).length = xs.length + 1 := by simp
  have e : ixN (xs ++ [v]).length (-1) = some xs.length := by
    unfold ixN
    rw [hl, if_neg (by decide), if_pos (by omega)]
    congr 1
    omega
  unfold atI
  rw [e]
  show (xs ++ [v])[xs.length]? = some v
  simp
def PlainIx (b : Expr) : Prop := ∀ o i, subscripted b false o i = operate [o, i] (getItem o i)
def IxR (X : Cx) (r : R2) : Prop :=
  ∀ (value slice : Expr) (pins : List (Addr × Obj)) (s : Shared) (σ : St) (H : Hp) (x y : V) (v u : Value) (Q : VK), Inv X pins σ H s → RelV x v → RelV y u → r x y H Q →
    subscripted slice false v u = operate [v, u] (getItem v u) → wpAny (model X.prog X.w) X.A (subscriptTail value slice v u) (EP X pins σ Q) X.xe s
def MtR (X : Cx) (id : String) (r : V → List V → Hp → VK → Prop) : Prop :=
  ∀ (pins : List (Addr × Obj)) (s : Shared) (σ : St) (H : Hp) (x : V) (xs : List V) (v : Value) (us : List Value) (Q : VK), Inv X pins σ H s → RelV x v → Vals xs us → r x xs H Q →
    wpAny (model X.prog X.w) X.A (call (.builtin id) (v :: us)) (EP X pins σ Q) X.xe s
section
variable {X : Cx} {a b : Expr} {ta tb : TE} {pos : Pos}
theorem pe_ix {r : R2} (hr : IxR X r) (ha : PE X a ta) (hb : PE X b tb) (hs : PlainIx b) : PE X (.Subscript a b pos) (tOp r ta tb) := by
  intro pins s σ H Q I h
  exact Subscript_ (binT ha hb I h fun v u s2 x y H2 I2 rx ry q => hr a b pins s2 σ H2 x y v u Q I2 rx ry q (hs _ _))
def rIxL (K : PySem.W.Frag) : R2 := fun x y H Q => ∃ p xs i v, x = .ref p ∧ y = .int i ∧ SqL K H p xs ∧ atI xs i = some v ∧ Q v H
def rIxT (K : PySem.W.Frag) : R2 := fun x y H Q => ∃ p xs i v, x = .ref p ∧ y = .int i ∧ SqT K H p xs ∧ atI xs i = some v ∧ Q v H
theorem ix_list : IxR X (rIxL X.K) := by
  intro value slice pins s σ H x y v u Q I rx ry h hs
  obtain ⟨p, xs, i, z, rfl, rfl, hq, he, q⟩ := h
  cases rx
  obtain ⟨t, rfl⟩ := ry
  obtain ⟨its, r, pl, hz⟩ := I.list hq
  obtain ⟨j, h1, h2, h3, h4, h5⟩ := atI_get he
  obtain ⟨w, ew, rw'⟩ := r.get h2
  have hl := r.length
  have hn := line63
  have fin : EP X pins σ Q w s := ⟨z, H, I, rw', q⟩
  by_cases h0 : 0 ≤ i
  · have hj : i.toNat = j := by
      rw [seqIndex_of h0 h5] at h1
      exact Option.some.inj h1
    exact item_listR pl.isList h0 (by omega) (by rw [hj]; simpa using ew) fin hs
  · have hj : (i + (its.toArray.size : Int)).toNat = j := by
      rw [seqIndex_neg (by omega) h4] at h1
      rw [List.size_toArray, ← hl]
      exact Option.some.inj h1
    exact subscriptTail_builtinR (x := w) pl.isList.typeIs slot_list_getitem.lookup
      (wpAny_getItem_list_neg (Q := fun r s' => r = w ∧ EP X pins σ Q r s') pl.isList (by omega) (by rw [List.size_toArray] <;> omega) (by omega) (by rw [hj]; simpa using ew) ⟨rfl, fin⟩) hs
theorem ix_tup : IxR X (rIxT X.K) := by
  intro value slice pins s σ H x y v u Q I rx ry h hs
  obtain ⟨p, xs, i, z, rfl, rfl, hq, he, q⟩ := h
  cases rx
  obtain ⟨t, rfl⟩ := ry
  obtain ⟨its, r, pl, hz⟩ := I.tuple hq
  obtain ⟨j, h1, h2, h3, h4, h5⟩ := atI_get he
  obtain ⟨w, ew, rw'⟩ := r.get h2
  have hl := r.length
  have hn := line63
  have fin : EP X pins σ Q w s := ⟨z, H, I, rw', q⟩
  exact subscriptTail_builtinR (x := w) pl.typeIs slot_tuple_getitem.lookup
    (getItem_tuple (j := j) (Q := fun r s' => r = w ∧ EP X pins σ Q r s') pl (by omega) (by omega) (by rw [List.size_toArray, ← hl]; exact h1) (by simpa using ew) ⟨rfl, fin⟩) hs
theorem mapSeq_set (its : List Value) (n j : Nat) (u : Value) : Obj.mapSeq (·.setIfInBounds j u) { cls := .type "list", data := .seq its.toArray n } = { cls := .type "list", data := .seq (its.set j u).toArray n } := by
  simp [Obj.mapSeq]
theorem Inv.lst {pins : List (Addr × Obj)} {σ : St} {H : Hp} {s : Shared} {p : Addr} {xs : List V} (I : Inv X pins σ H s) (h : H p = some (.lst xs)) :
    ∃ (its : List Value) (n : Nat), Vals xs its ∧ s.heap.get? p = some { cls := .type "list", data := .seq its.toArray n } ∧ xs.length ≤ sizeLine := by
  obtain ⟨z, its, n, r, e⟩ := I.hok p _ h
  exact ⟨its, n, r, e, z⟩
theorem Inv.lstUpd {pins : List (Addr × Obj)} {σ : St} {H : Hp} {s : Shared} {p : Addr} {xs ys : List V} {its its' : List Value} {n n' : Nat} {f : Obj → Obj} (I : Inv X pins σ H s) (h : H p = some (.lst xs))
    (ho : s.heap.get? p = some { cls := .type "list", data := .seq its.toArray n }) (hf : f { cls := .type "list", data := .seq its.toArray n } = { cls := .type "list", data := .seq its'.toArray n' }) (r : Vals ys its') (hz : ys.length ≤ sizeLine) (t : Nat) :
    Inv X pins σ (upd H p (.lst ys)) { s with heap := s.heap.update p f, toks := t } := by
  have e : (s.heap.update p f).get? p = some { cls := .type "list", data := .seq its'.toArray n' } := by
    rw [Heap.get?_update_self f ho (by rw [hf] <;> rfl), hf]
  refine I.write (x := p) (e := p) (by rw [h]; trivial) (.inl rfl) (fun b u hb q => (Heap.get?_update_other _ _ (Ne.symm hb)).trans q) ⟨_, e⟩ ?_
  exact ⟨hz, its', n', r, e⟩
def rSetL : V → V → V → Hp → (Hp → Prop) → Prop := fun o i v H Q => ∃ p xs k j, o = .ref p ∧ i = .int k ∧ H p = some (.lst xs) ∧ ixN xs.length k = some j ∧ Q (upd H p (.lst (xs.set j v)))
theorem set_list : PSet X rSetL := by
  intro pins s σ H o i v ov iv u Q I ro ri rv h
  obtain ⟨p, xs, k, j, rfl, rfl, hp, hj, q⟩ := h
  cases ro
  obtain ⟨t, rfl⟩ := ri
  obtain ⟨its, n, r, ho, hz⟩ := I.lst hp
  obtain ⟨h1, h2, h3, h4⟩ := ixN_seq hj
  have hl := r.length
  have hn := line63
  have I' : Inv X pins σ (upd H p (.lst (xs.set j v))) { s with heap := s.heap.update p (Obj.mapSeq (·.setIfInBounds j u)) } :=
    I.lstUpd hp ho (mapSeq_set its n j u) (r.set rv j) (by rw [List.length_set]; exact hz) s.toks
  by_cases h0 : 0 ≤ k
  · have hk : k.toNat = j := by
      rw [seqIndex_of h0 h4] at h1
      exact Option.some.inj h1
    exact PySem.W.ki_setAt ho h0 (by omega) (by rw [List.size_toArray, ← hl]; exact h4) (by rw [hk]; exact ⟨_, I', q⟩)
  · have hk : (k + (its.toArray.size : Int)).toNat = j := by
      rw [seqIndex_neg (by omega) h3] at h1
      rw [List.size_toArray, ← hl]
      exact Option.some.inj h1
    exact PySem.W.ki_setBack ho (by omega) (by rw [List.size_toArray, ← hl]; exact h3) (by omega) (by rw [hk]; exact ⟨_, I', q⟩)
theorem slice_bounds (lo hi : Option Int) (n : Nat) : (sliceBounds lo hi none n).1 = ((HT.sIx n 0 lo : Nat) : Int) ∧ (sliceBounds lo hi none n).2.1 = ((HT.sIx n n hi : Nat) : Int) ∧ (sliceBounds lo hi none n).2.2 = 1 := by
  refine ⟨?_, ?_, rfl⟩
  · cases lo with
    | none => simp [sliceBounds, HT.sIx]
    | some i =>
      simp only [sliceBounds, HT.sIx, Option.getD_none, show (1 : Int) > 0 by decide, if_true]
      by_cases h : i < 0
      · simp only [h, if_true] <;> omega
      · simp only [h, if_false] <;> omega
  · cases hi with
    | none => simp [sliceBounds, HT.sIx]
    | some i =>
      simp only [sliceBounds, HT.sIx, Option.getD_none, show (1 : Int) > 0 by decide, if_true]
      by_cases h : i < 0
      · simp only [h, if_true] <;> omega
      · simp only [h, if_false] <;> omega
theorem slicePick_cut (its : List Value) (lo hi : Option Int) : slicePick its.toArray lo hi none = ((its.drop (HT.sIx its.length 0 lo)).take (HT.sIx its.length its.length hi - HT.sIx its.length 0 lo)).toArray := by
  obtain ⟨h1, h2, h3⟩ := slice_bounds lo hi its.toArray.size
  unfold slicePick
  rw [h1, h2, h3]
  simp only [sliceRange_one, pick_run, List.size_toArray] <;> rfl
def rSlL (K : PySem.W.Frag) : V → Option Int → Option Int → Hp → VK → Prop := fun x lo hi H Q => ∃ a xs, x = .ref a ∧ SqL K H a xs ∧ ∀ p, H p = none → Q (.ref p) (upd H p (.lst (cutV xs lo hi)))
theorem sl_list : SlR X (rSlL X.K) := by
  intro pins s σ H x v vl vu lo hi sl Q I rx hs pl pu h
  obtain ⟨a, xs, rfl, hx, q⟩ := h
  cases rx
  obtain ⟨its, r, ht, hz⟩ := I.list hx
  have hlen := r.length
  refine ⟨"list", _, slot_list_getitem.lookup, ht.isList.typeIs, ?_⟩
  refine wpAny_getItem_list_slice ht.isList hs pl pu .none (by simp) ?_ (by rw [List.size_toArray] <;> omega)
  rw [slicePick_cut, ← hlen]
  refine ⟨.ref s.heap.objs.size, _, I.laid (t' := s.toks) (o := .lst (cutV xs lo hi)) (fun b ob q => Heap.get?_push_of_some _ q) (Nat.le_refl _) ?_, rfl, q _ (I.hok.fresh (Nat.le_refl _))⟩
  exact ⟨Nat.le_trans (cutV_length xs lo hi) hz, _, 0, (r.drop (HT.sIx xs.length 0 lo)).take (HT.sIx xs.length xs.length hi - HT.sIx xs.length 0 lo), Heap.get?_push_size _ rfl⟩
theorem call_list_of : CallR X (.type "list") (fun xs H Q => ∃ p ys, xs = [.ref p] ∧ (SqL X.K H p ys ∨ SqT X.K H p ys) ∧ ∀ l, H l = none → Q (.ref l) (upd H l (.lst ys))) := by
  intro pins s σ H xs us Q I r h
  obtain ⟨p, ys, rfl, hq, q⟩ := h
  obtain ⟨u, rfl, rx⟩ := vals1 r
  cases rx
  have fin : ∀ (its : List Value), Vals ys its → ys.length ≤ sizeLine → ∀ (h' : Heap) (c' : Nat), (∀ b o', s.heap.get? b = some o' → h'.get? b = some o') →
      h'.get? s.heap.objs.size = some { cls := .type "list", dict := none, data := .seq its.toArray c', slots := #[] } → EP X pins σ Q (.ref s.heap.objs.size) { s with heap := h' } := fun its r' hz h' c' kp e =>
    ⟨.ref s.heap.objs.size, _, I.laid (t' := s.toks) kp (Nat.le_refl _) (show ObjOk X.prog X.w _ h' _ (.lst ys) from ⟨hz, its, c', r', e⟩), rfl, q _ (I.hok.fresh (Nat.le_refl _))⟩
  rcases hq with hq | hq
  · obtain ⟨its, r', pl, hz⟩ := I.list hq
    have hlen := r'.length
    obtain ⟨o, ho, hc, n, hd⟩ := pl.isList
    exact call_list_seq p (.inl rfl) ho hc hd (fun h' c' kp e => fin its r' hz h' c' kp e) (by simp only [List.size_toArray] <;> omega)
  · obtain ⟨its, r', pl, hz⟩ := I.tuple hq
    have hlen := r'.length
    obtain ⟨o, ho, hc, n, hd⟩ := pl
    exact call_list_seq p (.inr rfl) ho hc hd (fun h' c' kp e => fin its r' hz h' c' kp e) (by simp only [List.size_toArray] <;> omega)
def tyV (K : PySem.W.Frag) (T : String) (x : V) (H : Hp) : Prop := match x with
  | .str _ => T = "str"
  | .int _ => T = "int"
  | .ref p => (T = "list" ∧ ∃ xs, SqL K H p xs) ∨ (T = "tuple" ∧ ∃ o, K.lookup p = some o ∧ o.cls = .type "tuple" ∧ o.dict = none) ∨
      (T = "dict" ∧ ((∃ kvs, H p = some (.dK kvs)) ∨ ∃ kvs, H p = some (.dT kvs))) ∨ (T = "set" ∧ ∃ S n, H p = some (.set S n))
  | _ => False
theorem tyV_is {pins : List (Addr × Obj)} {σ : St} {H : Hp} {s : Shared} {T : String} {x : V} {v : Value} (I : Inv X pins σ H s) (r : RelV x v) (ty : tyV X.K T x H) :
    s.TypeIs v T ∧ ∀ a, v = .ref a → ∃ ob, s.heap.get? a = some ob ∧ ob.dict = none := by
  cases x with
  | str z =>
    obtain ⟨t, rfl⟩ := r
    cases (show T = "str" from ty)
    exact ⟨typeIs_str s z t, fun _ e => nomatch e⟩
  | int i =>
    obtain ⟨t, rfl⟩ := r
    cases (show T = "int" from ty)
    exact ⟨typeIs_int s i t, fun _ e => nomatch e⟩
  | ref p =>
    cases r
    rcases ty with ⟨rfl, xs, hq⟩ | ⟨rfl, o, hk, hc, hd⟩ | ⟨rfl, hk⟩ | ⟨rfl, S, n, hk⟩
    · obtain ⟨its, _, pl, _⟩ := I.list hq
      refine ⟨pl.isList.typeIs, fun a e => ?_⟩
      cases e
      obtain ⟨o, n, e, c, hd, _⟩ := pl
      exact ⟨o, e, hd⟩
    · refine ⟨⟨o, I.kIn p o hk, hc⟩, fun a e => ?_⟩
      cases e
      exact ⟨o, I.kIn _ o hk, hd⟩
    · have z : ∃ o, s.heap.get? p = some o ∧ o.ExactDict := by
        rcases hk with ⟨kvs, hk⟩ | ⟨kvs, hk⟩
        · obtain ⟨_, _, _, _, o, _, _, e, ex, _⟩ := I.hok p _ hk
          exact ⟨o, e, ex⟩
        · obtain ⟨_, _, _, _, o, _, _, e, ex, _⟩ := I.hok p _ hk
          exact ⟨o, e, ex⟩
      obtain ⟨o, e, ex⟩ := z
      refine ⟨⟨o, e, ex.1⟩, fun a e2 => ?_⟩
      cases e2
      exact ⟨o, e, ex.2.1⟩
    · obtain ⟨o, _, _, _, e, ex, _⟩ := I.hok p _ hk
      refine ⟨⟨o, e, ex.1⟩, fun a e2 => ?_⟩
      cases e2
      exact ⟨o, e, ex.2.1⟩
  | _ => exact False.elim ty
def tBM0 (K : PySem.W.Frag) (T : String) (r : V → List V → Hp → VK → Prop) (to : TE) : TE := fun σ H Q => to σ H fun x H1 => tyV K T x H1 ∧ r x [] H1 Q
def tBM (K : PySem.W.Frag) (T : String) (r : V → List V → Hp → VK → Prop) (to : TE) (t : TA) : TE := fun σ H Q => to σ H fun x H1 => tyV K T x H1 ∧ t σ H1 fun xs H2 => r x xs H2 Q
variable {o e : Expr} {es : List Expr} {to : TE} {t : TA} {name : Str} {apos cpos : Pos} {T id : String} {r : V → List V → Hp → VK → Prop}
theorem pe_bm0 (pa : PlainAttrs T) (slot : Slot T name id) (hty : typeOf (.builtin id) = pure (.type "method_descriptor")) (hm : MtR X id r) (ho : PE X o to)
    (hbase : attributeBase o name X.env (eval o X.env) = eval o X.env := by rfl) (hline : (apos.endLine == cpos.line) = true := by rfl) : PE X (.Call (.Attribute o name apos) [] [] cpos) (tBM0 X.K T r to) := by
  intro pins s σ H Q I h
  refine wpAny_Call_method0_late hbase hline (thn (ho pins s σ H _ I h) fun v s1 ⟨x, H1, I1, r1, ty, q1⟩ => ?_)
  obtain ⟨h1, h2⟩ := tyV_is I1 r1 ty
  exact ⟨T, id, pa, slot, hty, h1, h2, Calls.callWith_builtin rfl (PySem.evalArgs_none (hm pins s1 σ H1 x [] v [] Q I1 r1 .nil q1))⟩
theorem pe_bm (pa : PlainAttrs T) (slot : Slot T name id) (hty : typeOf (.builtin id) = pure (.type "method_descriptor")) (hm : MtR X id r) (ho : PE X o to) (ha : PA X (e :: es) t)
    (hbase : attributeBase o name X.env (eval o X.env) = eval o X.env := by rfl)
    (hfew : ((backTo cpos (starEach (e :: es) X.env)).all (fun x => !x.1) && (backToKw cpos (keywordEach [] X.env)).all (fun x => x.1.isSome)
      && decide ((e :: es).length + ([] : List Keyword).length + (if ([] : List Keyword).isEmpty then 0 else 1) < 30)) = true := by rfl)
    (hline : (apos.endLine == cpos.line) = true := by rfl) (hs : starEach (e :: es) X.env = (false, eval e X.env) :: starEach es X.env := by rfl) (hplain : (backTo cpos (starEach es X.env)).any (·.1) = false := by rfl) :
    PE X (.Call (.Attribute o name apos) (e :: es) [] cpos) (tBM X.K T r to t) := by
  intro pins s σ H Q I h
  refine wpAny_Call_method_late hbase hfew hline rfl (thn (ho pins s σ H _ I h) fun v s1 ⟨x, H1, I1, r1, ty, q1⟩ => ?_)
  obtain ⟨h1, h2⟩ := tyV_is I1 r1 ty
  refine ⟨T, id, pa, slot, hty, h1, h2, ?_⟩
  have hA := ha cpos pins s1 σ H1 _ I1 q1
  rw [hs] at hA ⊢
  refine Calls.callWith_builtin (by show (false || (backTo cpos (starEach es X.env)).any (·.1)) = false; rw [hplain] <;> rfl) (Calls.evalArgs_plain ?_)
  exact thn hA fun us s2 ⟨vs, H2, I2, r2, q2⟩ => hm pins s2 σ H2 x vs v us Q I2 r1 r2 q2
end
end L2
namespace L2
open PySem PySem.Spec PyProof.Rows
def MtM (X : Cx) (id : String) (r : V → List V → Hp → VK → Prop) : Prop :=
  ∀ (pins : List (Addr × Obj)) (s : Shared) (σ : St) (H : Hp) (x : V) (xs : List V) (v : Value) (us : List Value) (Q : VK), Inv X pins σ H s → RelV x v → Vals xs us → r x xs H Q →
    wpAny (model X.prog X.w) X.A (call (.builtin id) (v :: us)) (EP X pins σ Q) X.xe s
theorem Vals.one : ∀ {x : V} {us : List Value}, Vals [x] us → ∃ u, us = [u] ∧ RelV x u
  | _, _, .cons r .nil => ⟨_, rfl, r⟩
theorem Vals.two : ∀ {x y : V} {us : List Value}, Vals [x, y] us → ∃ u v, us = [u, v] ∧ RelV x u ∧ RelV y v
  | _, _, _, .cons r (.cons q .nil) => ⟨_, _, rfl, r, q⟩
theorem Vals.zero : ∀ {us : List Value}, Vals [] us → us = []
  | _, .nil => rfl
theorem Vals.dropLast {xs : List V} {us : List Value} (h : Vals xs us) : Vals xs.dropLast us.dropLast := by
  induction h with
  | nil => exact .nil
  | cons r t ih =>
    cases t with
    | nil => exact .nil
    | cons q t' => exact .cons r ih
theorem Vals.eraseIdx : ∀ {xs : List V} {us : List Value} (i : Nat), Vals xs us → Vals (xs.eraseIdx i) (us.eraseIdx i)
  | _, _, _, .nil => .nil
  | _, _, 0, .cons _ t => t
  | _, _, i + 1, .cons r t => .cons r (Vals.eraseIdx i t)
theorem Vals.reverse {xs : List V} {us : List Value} (h : Vals xs us) : Vals xs.reverse us.reverse := by
  induction h with
  | nil => exact .nil
  | cons r t ih => rw [List.reverse_cons, List.reverse_cons]; exact Vals.append ih (.cons r .nil)
theorem erase_last {α : Type} (l : List α) : l.eraseIdx (l.length - 1) = l.dropLast := by
  induction l with
  | nil => rfl
  | cons a r ih =>
    cases r with
    | nil => rfl
    | cons b r =>
      have e : (a :: b :: r).length - 1 = ((b :: r).length - 1) + 1 := by
        have h1 : (a :: b :: r).length = r.length + 2 := rfl
        have h2 : (b :: r).length = r.length + 1 := rfl
        omega
      rw [e, List.eraseIdx_cons_succ, ih]
      all_goals rfl
section
variable {X : Cx} {pins : List (Addr × Obj)} {σ : St} {H : Hp} {s : Shared} {l b : Addr} {xs ys zs : List V}
theorem Inv.lset {its its' : List Value} {n : Nat} {f : Array Value → Array Value} {t' : Nat} (I : Inv X pins σ H s) (hH : H l = some (.lst xs))
    (e : s.heap.get? l = some { cls := .type "list", data := .seq its.toArray n }) (hf : f its.toArray = its'.toArray) (hv : Vals ys its') (hz : ys.length ≤ sizeLine) :
    Inv X pins σ (upd H l (.lst ys)) { s with heap := s.heap.update l (Obj.mapSeq f), toks := t' } := by
  have q := PySem.IsL.update e f
  rw [hf] at q
  refine I.write (x := l) (e := l) (by rw [hH]; exact trivial) (.inl rfl) (fun b' u hb hu => (Heap.get?_update_other s.heap (Obj.mapSeq f) (Ne.symm hb)).trans hu) ⟨_, q⟩ ?_
  exact ⟨hz, its', _, hv, q⟩
theorem Inv.lnew {its : List Value} {t' : Nat} (I : Inv X pins σ H s) (hv : Vals ys its) (hz : ys.length ≤ sizeLine) :
    Inv X pins σ (upd H s.heap.objs.size (.lst ys)) { s with heap := s.heap.push { cls := .type "list", data := .seq its.toArray }, toks := t' } :=
  I.laid (fun _ _ q => Heap.get?_push_of_some _ q) (Nat.le_refl _) ⟨hz, its, 0, hv, Heap.get?_push_size _ rfl⟩
theorem Inv.fresh (I : Inv X pins σ H s) : H s.heap.objs.size = none := I.hok.fresh (Nat.le_refl _)
theorem Inv.lstM (I : Inv X pins σ H s) (hH : H l = some (.lst xs)) : xs.length ≤ sizeLine ∧ ∃ (its : List Value) (n : Nat), Vals xs its ∧ xs.length = its.length ∧ s.heap.get? l = some { cls := .type "list", data := .seq its.toArray n } := by
  obtain ⟨z, its, n, r, e⟩ := I.hok l _ hH
  exact ⟨z, its, n, r, r.length, e⟩
theorem notLongL {n : Nat} (h : n ≤ sizeLine) : Builtin.List.listTooLong n = false := by
  unfold Builtin.List.listTooLong
  exact decide_eq_false (by omega)
end
section
variable {X : Cx}
def rAppend : V → List V → Hp → VK → Prop := fun x vs H Q => ∃ l xs y, x = .ref l ∧ vs = [y] ∧ H l = some (.lst xs) ∧ xs.length < sizeLine ∧ Q .non (upd H l (.lst (xs ++ [y])))
theorem mt_append : MtM X "list.append" rAppend := by
  intro pins s σ H x vs v us Q I rx rv h
  obtain ⟨l, xs, y, rfl, rfl, hH, hz, q⟩ := h
  cases rx
  obtain ⟨u, rfl, ru⟩ := rv.one
  obtain ⟨z, its, n, r, hl, e⟩ := I.lstM hH
  refine call_meets F.slot_list_append ⟨_, e, rfl⟩ F.entry_list_append (F.args_list_append_2 _ _) (PySem.list_append l its.toArray n u (by rw [List.size_toArray]; omega)) ⟨e, ?_⟩
  refine ⟨.non, _, I.lset (its' := its ++ [u]) hH e (by simp) (r.append (.cons ru .nil)) ?_, rfl, q⟩
  rw [List.length_append, List.length_singleton]
  omega
def rPop : V → List V → Hp → VK → Prop := fun x vs H Q => ∃ l xs y, x = .ref l ∧ vs = [] ∧ H l = some (.lst xs) ∧ xs[xs.length - 1]? = some y ∧ Q y (upd H l (.lst xs.dropLast))
theorem mt_pop : MtM X "list.pop" rPop := by
  intro pins s σ H x vs v us Q I rx rv h
  obtain ⟨l, xs, y, rfl, rfl, hH, hy, q⟩ := h
  cases rx
  have hus := rv.zero
  subst hus
  obtain ⟨z, its, n, r, hl, e⟩ := I.lstM hH
  obtain ⟨u, hu, ru⟩ := r.get hy
  have hy' : its.toArray[its.toArray.size - 1]? = some u := by
    show its.toArray[its.length - 1]? = some u
    rw [← Array.getElem?_toList, ← hl]
    exact hu
  refine call_meets F.slot_list_pop ⟨_, e, rfl⟩ F.entry_list_pop (F.args_list_pop_1 _) (MeetsSeq.list_pop_last l its.toArray n u hy' (by rw [List.size_toArray]; omega)) ⟨e, ?_⟩
  refine ⟨y, _, I.lset (its' := its.dropLast) hH e ?_ r.dropLast ?_, ru, q⟩
  · show its.toArray.eraseIdxIfInBounds (its.toArray.size - 1) = its.dropLast.toArray
    rw [List.size_toArray, List.eraseIdxIfInBounds_toArray, erase_last]
  · rw [List.length_dropLast]
    omega
end
section
variable {prog : Program} {w : World} {A : Around} {E : Value → Shared → Prop} {s : Shared}
theorem bounds_run {a c n : Nat} (hac : a ≤ c) (hc : c ≤ n) : sliceBounds (some (a : Int)) (some (c : Int)) none n = ((a : Int), (c : Int), 1) := by
  simp only [sliceBounds, Option.getD_none]
  have h1 : ¬ ((a : Int) < 0) := by omega
  have h2 : ¬ ((c : Int) < 0) := by omega
  simp only [h1, h2, if_false, show (1 : Int) > 0 by decide, if_true]
  congr 1
  · omega
  · congr 1; omega
set_option maxRecDepth 100000 in
theorem setItem_slice {l b sl : Addr} {items new : Array Value} {n n2 : Nat} {vl vu : Value} {a c : Nat} {Q : Unit → Shared → Prop}
    (e : s.heap.get? l = some { cls := .type "list", data := .seq items n }) (e2 : s.heap.get? b = some { cls := .type "list", data := .seq new n2 }) (hne : l ≠ b)
    (hs : s.heap.IsSliceOf sl vl vu .none) (pl : IsPart vl (some (a : Int))) (pu : IsPart vu (some (c : Int))) (hac : a ≤ c) (hc : c ≤ items.size)
    (hsz : items.size + new.size ≤ sizeLine) (h : Q () { s with heap := s.heap.update l (Obj.mapSeq fun xs => xs.extract 0 a ++ new ++ xs.extract c xs.size) }) :
    wpAny (model prog w) A (setItem (.ref l) (.ref sl) (.ref b)) Q E s := by
  have hl : s.heap.IsList l items := PySem.IsL.isList e
  have hb : s.heap.IsList b new := PySem.IsL.isList e2
  obtain ⟨os, hos, hcs, hds⟩ := id hs
  have hTs : s.TypeIs (.ref sl) "slice" := ⟨os, hos, hcs⟩
  have hstep : ¬ ((rawPart none == rawInt 0) = true) := Bool.false_ne_true
  have hsame : Builtin.List.listSameRef (.ref l) (.ref b) = false := by
    unfold Builtin.List.listSameRef
    exact beq_eq_false_iff_ne.mpr hne
  have hmax : (max (a : Int) (c : Int)).toNat = c := by omega
  have hz' : ((fun xs : Array Value => xs.extract 0 a ++ new ++ xs.extract c xs.size) items).size ≤ sizeLine + 1 := by
    simp only [Array.size_append, Array.size_extract]
    omega
  unfold setItem
  try with_reducible refine wpAny_holding ?_
  first | refine wpAny_bind (wpAny_pure ?_) | skip
  refine wpAny_bind (wpAny_sequenceKey hl.typeIs (by decide) ?_)
  refine wpAny_bind (wpAny_callSpecial?_slot (name := Str.ofString "__setitem__") hl.typeIs slot_list_setitem
    (wpAny_call_entry slot_list_setitem hl.typeIs entry_list_setitem ?_ (args_list_setitem _ _ _)))
  show wpAny _ _ (Builtin.List.listSubscript? (.ref sl) >>= _) _ _ s
  refine wpAny_bind ?_
  unfold Builtin.List.listSubscript?
  refine wpAny_bind (wpAny_specialOf hTs slice_no_index ?_)
  simp only [Option.isNone_none, if_true]
  refine wpAny_pure ?_
  show wpAny _ _ (typeOf (.ref sl) >>= _) _ _ s
  refine wpAny_bind (wpAny_typeOf hTs ?_)
  first
    | rw [if_neg (by decide)]
    | refine PySem.W.KFB.if_not (by decide) ?_
  rw [listSliceParts_eq]
  refine wpAny_bind (wpAny_bind (wpAny_field hos hds (x := .none) rfl (wpAny_bind (wpAny_listPart .none ?_))))
  rw [if_neg hstep]
  refine wpAny_bind (wpAny_field hos hds (x := vl) rfl (wpAny_bind (wpAny_listPart pl ?_)))
  refine wpAny_bind (wpAny_field hos hds (x := vu) rfl (wpAny_bind (wpAny_listPart pu (wpAny_pure ?_))))
  first
    | simp only [hsame, Bool.false_eq_true, if_false]
    | refine PySem.W.KFB.if_not hsame ?_
    | (dsimp only
       rw [if_neg (by rw [hsame]; exact Bool.false_ne_true)])
  refine wpAny_bind (m := Builtin.List.listAllItems (.ref b) "must assign iterable to extended slice") ?_
  unfold Builtin.List.listAllItems
  refine wpAny_bind (wpAny_typeOf hb.typeIs ?_)
  first
    | refine PySem.W.KFB.if_so (by decide) ?_
    | rw [if_pos (by decide)]
    | simp only [beq_self_eq_true, Bool.true_or, if_true]
  unfold Builtin.List.listItems
  refine wpAny_bind (wpAny_seqItems e2 rfl (wpAny_pure ?_))
  refine wpAny_bind (wpAny_bind (wpAny_seqItems e rfl (wpAny_pure ?_)))
  refine wpAny_bind (wpAny_of_eq ((sliceIndices_raw (some (a : Int)) (some (c : Int)) none items.size (by simp)).trans (congrArg (pure : Int × Int × Int → Sem (Int × Int × Int)) (bounds_run hac hc))) ?_)
  show wpAny _ _ (if ((1 : Int) == 1) = true then _ else _) _ _ s
  rw [if_pos (by decide)]
  refine wpAny_bind (wpAny_rule ?_)
  first
    | simp only [notLongL hsz, Bool.false_eq_true, if_false]
    | refine PySem.W.KFB.if_not (notLongL hsz) ?_
  first | refine wpAny_bind (wpAny_pure ?_) | skip
  show wpAny _ _ (updateSeq l (fun xs => xs.extract 0 ((a : Int)).toNat ++ new ++ xs.extract (max (a : Int) (c : Int)).toNat xs.size) >>= _) _ _ s
  rw [hmax, Int.toNat_natCast]
  refine wpAny_bind (wpAny_updateSeq (hz := Nat.le_trans (Nat.le_add_right _ _) hsz) (_hz' := hz') e rfl ?_)
  refine wpAny_bind (wpAny_letGo ?_)
  first
    | exact wpAny_bind (wpAny_pure (wpAny_pure ⟨.none, rfl, wpAny_pure h⟩))
    | exact wpAny_pure ⟨.none, rfl, wpAny_pure h⟩
end
section
variable {X : Cx}
end
end L2
namespace L2
open PySem PySem.Spec PyProof.Rows
section
variable {κ : Type} [DecidableEq κ]
def valV (kvs : List (κ × V)) (k : κ) : Option V := (kvs.find? fun kv => decide (kv.1 = k)).map (·.2)
def putK (kvs : List (κ × V)) (k : κ) (v : V) : List (κ × V) :=
  if (kvs.any fun kv => decide (kv.1 = k)) = true then kvs.map (fun kv => if kv.1 = k then (kv.1, v) else kv) else kvs ++ [(k, v)]
def dropK (kvs : List (κ × V)) (k : κ) : List (κ × V) := kvs.filter fun kv => decide (kv.1 ≠ k)
theorem valV_nil {k : κ} : valV ([] : List (κ × V)) k = none := rfl
theorem valV_pos {p : κ × V} {r : List (κ × V)} {k : κ} (e : p.1 = k) : valV (p :: r) k = some p.2 := by simp [valV, List.find?_cons, e]
theorem valV_neg {p : κ × V} {r : List (κ × V)} {k : κ} (e : ¬ p.1 = k) : valV (p :: r) k = valV r k := by simp [valV, List.find?_cons, e]
theorem valV_any (k : κ) : ∀ kvs : List (κ × V), (kvs.any fun kv => decide (kv.1 = k)) = (valV kvs k).isSome
  | [] => rfl
  | p :: r => by
    rw [List.any_cons]
    by_cases e : p.1 = k
    · simp only [valV_pos e, decide_eq_true e, Bool.true_or, Option.isSome_some]
    · rw [valV_neg e, decide_eq_false e, Bool.false_or]; exact valV_any k r
theorem valV_map (k j : κ) (y : V) : ∀ kvs : List (κ × V), valV (kvs.map fun kv => if kv.1 = k then (kv.1, y) else kv) j = (valV kvs j).map fun x => if j = k then y else x
  | [] => rfl
  | p :: r => by
    have ih := valV_map k j y r
    rw [List.map_cons]
    by_cases h : p.1 = k
    · rw [if_pos h]
      by_cases e : p.1 = j
      · rw [valV_pos (p := (p.1, y)) e, valV_pos e, Option.map_some, if_pos (e.symm.trans h)]
      · rw [valV_neg (p := (p.1, y)) e, valV_neg e, ih]
    · rw [if_neg h]
      by_cases e : p.1 = j
      · rw [valV_pos (p := p) e, valV_pos e, Option.map_some, if_neg (fun z => h (e.trans z))]
      · rw [valV_neg (p := p) e, valV_neg e, ih]
theorem valV_snoc (k j : κ) (y : V) : ∀ kvs : List (κ × V), valV kvs k = none → valV (kvs ++ [(k, y)]) j = if j = k then some y else valV kvs j
  | [], _ => by
    by_cases e : k = j
    · rw [if_pos e.symm]; exact valV_pos (p := (k, y)) e
    · rw [if_neg (fun z => e z.symm)]; exact valV_neg (p := (k, y)) e
  | p :: r, hn => by
    rw [List.cons_append]
    have hk : ¬ p.1 = k := fun z => by rw [valV_pos z] at hn; cases hn
    rw [valV_neg hk] at hn
    have ih := valV_snoc k j y r hn
    by_cases e : p.1 = j
    · rw [valV_pos e, valV_pos e, if_neg (fun z => hk (e.trans z))]
    · rw [valV_neg e, valV_neg e, ih]
theorem valV_put (kvs : List (κ × V)) (k j : κ) (y : V) : valV (putK kvs k y) j = if j = k then some y else valV kvs j := by
  unfold putK
  by_cases a : (kvs.any fun kv => decide (kv.1 = k)) = true
  · rw [if_pos a, valV_map]
    rw [valV_any] at a
    by_cases e : j = k
    · obtain ⟨x, hx⟩ := Option.isSome_iff_exists.mp a
      rw [if_pos e, e, hx, Option.map_some, if_pos rfl]
    · rw [if_neg e]
      cases valV kvs j with
      | none => rfl
      | some x => rw [Option.map_some, if_neg e]
  · rw [if_neg a]
    refine valV_snoc k j y kvs ?_
    rw [valV_any] at a
    cases q : valV kvs k with
    | none => rfl
    | some x => rw [q] at a; exact (a rfl).elim
theorem length_putK (kvs : List (κ × V)) (k : κ) (v : V) : (putK kvs k v).length ≤ kvs.length + 1 := by
  unfold putK
  split
  · rw [List.length_map]; omega
  · rw [List.length_append, List.length_cons, List.length_nil]; omega
theorem putK_new {kvs : List (κ × V)} {k : κ} (v : V) (h : valV kvs k = none) : putK kvs k v = kvs ++ [(k, v)] := by
  unfold putK
  rw [valV_any, h]
  exact if_neg (by decide)
theorem RelO.isSome_eq {o : Option V} {u : Option Value} (r : RelO o u) : o.isSome = u.isSome := by
  cases o with
  | none => cases u with
    | none => rfl
    | some _ => exact (show False from r).elim
  | some _ => cases u with
    | none => exact (show False from r).elim
    | some _ => rfl
theorem RelO.getD {o : Option V} {u : Option Value} {d : V} {d' : Value} (r : RelO o u) (rd : RelV d d') : RelV (o.getD d) (u.getD d') := by
  cases o with
  | none => cases u with
    | none => exact rd
    | some _ => exact (show False from r).elim
  | some _ => cases u with
    | none => exact (show False from r).elim
    | some _ => exact r
theorem KV.val {kvs : List (κ × V)} {vs : List (κ × Value)} (r : KV kvs vs) (k : κ) : RelO (valV kvs k) (valueAt vs k) := by
  unfold KV at r
  induction r with
  | nil => exact True.intro
  | @cons p q ps qs h t ih =>
    obtain ⟨h1, h2⟩ := h
    by_cases e : p.1 = k
    · have e' : q.1 = k := h1.symm.trans e
      have b : valueAt (q :: qs) k = some q.2 := by simp [valueAt, List.find?_cons, e']
      rw [valV_pos e, b]; exact h2
    · have e' : ¬ q.1 = k := fun z => e (h1.trans z)
      have b : valueAt (q :: qs) k = valueAt qs k := by simp [valueAt, List.find?_cons, e']
      rw [valV_neg e, b]; exact ih
theorem KV.any {kvs : List (κ × V)} {vs : List (κ × Value)} (r : KV kvs vs) (k : κ) : (kvs.any fun kv => decide (kv.1 = k)) = vs.any fun kv => decide (kv.1 = k) := by
  unfold KV at r
  induction r with
  | nil => rfl
  | cons h t ih => rw [List.any_cons, List.any_cons, ih, h.1]
theorem KV.repl {kvs : List (κ × V)} {vs : List (κ × Value)} (r : KV kvs vs) (k : κ) {y : V} {u : Value} (ry : RelV y u) :
    KV (kvs.map fun kv => if kv.1 = k then (kv.1, y) else kv) (vs.map fun kv => if kv.1 = k then (kv.1, u) else kv) := by
  unfold KV at r ⊢
  induction r with
  | nil => exact .nil
  | @cons p q ps qs h t ih =>
    rw [List.map_cons, List.map_cons]
    refine .cons ?_ ih
    obtain ⟨h1, h2⟩ := h
    by_cases e : p.1 = k
    · rw [if_pos e, if_pos (h1.symm.trans e)]; exact ⟨h1, ry⟩
    · rw [if_neg e, if_neg (fun z => e (h1.trans z))]; exact ⟨h1, h2⟩
theorem KV.put {kvs : List (κ × V)} {vs : List (κ × Value)} (r : KV kvs vs) (k : κ) {y : V} {u : Value} (ry : RelV y u) : KV (putK kvs k y) (stored vs k u) := by
  unfold putK stored
  rw [r.any k]
  by_cases e : (vs.any fun kv => decide (kv.1 = k)) = true
  · rw [if_pos e, if_pos e]; exact r.repl k ry
  · rw [if_neg e, if_neg e]; exact Paired.snoc r ⟨rfl, ry⟩
theorem KV.drop {kvs : List (κ × V)} {vs : List (κ × Value)} (r : KV kvs vs) (k : κ) : KV (dropK kvs k) (without vs k) := by
  unfold KV at r ⊢
  unfold dropK without
  induction r with
  | nil => exact .nil
  | @cons p q ps qs h t ih =>
    obtain ⟨h1, h2⟩ := h
    rw [List.filter_cons, List.filter_cons]
    by_cases e : p.1 = k
    · have a : ¬ decide (p.1 ≠ k) = true := by simp [e]
      have b : ¬ decide (q.1 ≠ k) = true := by simp [h1.symm.trans e]
      rw [if_neg a, if_neg b]; exact ih
    · have e' : ¬ q.1 = k := fun z => e (h1.trans z)
      have a : decide (p.1 ≠ k) = true := by simp [e]
      have b : decide (q.1 ≠ k) = true := by simp [e']
      rw [if_pos a, if_pos b]; exact .cons ⟨h1, h2⟩ ih
theorem KV.keys {kvs : List (κ × V)} {vs : List (κ × Value)} (r : KV kvs vs) : kvs.map (·.1) = vs.map (·.1) := by
  unfold KV at r
  induction r with
  | nil => rfl
  | cons h t ih => rw [List.map_cons, List.map_cons, ih, h.1]
theorem KV.length {kvs : List (κ × V)} {vs : List (κ × Value)} (r : KV kvs vs) : kvs.length = vs.length := Paired.length r
end
theorem kV_is {P : Program} {w : World} {k : Key} {u : Value} (r : RelV (kV k) u) : (mixKind P w).is k u = true := by
  cases k with
  | inl i => obtain ⟨t, e⟩ := (show ∃ t, u = Value.int i t from r); subst e; exact mixKind_int P w i t
  | inr x => obtain ⟨t, e⟩ := (show ∃ t, u = Value.str x t from r); subst e; exact mixKind_str P w x t
theorem items_are {P : Program} {w : World} : ∀ {ks : List Key} {us : List Value}, Vals (ks.map kV) us → ItemsAre (mixKind P w) ks us
  | [], _, r => by rw [List.map_nil] at r; cases r; exact .nil
  | k :: ks, _, r => by
    rw [List.map_cons] at r
    cases r with
    | cons h t => exact .cons (kV_is h) (items_are t)
abbrev KT (H : Hp) : List (List Key × V) → List (List Key × Addr × Value) → Prop := Paired fun p q => p.1 = q.1 ∧ H q.2.1 = some (.tup (p.1.map kV)) ∧ RelV p.2 q.2.2
theorem KT.val {H : Hp} {kvs : List (List Key × V)} {xs : List (List Key × Addr × Value)} (r : KT H kvs xs) (k : List Key) : RelO (valV kvs k) ((atKey xs k).map (·.2)) := by
  induction r with
  | nil => exact True.intro
  | @cons p q ps qs h t ih =>
    obtain ⟨h1, _, h2⟩ := h
    by_cases e : p.1 = k
    · have e' : q.1 = k := h1.symm.trans e
      have b : atKey (q :: qs) k = some q.2 := by simp [atKey, List.find?_cons, e']
      rw [valV_pos e, b]; exact h2
    · have e' : ¬ q.1 = k := fun z => e (h1.trans z)
      have b : atKey (q :: qs) k = atKey qs k := by simp [atKey, List.find?_cons, e']
      rw [valV_neg e, b]; exact ih
theorem KT.repl {H : Hp} {kvs : List (List Key × V)} {xs : List (List Key × Addr × Value)} (r : KT H kvs xs) (k : List Key) {y : V} {u : Value} (ry : RelV y u) :
    KT H (kvs.map fun kv => if kv.1 = k then (kv.1, y) else kv) (xs.map (putAt k u)) := by
  induction r with
  | nil => exact .nil
  | @cons p q ps qs h t ih =>
    rw [List.map_cons, List.map_cons]
    refine .cons ?_ ih
    obtain ⟨h1, h2, h3⟩ := h
    unfold putAt
    by_cases e : p.1 = k
    · rw [if_pos e, if_pos (h1.symm.trans e)]; exact ⟨h1, h2, ry⟩
    · rw [if_neg e, if_neg (fun z => e (h1.trans z))]; exact ⟨h1, h2, h3⟩
theorem KT.put {H : Hp} {kvs : List (List Key × V)} {xs : List (List Key × Addr × Value)} (r : KT H kvs xs) (k : List Key) {b : Addr} {y : V} {u : Value} (hb : H b = some (.tup (k.map kV))) (ry : RelV y u) :
    KT H (putK kvs k y) (storedH xs k b u) := by
  have e : (kvs.any fun kv => decide (kv.1 = k)) = (atKey xs k).isSome := by
    rw [valV_any, (r.val k).isSome_eq, Option.isSome_map]
  unfold putK storedH
  rw [e]
  by_cases q : (atKey xs k).isSome = true
  · rw [if_pos q, if_pos q]; exact r.repl k ry
  · rw [if_neg q, if_neg q]; exact Paired.snoc r ⟨rfl, hb, ry⟩
theorem KT.keeps {H H' : Hp} {kvs : List (List Key × V)} {xs : List (List Key × Addr × Value)} (r : KT H kvs xs) (ht : ∀ b ys, H b = some (.tup ys) → H' b = some (.tup ys)) : KT H' kvs xs :=
  Paired.mapP r fun _ _ z => ⟨z.1, ht _ _ z.2.1, z.2.2⟩
section
variable {P : Program} {w : World} {H : Hp} {h : Heap} {a : Addr}
theorem rd_of {u : HO} (ok : HOk P w H h) (e : Rd H a u) : ObjOk P w H h a u := e.ok ok
theorem dk_rd {kvs : List (Key × V)} (ok : HOk P w H h) (e : Rd H a (.dK kvs)) : kvs.length ≤ sizeLine ∧ (a == sysModules) = false ∧ ∃ vs, KV kvs vs ∧ h.DictOf (mixKind P w) a vs :=
  show ObjOk P w H h a (.dK kvs) from rd_of ok e
theorem dk_of {kvs : List (Key × V)} (ok : HOk P w H h) (e : H a = some (.dK kvs)) : kvs.length ≤ sizeLine ∧ (a == sysModules) = false ∧ ∃ vs, KV kvs vs ∧ h.DictOf (mixKind P w) a vs := dk_rd ok (.inl e)
theorem key_of {ks : List Key} (ok : HOk P w H h) (e : H a = some (.tup (ks.map kV))) : (tupleKind (mixKind P w)).is h ks a := by
  obtain ⟨_, its, r, o, h1, h2, n, h3⟩ := (show ObjOk P w H h a (.tup (ks.map kV)) from ok a _ e)
  exact ⟨o, its.toArray, n, h1, h2, h3, by simpa using items_are r⟩
theorem dt_rd {kvs : List (List Key × V)} (ok : HOk P w H h) (e : Rd H a (.dT kvs)) : kvs.length ≤ sizeLine ∧ (a == sysModules) = false ∧
    ∃ xs, KT H kvs xs ∧ h.DictOfH (tupleKind (mixKind P w)) a xs := by
  obtain ⟨z, y, xs, r, o, es, ep, h1, h2, h3, h4, h5⟩ := (show ObjOk P w H h a (.dT kvs) from rd_of ok e)
  refine ⟨z, y, xs, r, o, es, ep, h1, h2, h3, h4, fun x hx => ?_, h5⟩
  have all : ∀ {l : List (List Key × V)} {m : List (List Key × Addr × Value)}, KT H l m → ∀ x ∈ m, (tupleKind (mixKind P w)).is h x.1 x.2.1 := by
    intro l m q
    induction q with
    | nil => intro x hx; exact nomatch hx
    | @cons p q ps qs hq t ih =>
      intro x hx
      rcases List.mem_cons.mp hx with e | hx
      · subst e
        exact key_of ok (by rw [← hq.1]; exact hq.2.1)
      · exact ih x hx
  exact all r x hx
theorem dt_of {kvs : List (List Key × V)} (ok : HOk P w H h) (e : H a = some (.dT kvs)) : kvs.length ≤ sizeLine ∧ (a == sysModules) = false ∧
    ∃ xs, KT H kvs xs ∧ h.DictOfH (tupleKind (mixKind P w)) a xs := dt_rd ok (.inl e)
end
def DGet (H : Hp) (a : Addr) (y : V) (r : Option V) : Prop :=
  (∃ kvs k, Rd H a (.dK kvs) ∧ y = kV k ∧ r = valV kvs k) ∨ ∃ kvs k b, Rd H a (.dT kvs) ∧ y = .ref b ∧ H b = some (.tup (k.map kV)) ∧ r = valV kvs k
def DPut (H : Hp) (a : Addr) (y v : V) (H' : Hp) : Prop :=
  (∃ kvs k, H a = some (.dK kvs) ∧ y = kV k ∧ kvs.length < sizeLine ∧ H' = upd H a (.dK (putK kvs k v))) ∨
  ∃ kvs k b, H a = some (.dT kvs) ∧ y = .ref b ∧ H b = some (.tup (k.map kV)) ∧ kvs.length < sizeLine ∧ H' = upd H a (.dT (putK kvs k v))
theorem DGet.k {H : Hp} {a : Addr} {kvs : List (Key × V)} {k : Key} (e : H a = some (.dK kvs)) : DGet H a (kV k) (valV kvs k) := .inl ⟨kvs, k, .inl e, rfl, rfl⟩
theorem DGet.t {H : Hp} {a b : Addr} {kvs : List (List Key × V)} {k : List Key} (e : H a = some (.dT kvs)) (eb : H b = some (.tup (k.map kV))) : DGet H a (.ref b) (valV kvs k) := .inr ⟨kvs, k, b, .inl e, rfl, eb, rfl⟩
theorem DPut.k {H : Hp} {a : Addr} {kvs : List (Key × V)} {k : Key} {v : V} (e : H a = some (.dK kvs)) (hl : kvs.length < sizeLine) : DPut H a (kV k) v (upd H a (.dK (putK kvs k v))) := .inl ⟨kvs, k, e, rfl, hl, rfl⟩
theorem DPut.t {H : Hp} {a b : Addr} {kvs : List (List Key × V)} {k : List Key} {v : V} (e : H a = some (.dT kvs)) (eb : H b = some (.tup (k.map kV))) (hl : kvs.length < sizeLine) :
    DPut H a (.ref b) v (upd H a (.dT (putK kvs k v))) := .inr ⟨kvs, k, b, e, rfl, eb, hl, rfl⟩
section
variable {X : Cx} {pins : List (Addr × Obj)} {σ : St} {H : Hp} {s : Shared} {a : Addr} {y v : V} {u r : Value} {o : Option V} {A : Around} {E : Value → Shared → Prop}
theorem Inv.big (I : Inv X pins σ H s) : sysModules < s.heap.objs.size := by
  have h : mainGlobals < s.heap.objs.size := (I.mod.glob.keeps I.bk).lt
  exact Nat.lt_trans (by decide) h
theorem d_getItem {Q : Value → Shared → Prop} (hu : A.units + 1 < cLine) (I : Inv X pins σ H s) (g : DGet H a y (some v)) (ry : RelV y u) (h : ∀ w' s', Inv X pins σ H s' → RelV v w' → Q w' s') :
    wpAny (model X.prog X.w) A (getItem (.ref a) u) Q E s := by
  rcases g with ⟨kvs, k, e, ey, l⟩ | ⟨kvs, k, b, e, ey, eb, l⟩
  · subst ey
    obtain ⟨z, hd, vs, rel, dd⟩ := dk_rd I.hok e
    obtain ⟨w', hw, rw'⟩ := RelO.some_of (v := v) (o := valueAt vs k) (by rw [l]; exact rel.val k)
    exact wpAny_getItem_of (kV_is ry) dd.mapOf hw (h w' _ (I.tok _) rw')
  · subst ey
    cases (show u = Value.ref b from ry)
    obtain ⟨z, hd, xs, rel, dd⟩ := dt_rd I.hok e
    obtain ⟨w', hw, rw'⟩ := RelO.some_of (v := v) (o := (atKey xs k).map (·.2)) (by rw [l]; exact rel.val k)
    obtain ⟨p, hp, hp2⟩ := Option.map_eq_some_iff.mp hw
    refine wpAny_getItem_heap (tupleKind_room_in1 hu) (key_of I.hok eb) dd hp ?_
    rw [hp2]
    exact h w' _ (I.tok _) rw'
theorem d_in {Q : Value → Shared → Prop} (hu : A.units + 1 < cLine) (I : Inv X pins σ H s) (g : DGet H a y o) (ry : RelV y u) (h : ∀ s', Inv X pins σ H s' → Q (.bool o.isSome) s') :
    wpAny (model X.prog X.w) A (compareOp .In u (.ref a)) Q E s := by
  rcases g with ⟨kvs, k, e, ey, l⟩ | ⟨kvs, k, b, e, ey, eb, l⟩
  · subst ey
    obtain ⟨z, hd, vs, rel, dd⟩ := dk_rd I.hok e
    refine wpAny_in_of (kV_is ry) hd dd.mapOf ?_
    rw [← (rel.val k).isSome_eq, ← l]
    exact h _ (I.tok _)
  · subst ey
    cases (show u = Value.ref b from ry)
    obtain ⟨z, hd, xs, rel, dd⟩ := dt_rd I.hok e
    refine wpAny_in_heap (tupleKind_room_in1 hu) (key_of I.hok eb) hd dd ?_
    have q := (rel.val k).isSome_eq
    rw [Option.isSome_map] at q
    rw [← q, ← l]
    exact h _ (I.tok _)
theorem d_notIn {Q : Value → Shared → Prop} (hu : A.units + 1 < cLine) (I : Inv X pins σ H s) (g : DGet H a y o) (ry : RelV y u) (h : ∀ s', Inv X pins σ H s' → Q (.bool (!o.isSome)) s') :
    wpAny (model X.prog X.w) A (compareOp .NotIn u (.ref a)) Q E s := by
  rcases g with ⟨kvs, k, e, ey, l⟩ | ⟨kvs, k, b, e, ey, eb, l⟩
  · subst ey
    obtain ⟨z, hd, vs, rel, dd⟩ := dk_rd I.hok e
    refine wpAny_notIn_of (kV_is ry) hd dd.mapOf ?_
    rw [← (rel.val k).isSome_eq, ← l]
    exact h _ (I.tok _)
  · subst ey
    cases (show u = Value.ref b from ry)
    obtain ⟨z, hd, xs, rel, dd⟩ := dt_rd I.hok e
    refine wpAny_notIn_heap (tupleKind_room_in1 hu) (key_of I.hok eb) hd dd ?_
    have q := (rel.val k).isSome_eq
    rw [Option.isSome_map] at q
    rw [← q, ← l]
    exact h _ (I.tok _)
theorem d_write {h' : Heap} {t' : Nat} {ob : HO} (I : Inv X pins σ H s) (mu : Mut (H a)) (hs : Heap.SameBut a s.heap h') (he : ∃ q, h'.get? a = some q) (new : ObjOk X.prog X.w (upd H a ob) h' a ob) :
    Inv X pins σ (upd H a ob) { s with heap := h', toks := t' } :=
  I.write (x := a) (e := a) mu (.inl rfl) (fun b q hb z => (hs.2 b hb).trans z) he new
theorem dk_new {P : Program} {w : World} {H' : Hp} {h' : Heap} {kvs : List (Key × V)} {vs : List (Key × Value)} (z : kvs.length ≤ sizeLine) (hd : (a == sysModules) = false) (rel : KV kvs vs) (dd : h'.DictOf (mixKind P w) a vs) :
    ObjOk P w H' h' a (.dK kvs) := ⟨z, hd, vs, rel, dd⟩
theorem d_setItem {H' : Hp} {Q : Unit → Shared → Prop} (hu : A.units + 1 < cLine) (I : Inv X pins σ H s) (g : DPut H a y v H') (ry : RelV y u) (rv : RelV v r) (h : ∀ s', Inv X pins σ H' s' → Q () s') :
    wpAny (model X.prog X.w) A (setItem (.ref a) u r) Q E s := by
  rcases g with ⟨kvs, k, e, ey, l, eH⟩ | ⟨kvs, k, b, e, ey, eb, l, eH⟩
  · subst ey eH
    obtain ⟨z, hd, vs, rel, dd⟩ := dk_of I.hok e
    have hz : vs.length ≤ sizeLine := by rw [← rel.length]; exact z
    have hl : (putK kvs k v).length ≤ sizeLine := by have := length_putK kvs k v; omega
    refine wpAny_setItem_pairs (hsz := hz) (kV_is ry) dd fun h' dd' hs => h _ ?_
    have he : ∃ q, h'.get? a = some q := let ⟨q, _, _, hq, _⟩ := dd'; ⟨q, hq⟩
    exact d_write I (by rw [e]; exact True.intro) hs he (dk_new hl hd (rel.put k rv) dd')
  · subst ey eH
    cases (show u = Value.ref b from ry)
    obtain ⟨z, hd, xs, rel, dd⟩ := dt_of I.hok e
    have hz : xs.length ≤ sizeLine := by rw [← Paired.length rel]; exact z
    have hl : (putK kvs k v).length ≤ sizeLine := by have := length_putK kvs k v; omega
    refine wpAny_setItem_heap (hsz := hz) (tupleKind_room_in1 hu) (key_of I.hok eb) dd fun h' dd' hs => h _ ?_
    obtain ⟨q, es, ep, hq, h2, h3, h4, _, h5⟩ := dd'
    refine d_write I (by rw [e]; exact True.intro) hs ⟨q, hq⟩ ⟨hl, hd, _, (rel.put k eb rv).keeps fun c ys ec => ?_, q, es, ep, hq, h2, h3, h4, h5⟩
    rw [upd_ne (ne_of ec e (fun z => nomatch z))]
    exact ec
end
section
variable {X : Cx} {pins : List (Addr × Obj)} {σ : St} {H : Hp} {s : Shared} {a : Addr} {kvs : List (Key × V)} {k : Key} {u : Value} {A : Around} {E : Value → Shared → Prop}
end
def NoSl (i : Expr) : Prop := ∀ ov iv, subscripted i false ov iv = operate [ov, iv] (getItem ov iv)
theorem subD_of {prog : Program} {w : World} {A : Around} {E : Value → Shared → Prop} {s : Shared} {env : Env} {value slice : Expr} {pos : Pos} {T id : String} {Q : Value → Shared → Prop}
    (hl : typeLookup (.type T) "__getitem__" = pure (some (.builtin id))) (hs : NoSl slice)
    (h : wpAny (model prog w) A (eval value env) (fun o s₁ => wpAny (model prog w) A (eval slice env) (fun i s₂ => s₂.TypeIs o T ∧ wpAny (model prog w) A (getItem o i) Q E s₂) E s₁) E s) :
    wpAny (model prog w) A (eval (.Subscript value slice pos) env) Q E s := by
  refine Subscript_ (wpAny_mono h (fun o s₁ h₁ => wpAny_mono h₁ (fun i s₂ h₂ => ?_) fun _ _ x => x) fun _ _ x => x)
  obtain ⟨hT, h₂⟩ := h₂
  unfold subscriptTail
  refine wpAny_bind ?_
  rw [getitemInPython_of_ne hT.not_modules]
  refine wpAny_bind (wpAny_specialOf hT hl ?_)
  have fin : wpAny (model prog w) A (subscripted slice false o i) (fun r s₃ => wpAny (model prog w) A (letTemporaryGo value o r >>= fun _ => pure r) Q E s₃) E s₂ := by
    rw [hs o i]
    exact wpAny_operating (wpAny_mono h₂ (fun r s₃ h₃ => wpAny_bind (wpAny_letTemporaryGo (wpAny_pure h₃))) fun _ _ x => x)
  first
    | exact wpAny_pure (wpAny_bind fin)
    | exact wpAny_bind (wpAny_pure (wpAny_bind fin))
    | exact wpAny_bind fin
theorem dict_typeIs {X : Cx} {pins : List (Addr × Obj)} {σ : St} {H : Hp} {s : Shared} {a : Addr} {y : V} {o : Option V} (I : Inv X pins σ H s) (g : DGet H a y o) : s.TypeIs (.ref a) "dict" := by
  rcases g with ⟨kvs, k, e, _, _⟩ | ⟨kvs, k, b, e, _, _, _⟩
  · obtain ⟨_, _, vs, _, dd⟩ := dk_rd I.hok e
    exact dd.typeIs
  · obtain ⟨_, _, xs, _, dd⟩ := dt_rd I.hok e
    exact dd.typeIs
def tDGet (td ty : TE) : TE := fun σ H Q => td σ H fun x H1 => ty σ H1 fun y H2 => ∃ a v, x = .ref a ∧ DGet H2 a y (some v) ∧ Q v H2
def tDIn (ty td : TE) : TE := fun σ H Q => ty σ H fun y H1 => td σ H1 fun x H2 => ∃ a o, x = .ref a ∧ DGet H2 a y o ∧ Q (.bl o.isSome) H2
def tDNotIn (ty td : TE) : TE := fun σ H Q => ty σ H fun y H1 => td σ H1 fun x H2 => ∃ a o, x = .ref a ∧ DGet H2 a y o ∧ Q (.bl (!o.isSome)) H2
def sDPut (td ty tv : TE) : TS := fun D σ H => tv σ H fun v H1 => td σ H1 fun x H2 => ty σ H2 fun y H3 => ∃ a H4, x = .ref a ∧ DPut H3 a y v H4 ∧ D.nx σ H4
section
variable {X : Cx} {o i e value : Expr} {pos pos' tpos : Pos} {td ty tv : TE}
theorem pe_dget (hu : X.A.units + 1 < cLine) (ho : PE X o td) (hi : PE X i ty) (hs : NoSl i) : PE X (.Subscript o i pos) (tDGet td ty) := by
  intro pins s σ H Q I h
  refine subD_of PySem.F.slot_dict_getitem.lookup hs (thn (ho pins s σ H _ I h) fun u s1 ⟨x, H1, I1, rx, q1⟩ => thn (hi pins s1 σ H1 _ I1 q1) fun iv s2 ⟨y, H2, I2, ry, a, v, ex, g, q2⟩ => ?_)
  subst ex
  obtain rfl : u = Value.ref a := rx
  exact ⟨dict_typeIs I2 g, d_getItem hu I2 g ry fun w' s3 I3 rw' => ⟨v, H2, I3, rw', q2⟩⟩
theorem pc_din (hu : X.A.units + 1 < cLine) (hi : PE X i ty) (ho : PE X o td) : PC X .In i o (tDIn ty td) := by
  intro pins s σ H Q I h
  refine thn (hi pins s σ H _ I h) fun iv s1 ⟨y, H1, I1, ry, q1⟩ => thn (ho pins s1 σ H1 _ I1 q1) fun u s2 ⟨x, H2, I2, rx, a, ov, ex, g, q2⟩ => ?_
  subst ex
  obtain rfl : u = Value.ref a := rx
  exact d_in hu I2 g ry fun s3 I3 => ⟨.bl ov.isSome, H2, I3, rfl, q2⟩
theorem pc_dnotin (hu : X.A.units + 1 < cLine) (hi : PE X i ty) (ho : PE X o td) : PC X .NotIn i o (tDNotIn ty td) := by
  intro pins s σ H Q I h
  refine thn (hi pins s σ H _ I h) fun iv s1 ⟨y, H1, I1, ry, q1⟩ => thn (ho pins s1 σ H1 _ I1 q1) fun u s2 ⟨x, H2, I2, rx, a, ov, ex, g, q2⟩ => ?_
  subst ex
  obtain rfl : u = Value.ref a := rx
  exact d_notIn hu I2 g ry fun s3 I3 => ⟨.bl (!ov.isSome), H2, I3, rfl, q2⟩
theorem ps_dput (hu : X.A.units + 1 < cLine) (ho : PE X o td) (hi : PE X i ty) (hv : PE X value tv) (hs : swapsWith value (some (.Subscript o i pos')) pos.line X.env = pure false) :
    PS X (.Assign [.Subscript o i pos'] value pos) (sDPut td ty tv) := by
  intro pins s σ H D I h
  refine wpAny_Assign_Subscript (thn (hv pins s σ H _ I h) fun r s1 ⟨v, H1, I1, rv, q1⟩ => thn (ho pins s1 σ H1 _ I1 q1) fun u s2 ⟨x, H2, I2, rx, q2⟩ => thn (hi pins s2 σ H2 _ I2 q2) fun iv s3 ⟨y, H3, I3, ry, a, H4, ex, g, q3⟩ => ?_) hs
  subst ex
  obtain rfl : u = Value.ref a := rx
  exact d_setItem hu I3 g ry rv fun s4 I4 => ⟨σ, H4, I4, q3⟩
end
theorem dt_empty {P : Program} {w : World} {H : Hp} (h : Heap) (hb : sysModules < h.objs.size) : ObjOk P w H (h.push { cls := .type "dict", data := .dict #[] }) h.objs.size (.dT []) :=
  ⟨Nat.zero_le _, beq_eq_false_iff_ne.mpr (Ne.symm (Nat.ne_of_lt hb)), [], .nil, _, #[], 0, Heap.get?_push_size _ rfl, ⟨rfl, rfl, rfl⟩, rfl, rfl, List.nodup_nil⟩
def tDNewT : TE := fun _ H Q => ∀ p, H p = none → Q (.ref p) (upd H p (.dT []))
section
variable {X : Cx} {pos : Pos}
theorem pe_dnewT : PE X (.Dict [] [] pos) tDNewT := fun pins s σ H Q I h =>
  wpAny_Dict_empty ⟨.ref s.heap.objs.size, _, I.laid (a := s.heap.objs.size) (o := .dT []) (t' := s.toks) (fun _ _ q => Heap.get?_push_of_some _ q) (Nat.le_refl _) (dt_empty s.heap I.big), rfl, h _ (I.hok.fresh (Nat.le_refl _))⟩
end
def mergeK (kvs more : List (Key × V)) : List (Key × V) := more.foldl (fun acc kv => putK acc kv.1 kv.2) kvs
theorem KV.merge : ∀ {more : List (Key × V)} {rs : List (Key × Value)} {kvs : List (Key × V)} {vs : List (Key × Value)}, KV more rs → KV kvs vs → KV (mergeK kvs more) (merged vs rs) := by
  intro more rs kvs vs r
  unfold KV at r
  induction r generalizing kvs vs with
  | nil => intro q; exact q
  | @cons p q ps qs h t ih =>
    intro r0
    have e : KV (putK kvs p.1 p.2) (stored vs q.1 q.2) := by
      have := r0.put p.1 h.2
      rw [← h.1]; exact this
    exact ih e
structure M1 (X : Cx) (o : Expr) (m : Str) (apos : Pos) (e : Expr) (cpos : Pos) : Prop where
  base : attributeBase o m X.env (eval o X.env) = eval o X.env
  few : ((backTo cpos (starEach [e] X.env)).all (fun x => !x.1) && (backToKw cpos (keywordEach [] X.env)).all (fun x => x.1.isSome)
    && decide (([e] : List Expr).length + ([] : List Keyword).length + (if ([] : List Keyword).isEmpty then 0 else 1) < 30)) = true
  line : (apos.endLine == cpos.line) = true
  trees : backTo cpos (starEach [e] X.env) = [(false, eval e X.env)]
structure M2 (X : Cx) (o : Expr) (m : Str) (apos : Pos) (e f : Expr) (cpos : Pos) : Prop where
  base : attributeBase o m X.env (eval o X.env) = eval o X.env
  few : ((backTo cpos (starEach [e, f] X.env)).all (fun x => !x.1) && (backToKw cpos (keywordEach [] X.env)).all (fun x => x.1.isSome)
    && decide (([e, f] : List Expr).length + ([] : List Keyword).length + (if ([] : List Keyword).isEmpty then 0 else 1) < 30)) = true
  line : (apos.endLine == cpos.line) = true
  trees : backTo cpos (starEach [e, f] X.env) = [(false, eval e X.env), (false, eval f X.env)]
section
variable {X : Cx} {pins : List (Addr × Obj)} {σ : St} {H : Hp} {s : Shared} {a : Addr} {y d : V} {u r : Value} {o : Option V} {A : Around} {E : Value → Shared → Prop}
end
section
variable {X : Cx} {o e f : Expr} {apos cpos : Pos} {td ty tx : TE}
end
section
variable {X : Cx} {pins : List (Addr × Obj)} {σ : St} {H : Hp} {s : Shared} {a : Addr} {kvs : List (Key × V)} {A : Around} {E : Value → Shared → Prop}
theorem d_copyOf {Q : Value → Shared → Prop} (I : Inv X pins σ H s) (e : Rd H a (.dK kvs)) (h : ∀ p s', H p = none → Inv X pins σ (upd H p (.dK kvs)) s' → Q (.ref p) s') : wpAny (model X.prog X.w) A (call (.type "dict") [.ref a]) Q E s := by
  obtain ⟨z, hd, vs, rel, dd⟩ := dk_rd I.hok e
  refine kt_call_dict hd dd (by rw [← rel.length]; exact z) fun h' dd' hs => ?_
  refine h _ _ (I.hok.fresh (Nat.le_refl _)) (I.laid (a := s.heap.objs.size) (o := .dK kvs) (t' := s.toks) (fun b q hq => ?_) (Nat.le_refl _) (dk_new z (beq_eq_false_iff_ne.mpr (Ne.symm (Nat.ne_of_lt I.big))) rel dd'))
  exact (hs.2 b (Nat.ne_of_lt (Heap.lt_size hq))).trans (Heap.get?_push_of_some _ hq)
end
section
variable {X : Cx} {pins : List (Addr × Obj)} {σ : St} {H : Hp} {s : Shared} {a : Addr} {y : V} {u : Value} {A : Around} {E : Value → Shared → Prop}
end
end L2
namespace Att
open PySem PySem.W PySem.Calls PyProof.Rows
theorem ints_of_wellAll {P : Params} {h : Heap} : ∀ (ns : List Int) (vs : List Value), WellAll P h vs (ns.map WData.int) → IntsAre vs ns := by
  intro ns
  induction ns with
  | nil =>
    intro vs w
    rw [List.map_nil] at w
    cases w
    exact .nil
  | cons n ns ih =>
    intro vs w
    rw [List.map_cons] at w
    cases w with
    | cons a b =>
      cases a
      exact .cons _ _ (ih _ b)
theorem script_of {l : OpenLaw} {n : Nat} (hn : l.most = some n) {P : Params} {h : Heap} {args : List WData} {vals : List Value}
    (hpre : l.row.toRowW.claim.pre args = true) (hwl : WellAll P h vals args) :
    ∃ a vs ns, vals = [Value.ref a] ∧ args = [WData.list (ns.map WData.int)] ∧ h.get? a = some { cls := .type "list", data := .seq vs.toArray } ∧ IntsAre vs ns ∧ ns.length ≤ n := by
  have hsh : WShape.hasAll [] args [.list .int] = true := (pre_splitW hpre).1
  have hc : l.pre.holds [] { args := args } = true := (pre_splitW hpre).2
  obtain ⟨d, r, rfl, h1, h2⟩ := hasAllW_cons hsh
  obtain rfl := hasAllW_nil h2
  obtain ⟨xs, rfl, h3⟩ := hasW_list h1
  obtain ⟨ns, rfl⟩ := items_int h3
  have hlen : ns.length ≤ n := by
    unfold OpenLaw.pre at hc
    have h4 : (WTm.not (.lt (.lit (.int (n : Int))) (.len (.arg 0)))).holds [] { args := [.list (ns.map .int)] } = true := by
      have h4 := (holds_andW hc).1
      rw [hn] at h4
      exact h4
    have h5 := condW_of h4 (w_not (w_lt w_lit (w_len_list (w_arg rfl))))
    rw [List.length_map] at h5
    refine Nat.le_of_not_lt fun q => ?_
    have q' : (n : Int) < ((ns.length : Nat) : Int) := by omega
    first
      | (rw [decide_eq_true q'] at h5; exact absurd h5 (by decide))
      | (simp at h5; omega)
  cases hwl with
  | cons w1 w2 =>
    cases w2
    cases w1 with
    | list ho hall => exact ⟨_, _, ns, rfl, rfl, ho, ints_of_wellAll ns _ hall, hlen⟩
theorem post_true (l : OpenLaw) (args : List WData) : l.row.toRowW.claim.post args (.bool true) args = true :=
  postW_of (r := l.row.toRowW) (X := (true == true))
    (show WShape.has [] (.bool true) .bool = true by first | rfl | decide | simp [WShape.has, WShape.arms, WShape.armsAll])
    (show (WTm.eq .res (.lit (.bool true))).value [] { args := args, res := some (.bool true), after := args } = some (.bool (true == true)) from w_eq_bool (w_res rfl) w_lit) rfl
theorem attach_call {l : OpenLaw} {n : Nat} {q : Program} {loose : List Str} {XP : (Str → Option Value) → Heap → Prop} {YP : World → Heap → Prop} {d : DefRec}
    (hn : l.most = some n) (hdf : d.params.defaults = [])
    (call : ∀ (w : World) (s₀ s₁ : Shared) (mg mb : Str → Option Value) (fa : Addr) (o : Obj) (pm cd doc : Value) (a : Addr) (vs : List Value) (ns : List Int),
      Ground q loose [] XP w s₀ mg mb s₁.heap → YP w s₁.heap →
      s₁.heap.get? fa = some o → o.data = .func (docDef d.name d.params d.body d.scope pm cd doc) → s₁.heap.CodeRec cd d.name → mg d.name = some (.ref fa) →
      s₁.heap.get? a = some { cls := .type "list", data := .seq vs.toArray } → IntsAre vs ns → ns.length ≤ n → s₁.gens = #[] →
      codeAny (model l.prog w) callerA (.call (.ref fa) ⟨[.ref a], []⟩) (fun r s' => r = .ok (.ret (.bool true)) ∧ OldK s₁.heap s'.heap ∧ s'.os = s₁.os ∧ AllBare s'.gens) s₁) :
    WalkO q loose XP YP l.row.toRowW d [] (fun f vs => PySem.call f vs) := by
  intro w s₀ s₁ mg mb G Y fa o pm cd doc dV kV ho hd hcd hD hmg hg args vals as hpre hlay hrd hwl hlo
  obtain rfl : dV = .none := Dflts.none hD hdf
  obtain rfl : kV = .none := Dflts.noKw hD
  obtain ⟨a, vs, ns, rfl, rfl, hobj, hints, hlen⟩ := script_of hn hpre hwl
  refine enter_call (codeAny_mono (call w s₀ s₁ mg mb fa o pm cd doc a vs ns G Y ho (fd_plain hd) hcd hmg hobj hints hlen hg) fun r s' hq => ?_)
  obtain ⟨rfl, h2, h3, h4⟩ := hq
  exact ⟨.inl ⟨.bool true, .bool true, [], rfl, fun _ => rfl, .bool true, post_true l _, fun _ => ⟨List.Pairwise.nil, fun _ hm => (nomatch hm)⟩⟩, h2, h3, h4⟩
section
variable {prog : Program} {w : World} {A : Around} {E : Value → Shared → Prop} {s : Shared} {K : Frag}
end
end Att
namespace L2
open PySem PySem.Spec PyProof.Rows
theorem vals_ints : ∀ {vs : List Value} {ns : List Int}, IntsAre vs ns → Vals (ns.map V.int) vs
  | _, _, .nil => .nil
  | _, _, .cons n t h => .cons ⟨t, rfl⟩ (vals_ints h)
def Only (H : Hp) : Prop := ∀ b, H b = none ∨ ∃ o xs, H b = some (.frz o (.lst xs))
theorem law_call {P : Program} {w : World} {K : PySem.W.Frag} {mg mb : Str → Option Value} {CX : CXT} {k : Nat} {fa a : Addr} {fd : FuncData} {x : Str} {sp : Sp} {s₁ : Shared} {vs : List Value} {ns : List Int}
    (KX : K.In s₁.heap) (hns : s₁.heap.Ns mainGlobals mg) (hb : s₁.heap.Ns builtinsNs mb) (hbb : ∀ x : Str, x ≠ "__name__" → mb x = bootBuiltins x) (hlim : s₁.heap.NoLimit) (hg : s₁.gens = #[])
    (ha : s₁.heap.get? a = some { cls := .type "list", data := .seq vs.toArray }) (hi : IntsAre vs ns) (hl : ns.length ≤ sizeLine) (hr : Room k callerA)
    (F : ∀ base : Heap, K.In base → base.Ns mainGlobals mg → FnOk P w K mg base CX k fa fd [x] sp) (hbind : ∀ (s : Shared) (u : Value), BindsTo s fd ⟨[u], []⟩ [(x, u)])
    (hsp : ∀ H : Hp, Only H → SqL K H a (ns.map V.int) → sp [.ref a] H (fun v _ => v = .bl true) fun _ _ _ => False)
    (hCX : ∀ H e s', CX [] H s₁ (fun _ _ _ => False) e s' → False) :
    codeAny (model P w) callerA (.call (.ref fa) ⟨[.ref a], []⟩) (fun r s' => r = .ok (.ret (.bool true)) ∧ OldK s₁.heap s'.heap ∧ s'.os = s₁.os ∧ AllBare s'.gens) s₁ := by
  have rv := vals_ints hi
  have lenV := hi.length
  have core : ∀ H : Hp, Only H → SqL K H a (ns.map V.int) → HOk P w H s₁.heap → (∀ b, H b ≠ none → b = a) → (H a ≠ none → K.lookup a = none) →
      codeAny (model P w) callerA (.call (.ref fa) ⟨[.ref a], []⟩) (fun r s' => r = .ok (.ret (.bool true)) ∧ OldK s₁.heap s'.heap ∧ s'.os = s₁.os ∧ AllBare s'.gens) s₁ := by
    intro H hO hS hok hA hK
    have base_of : ∀ {b : Addr} {o : Obj}, s₁.heap.get? b = some o → H b = none → (hidT s₁.heap H).get? b = some o := fun e n => hidT_get e n
    have noA : ∀ {b : Addr} {o : Obj} {es : Array DictEntry} {ep : Nat}, s₁.heap.get? b = some o → o.data = .dict es ep → H b = none := fun {b o es ep} e d => by
      cases q : H b with
      | none => rfl
      | some u =>
        have e' : b = a := hA b (by rw [q]; simp)
        subst e'
        rw [ha] at e; cases e
        have d' : Data.seq vs.toArray _ = Data.dict es ep := d
        cases d'
    have nsK : ∀ {b : Addr} {m : Str → Option Value}, s₁.heap.Ns b m → (hidT s₁.heap H).Ns b m := fun {b m} ⟨o, es, ep, e, d, r⟩ => ⟨o, es, ep, base_of e (noA e d), d, r⟩
    have hKb : K.In (hidT s₁.heap H) := fun b o e => base_of (KX b o e) (by
      cases q : H b with
      | none => rfl
      | some u =>
        have e' : b = a := hA b (by rw [q]; simp)
        subst e'
        rw [hK (by rw [q]; simp)] at e; cases e)
    have hM : Mod K mg (hidT s₁.heap H) := ⟨hKb, nsK hns, ⟨mb, nsK hb, hbb⟩, let ⟨mc, h1, h2⟩ := hlim; ⟨mc, nsK h1, h2⟩⟩
    have e0 : Env0 P w K mg (hidT s₁.heap H) callerA [] s₁ H := ⟨rfl, hM, fun b o e => of_hidT e, Nat.le_of_eq (hidT_size _ _), trivial, fun b hb => absurd (show b ∈ ([] : List Addr) from hb) (by simp), hok, .of_eq hg⟩
    refine codeAny_mono ((F _ hKb (nsK hns)).run callerA [] s₁ H ⟨[.ref a], []⟩ [.ref a] [.ref a] _ _ hr e0 (hbind s₁ (.ref a)) (.cons rfl .nil) (hsp H hO hS)) fun r s' h => ?_
    cases r with
    | error e => exact (hCX H e s' h).elim
    | ok fl =>
      cases fl with
      | next => exact False.elim h
      | brk => exact False.elim h
      | cont => exact False.elim h
      | ret u =>
        obtain ⟨v, H', os, bare, un, hok', r', q⟩ := h
        have q' : v = .bl true := q
        subst q'
        obtain rfl : u = Value.bool true := r'
        refine ⟨rfl, OldK.of_keep fun b o e => ?_, os, bare⟩
        cases q : H b with
        | none => exact un.keep b o e q (by intro z; exact absurd (show b ∈ ([] : List Addr) from z) (by simp)) (by simp)
        | some u =>
          rcases hO b with z | ⟨ob, xs, z⟩
          · rw [q] at z; cases z
          · have z2 := un.frzs b ob _ z
            obtain ⟨e1, _⟩ := hok b _ z
            obtain ⟨e2, _⟩ := hok' b _ z2
            rw [e] at e1; cases e1
            exact e2
  cases hk : K.lookup a with
  | some o =>
    have e := KX a o hk
    rw [ha] at e
    cases e
    refine core (fun _ => none) (fun _ => .inl rfl) (.inr ⟨_, vs.toArray, _, hk, rfl, rfl, rfl, by rw [List.size_toArray, lenV]; exact hl, by simpa using rv⟩) (fun b u z => by have z' : (none : Option HO) = some u := z; cases z') (fun b z => absurd rfl z) fun z => absurd rfl z
  | none =>
    refine core (fun b => if b = a then some (.frz { cls := .type "list", data := .seq vs.toArray } (.lst (ns.map V.int))) else none) (fun b => ?_) (.inl (.inr ⟨{ cls := .type "list", data := .seq vs.toArray }, if_pos rfl⟩)) (fun b u z => ?_) (fun b z => ?_) fun _ => hk
    · by_cases hb : b = a
      · exact .inr ⟨_, _, if_pos hb⟩
      · exact .inl (if_neg hb)
    · by_cases hb : b = a
      · have z' := (if_pos hb).symm.trans z
        cases z'
        subst hb
        exact ⟨ha, by rw [List.length_map]; exact hl, vs, _, rv, ha⟩
      · have z' := (if_neg hb).symm.trans z
        cases z'
    · by_cases hb : b = a
      · exact hb
      · exact absurd (if_neg hb) z
end L2
namespace L2
open PySem PySem.Spec PyProof.Rows
theorem walk_of {l : PySem.W.OpenLaw} {n k : Nat} {q : Program} {loose : List Str} {XP : (Str → Option Value) → Heap → Prop} {YP : World → Heap → Prop} {d : DefRec} {K : Params → PySem.W.Frag} {CX : World → CXT} {sp : World → Sp} {x : Str}
    (hn : l.most = some n) (hn2 : n ≤ sizeLine) (hdf : d.params.defaults = []) (hr : Room k callerA)
    (hY : ∀ (w : World) (h : Heap), YP w h → (K w.params).In h)
    (F : ∀ (w : World) (mg : Str → Option Value) (fa : Addr) (h : Heap), (K w.params).In h → h.Ns mainGlobals mg → mg d.name = some (.ref fa) →
      ∃ fd : FuncData, (∀ (s : Shared) (u : Value), BindsTo s fd ⟨[u], []⟩ [(x, u)]) ∧
        ∀ base : Heap, (K w.params).In base → base.Ns mainGlobals mg → FnOk l.prog w (K w.params) mg base (CX w) k fa fd [x] (sp w))
    (hsp : ∀ (w : World) (H : Hp) (a : Addr) (ns : List Int), ns.length ≤ n → Only H → SqL (K w.params) H a (ns.map V.int) → sp w [.ref a] H (fun v _ => v = .bl true) fun _ _ _ => False)
    (hCX : ∀ (w : World) (H : Hp) (s : Shared) (e : Value) (s' : Shared), CX w [] H s (fun _ _ _ => False) e s' → False) :
    PySem.W.WalkO q loose XP YP l.row.toRowW d [] (fun f vs => PySem.call f vs) := by
  refine Att.attach_call hn hdf fun w s₀ s₁ mg mb fa o pm cd doc a vs ns G Y ho hd hcd hmg hobj hints hlen hg => ?_
  have KX := hY w _ Y
  obtain ⟨fd, hb, hF⟩ := F w mg fa _ KX G.T.g hmg
  exact law_call KX G.T.g G.T.b G.T.builtins G.T.nolimit hg hobj hints (Nat.le_trans hlen hn2) hr hF hb (fun H hO hS => hsp w H a ns hlen hO hS) fun H e s' => hCX w H s₁ e s'
end L2
namespace L2
open PySem PySem.Spec PyProof.Rows
def defArgs (s : Stmt) : Arguments := match s with
  | .FunctionDef _ a _ _ _ _ _ _ _ _ => a
  | _ => { posonlyargs := [], args := [], vararg := none, kwonlyargs := [], kw_defaults := [], kwarg := none, defaults := [] }
def defBody (s : Stmt) : List Stmt := match s with
  | .FunctionDef _ _ b _ _ _ _ _ _ _ => b
  | _ => []
def defScope (s : Stmt) : Scope := match s with
  | .FunctionDef _ _ _ _ _ _ sc _ _ _ => sc
  | _ => { kind := .function, names := [], isGenerator := false, isCoroutine := false }
abbrev CX0 : CXT := fun _ _ _ _ _ _ => False
abbrev E0 : XK := fun _ _ _ => False
theorem pass0 {X : Cx} : Passes CX0 X E0 := fun _ _ _ _ _ _ _ h => h.elim
structure Fun (K : PySem.W.Frag) (x qual : Str) (st : Stmt) (f : Addr) (fd : FuncData) : Prop where
  ex : ∃ (oc : Value) (od : Option Addr) (kV doc pm : Value) (an : Option Addr) (cdv ct : Value) (osl : Array (Option Value)),
    fd = PySem.W.fnOf x qual (defArgs st) (defBody st) (defScope st) .none kV doc pm an cdv ct ∧ K.lookup f = some ⟨oc, od, .func fd, osl⟩ ∧ PySem.W.codeIn K cdv qual = true
  kp : PySem.W.keepIn K (.ref f) = true
section
variable {P : Program} {w : World} {K : PySem.W.Frag} {mg : Str → Option Value} {base : Heap}
theorem Fun.ok {x qual : Str} {st : Stmt} {f : Addr} {fd : FuncData} {N ps : List Str} {k : Nat} {sp : Sp} (F : Fun K x qual st f fd) (S : FnScope N ps (defScope st)) (len : ∀ vs H Q E, sp vs H Q E → vs.length = ps.length)
    (hbody : ∀ (cdv : Value) (A : Around) (outer : List Env) (s : Shared) (H : Hp) (vs : List V) (Q : VK) (E : XK), Room k (A.deeper (envOfC qual (defScope st) s.heap.objs.size f cdv)) → sp vs H Q E →
      ∃ t, PSs (cxOf CX0 P w K mg base N qual (defScope st) f cdv A outer s H E).nox (defBody st) t ∧ t { nx := fun _ H' => Q .non H', rt := Q } (start N vs) H) : FnOk P w K mg base CX0 (k + 1) f fd ps sp := by
  obtain ⟨oc, od, kV, doc, pm, an, cdv, ct, osl, rfl, lk, hcd⟩ := F.ex
  refine fn_of lk hcd S len fun A outer s H vs Q E hr hsp => ?_
  obtain ⟨t, h, q⟩ := hbody cdv A outer s H vs Q E hr hsp
  exact ⟨t, h.nox, q⟩
theorem Fun.binds {x qual : Str} {st : Stmt} {f : Addr} {fd : FuncData} {ps : List Str} (F : Fun K x qual st f fd)
    (h : ∀ (kV doc pm : Value) (an : Option Addr) (cdv ct : Value) (us : List Value), us.length = ps.length → bindArgs (PySem.W.fnOf x qual (defArgs st) (defBody st) (defScope st) .none kV doc pm an cdv ct) ⟨us, []⟩ = pure (ps.zip us)) : Binds K fd ps [] := by
  obtain ⟨oc, od, kV, doc, pm, an, cdv, ct, osl, rfl, lk, hcd⟩ := F.ex
  exact .all (h kV doc pm an cdv ct)
theorem fun_mk {x qual : Str} {st : Stmt} {f : Addr} {oc : Value} {od an : Option Addr} {osl : Array (Option Value)} {kV doc pm cdv ct : Value} (l : K.lookup f = some ⟨oc, od, .func (PySem.W.fnOf x qual (defArgs st) (defBody st) (defScope st) .none kV doc pm an cdv ct), osl⟩)
    (c : PySem.W.codeIn K cdv qual = true) (k : PySem.W.keepIn K (.ref f) = true) : Fun K x qual st f (PySem.W.fnOf x qual (defArgs st) (defBody st) (defScope st) .none kV doc pm an cdv ct) := ⟨⟨oc, od, kV, doc, pm, an, cdv, ct, osl, rfl, l, c⟩, k⟩
end
theorem small1000 {n : Nat} (h : n ≤ 1000) : n < sizeLine := Nat.lt_of_le_of_lt h (by decide)
section
variable {X : Cx}
theorem pv (i : Nat) {x : Str} {pos : Pos} (hN : X.N[i]? = some x := by rfl) (hv : Vis X.env.scope x := by first | exact Or.inl rfl | exact Or.inr (Or.inl rfl) | exact Or.inr (Or.inr rfl)) (hd : (x == ("__debug__" : Str)) = false := by decide)
    (hcd : (x == ("__classdict__" : Str)) = false := by decide) : PE X (.Name x pos) (tVar i) := pe_var hN hv hd hcd
end
theorem iteF {A B : Prop} (h : B) : if false = true then A else B := by
  rw [if_neg Bool.false_ne_true]
  exact h
theorem iteT {A B : Prop} (h : A) : if true = true then A else B := by
  rw [if_pos rfl]
  exact h
def Same (H H' : Hp) : Prop := ∀ b o, H b = some o → H' b = some o
theorem Same.refl (H : Hp) : Same H H := fun _ _ h => h
theorem Same.trans {H H1 H2 : Hp} (a : Same H H1) (b : Same H1 H2) : Same H H2 := fun c o h => b c o (a c o h)
theorem Same.free {H H' : Hp} (e : Same H H') {l : Addr} (h : H' l = Option.none) : H l = Option.none := by
  cases q : H l with
  | none => rfl
  | some o =>
    rw [e l o q] at h
    cases h
theorem Same.seq {K : PySem.W.Frag} {H H' : Hp} {a : Addr} {xs : List V} (e : Same H H') (h : SqL K H a xs) : SqL K H' a xs := by
  rcases h with (h | ⟨o, h⟩) | h
  · exact .inl (.inl (e _ _ h))
  · exact .inl (.inr ⟨o, e _ _ h⟩)
  · exact .inr h
section
variable {κ : Type} [DecidableEq κ]
theorem valV_not {kvs : List (κ × V)} {k : κ} (h : valV kvs k = none) : ¬ k ∈ kvs.map (·.1) := by
  intro m
  obtain ⟨p, hp, e⟩ := List.mem_map.mp m
  have q : (kvs.any fun kv => decide (kv.1 = k)) = true := List.any_eq_true.mpr ⟨p, hp, decide_eq_true e⟩
  rw [valV_any, h] at q
  exact absurd q (by simp)
theorem nd_snoc : ∀ {l : List κ} {k : κ}, l.Nodup → ¬ k ∈ l → (l ++ [k]).Nodup
  | [], k, _, _ => by simp
  | a :: r, k, h, hk => by
    obtain ⟨h1, h2⟩ := List.nodup_cons.mp h
    show (a :: (r ++ [k])).Nodup
    refine List.nodup_cons.mpr ⟨fun m => ?_, nd_snoc h2 fun m => hk (List.mem_cons.mpr (Or.inr m))⟩
    rcases List.mem_append.mp m with q | q
    · exact h1 q
    · exact hk (List.mem_cons.mpr (Or.inl (List.mem_singleton.mp q).symm))
theorem nd_putK {kvs : List (κ × V)} {k : κ} (v : V) (hn : (kvs.map (·.1)).Nodup) (h : valV kvs k = none) : ((putK kvs k v).map (·.1)).Nodup := by
  rw [putK_new v h, List.map_append]
  exact nd_snoc hn (valV_not h)
end
end L2
namespace L2
open PySem PySem.Spec PyProof.Rows
section
variable {X : Cx}
def CDivB (_ j : Int) : Prop := 0 < j ∧ j < 2 ^ 200
theorem noPy {i j : Int} (h : CDivB i j) : Builtin.divisionGoesByPylong i j = false := by
  refine PyProof.noPylong_of_log2 ?_
  obtain ⟨h1, h2⟩ := h
  have h0 : j.natAbs ≠ 0 := by omega
  have h3 : j.natAbs < 2 ^ 200 := by omega
  have := (Nat.log2_lt h0).mpr h3
  omega
theorem op_fdivB : OpR X (binaryOp .FloorDiv) (rI CDivB fun i j => .int (i / j)) := opI fun i j _ _ _ _ _ hc q => by
  have h1 : (0 : Int) < j := hc.1
  exact floordiv_int (by omega) (by rw [Int.fdiv_eq_ediv_of_nonneg i (by omega)]; exact q) (.inl (noPy hc))
inductive ClsV : V → Value → Prop where
  | ty (n : String) : ClsV (.ty n) (.type n)
  | ref (C : Addr) : ClsV (.ref C) (.ref C)
theorem call_isinst : CallR X (.builtin "isinstance") (fun xs H Q => ∃ x y c t b, xs = [x, y] ∧ ClsV y c ∧ TyOf X.K H x t ∧ PySem.W.kitOne X.K t c = some b ∧ Q (.bl b) H) := by
  intro pins s σ H xs us Q I r h
  obtain ⟨x, y, c, t, b, rfl, hy, ty, e, q⟩ := h
  obtain ⟨u, w', rfl, rx, ry⟩ := vals2 r
  cases hy with
  | ty n =>
    cases (show w' = Value.type n from ry)
    exact isinst_ok I rx ty e fun tk => ⟨.bl b, H, I.tok _, rfl, q⟩
  | ref C =>
    cases (show w' = Value.ref C from ry)
    exact isinst_ok I rx ty e fun tk => ⟨.bl b, H, I.tok _, rfl, q⟩
end
theorem compLoop_go {prog : Program} {w : World} {A : Around} {R : Result → Shared → Prop} {s : Shared} {elt target iter : Expr} {ifs : List Expr} {scope : Scope} {pos : Pos} {it acc : Value} {env : Env} (I : Nat → Shared → Prop) (E : Value → Shared → Prop)
    (hE : ∀ e s', E e s' → notedBy (model prog w) A env (fun e s' => R (.error e) s') e s')
    (turn : ∀ n s, I n s → wpAny (model prog w) A (pyNext it) (fun r s₁ => match r with
      | none => R (.ok .next) s₁
      | some v => wpAny (model prog w) A (letOwnedTupleGo target it v) (fun _ s₁' => wpAny (model prog w) A (assign target env v) (fun _ s₂ =>
          wpAny (model prog w) A (forIn ifs true fun c r => if r = true then do let ok ← isTrue c env (eval c env); pure (ForInStep.yield ok) else pure (ForInStep.yield r)) (fun ok s₃ =>
            if ok = true then wpAny (model prog w) A (eval elt env) (fun x s₄ =>
              wpAny (model prog w) A (call (.builtin "list.append") [acc, x]) (fun _ s₅ => ∃ m, m < n ∧ I m s₅) E s₄) E s₃
            else ∃ m, m < n ∧ I m s₃) E s₂) E s₁') E s₁) E s)
    (n : Nat) (h : I n s) : codeAny (model prog w) A (.compLoop (.ListComp elt [⟨target, iter, ifs, 0⟩] scope pos) 0 it acc env) R s := by
  refine codeAny_loop rfl I (fun n s hI => ?_) n h
  show wpAny _ A ((compTurn (.ListComp elt [⟨target, iter, ifs, 0⟩] scope pos) 0 it acc env).onRaise (fun x => do noteFrame x env; theTreesLotGoes x)) _ _ s
  refine wpAny_noted ?_
  rw [compTurn_list]
  refine wpAny_bind (wpAny_standAt (wpAny_bind (wpAny_mono (turn n s hI) (fun r s₁ h₁ => ?_) hE)))
  cases r with
  | none => exact wpAny_pure h₁
  | some v =>
    refine wpAny_bind (wpAny_mono h₁ (fun _ s₁' h₁' => ?_) hE)
    refine wpAny_bind (wpAny_mono h₁' (fun _ s₂ h₂ => wpAny_bind (wpAny_mono h₂ (fun ok s₃ h₃ => ?_) hE)) hE)
    cases ok with
    | false => exact wpAny_pure ⟨rfl, h₃⟩
    | true =>
      exact wpAny_bind (wpAny_bind (wpAny_mono h₃ (fun x s₄ h₄ => wpAny_bind (wpAny_mono h₄ (fun _ s₅ h₅ => wpAny_pure (wpAny_pure ⟨rfl, h₅⟩)) hE)) hE))
theorem closure_key {env : Env} : ∀ (names : List (Str × NameKind)) (acc : List (Str × Addr)), (∀ y ∈ names, y.2 = .free → ∃ c, env.cells.lookup y.1 = some c) → (∀ x c, acc.lookup x = some c → env.cells.lookup x = some c) →
    ∃ cl, (forIn names acc (fun (x : Str × NameKind) (r : List (Str × Addr)) => (if (x.2 == NameKind.free) = true then (do let a ← cellOf env x.1; pure (ForInStep.yield ((x.1, a) :: r))) else pure (ForInStep.yield r) : Sem (ForInStep (List (Str × Addr)))))) = (pure cl : Sem (List (Str × Addr))) ∧
      (∀ x c, cl.lookup x = some c → env.cells.lookup x = some c) ∧ (∀ x c, acc.lookup x = some c → ∃ c', cl.lookup x = some c') ∧ ∀ y ∈ names, y.2 = .free → ∃ c, cl.lookup y.1 = some c
  | [], acc, _, ha => ⟨acc, rfl, ha, fun x c e => ⟨c, e⟩, fun _ h => nomatch h⟩
  | (n, k) :: r, acc, hf, ha => by
    have hf' : ∀ y ∈ r, y.2 = .free → ∃ c, env.cells.lookup y.1 = some c := fun y hy => hf y (List.mem_cons_of_mem _ hy)
    by_cases hk : k = .free
    · subst hk
      obtain ⟨c, hc⟩ := hf (n, .free) List.mem_cons_self rfl
      have hc' : env.cells.lookup n = some c := hc
      have ha' : ∀ x d, ((n, c) :: acc).lookup x = some d → env.cells.lookup x = some d := fun x d e => by
        rw [List.lookup_cons] at e
        cases hx : x == n with
        | true => rw [hx] at e; cases e; rw [beq_iff_eq.mp hx]; exact hc'
        | false => rw [hx] at e; exact ha x d e
      obtain ⟨cl, e, h1, h2, h3⟩ := closure_key r ((n, c) :: acc) hf' ha'
      have hself : ((n, c) :: acc).lookup n = some c := by rw [List.lookup_cons, beq_self_eq_true]
      refine ⟨cl, ?_, h1, fun x d ex => ?_, fun y hy hyf => ?_⟩
      · rw [List.forIn_cons]
        have ec : cellOf env n = pure c := by unfold cellOf; rw [hc']
        show ((if (NameKind.free == NameKind.free) = true then (do let a ← cellOf env n; pure (ForInStep.yield ((n, a) :: acc))) else pure (ForInStep.yield acc) : Sem _) >>= _) = _
        rw [if_pos (by decide), ec]
        exact e
      · cases hx : x == n with
        | true => rw [beq_iff_eq.mp hx]; exact h2 n c hself
        | false => exact h2 x d (by rw [List.lookup_cons, hx]; exact ex)
      · rcases List.mem_cons.mp hy with rfl | hy
        · exact h2 n c hself
        · exact h3 y hy hyf
    · obtain ⟨cl, e, h1, h2, h3⟩ := closure_key r acc hf' ha
      refine ⟨cl, ?_, h1, h2, fun y hy hyf => ?_⟩
      · rw [List.forIn_cons]
        show ((if (k == NameKind.free) = true then (do let a ← cellOf env n; pure (ForInStep.yield ((n, a) :: acc))) else pure (ForInStep.yield acc) : Sem _) >>= _) = _
        rw [if_neg (by simpa using hk)]
        exact e
      · rcases List.mem_cons.mp hy with rfl | hy
        · exact absurd hyf hk
        · exact h3 y hy hyf
theorem closure_ok {scope : Scope} {env : Env} (h : ∀ y ∈ scope.names, y.2 = .free → ∃ c, env.cells.lookup y.1 = some c) :
    ∃ cl, closureFor scope env = pure cl ∧ (∀ x c, cl.lookup x = some c → env.cells.lookup x = some c) ∧ ∀ y ∈ scope.names, y.2 = .free → ∃ c, cl.lookup y.1 = some c := by
  obtain ⟨cl, e, h1, _, h3⟩ := closure_key (env := env) scope.names [] h (fun x c e => nomatch e)
  refine ⟨cl, ?_, h1, h3⟩
  have e0 : closureFor scope env = ((forIn scope.names [] (fun (x : Str × NameKind) (r : List (Str × Addr)) => (if (x.2 == NameKind.free) = true then (do let a ← cellOf env x.1; pure (ForInStep.yield ((x.1, a) :: r))) else pure (ForInStep.yield r) : Sem (ForInStep (List (Str × Addr)))))) >>= fun r => pure r) := rfl
  rw [e0, e]
  rfl
theorem relabel_free {env : Env} (hf : env.scope.kind = .function) : ∀ {names : List (Str × NameKind)} {x : Str}, names.lookup x = some .free → env.kindOf x = some .cell →
    (names.map fun (n, k) => if (k == NameKind.free && env.scope.kind == .function && env.kindOf n == some .cell) then (n, NameKind.cell) else (n, k)).lookup x = some .cell
  | [], _, h, _ => by simp at h
  | (n, k) :: r, x, h, hc => by
    have ih := @relabel_free env hf r x
    show List.lookup x ((if (k == NameKind.free && env.scope.kind == .function && env.kindOf n == some .cell) = true then (n, NameKind.cell) else (n, k)) :: _) = _
    cases hx : x == n with
    | true =>
      simp only [List.lookup_cons, hx] at h
      cases h
      have e : x = n := beq_iff_eq.mp hx
      subst e
      rw [if_pos (by rw [hf, hc]; decide)]
      simp only [List.lookup_cons, hx]
    | false =>
      simp only [List.lookup_cons, hx] at h
      by_cases hq : (k == NameKind.free && env.scope.kind == .function && env.kindOf n == some .cell) = true
      · rw [if_pos hq]; simp only [List.lookup_cons, hx]; exact ih h hc
      · rw [if_neg hq]; simp only [List.lookup_cons, hx]; exact ih h hc
theorem relabel_back {env : Env} : ∀ {names : List (Str × NameKind)} {x : Str} {k : NameKind},
    (names.map fun (n, k) => if (k == NameKind.free && env.scope.kind == .function && env.kindOf n == some .cell) then (n, NameKind.cell) else (n, k)).lookup x = some k → ∃ k0, names.lookup x = some k0 ∧ (k = k0 ∨ k0 = .free)
  | [], _, _, h => by simp at h
  | (n, k1) :: r, x, k, h => by
    have h : List.lookup x ((if (k1 == NameKind.free && env.scope.kind == .function && env.kindOf n == some .cell) = true then (n, NameKind.cell) else (n, k1)) :: (r.map fun (n, k) => if (k == NameKind.free && env.scope.kind == .function && env.kindOf n == some .cell) then (n, NameKind.cell) else (n, k))) = some k := h
    cases hx : x == n with
    | true =>
      by_cases hq : (k1 == NameKind.free && env.scope.kind == .function && env.kindOf n == some .cell) = true
      · have : k1 = .free := by
          rw [Bool.and_eq_true, Bool.and_eq_true] at hq
          simpa using hq.1.1
        exact ⟨k1, by simp only [List.lookup_cons, hx], .inr this⟩
      · rw [if_neg hq] at h
        simp only [List.lookup_cons, hx] at h
        exact ⟨k1, by simp only [List.lookup_cons, hx], .inl (Option.some.inj h).symm⟩
    | false =>
      have h' : (r.map fun (n, k) => if (k == NameKind.free && env.scope.kind == .function && env.kindOf n == some .cell) then (n, NameKind.cell) else (n, k)).lookup x = some k := by
        by_cases hq : (k1 == NameKind.free && env.scope.kind == .function && env.kindOf n == some .cell) = true
        · rw [if_pos hq] at h; simp only [List.lookup_cons, hx] at h; exact h
        · rw [if_neg hq] at h; simp only [List.lookup_cons, hx] at h; exact h
      obtain ⟨k0, e, z⟩ := relabel_back h'
      exact ⟨k0, by simp only [List.lookup_cons, hx]; exact e, z⟩
def cxComp (X : Cx) (N : List Str) (scope : Scope) (cl : List (Str × Addr)) (C : Addr) (s : Shared) (H : Hp) (fp : List Addr) : Cx :=
  { X with N := N, s₀ := s, H₀ := H, env := compEnvC scope cl C X.env, outer := X.stack, ex := fp, fn := fun _ => false, pn := [], xe := fun _ _ => False }
structure CompOk (X : Cx) (scope : Scope) (ls ys : List Str) (ix : List Nat) : Prop where
  kind : scope.kind = .function
  nocellB : (scope.names.all fun y => y.2 != .cell) = true
  locB : (scope.names.all fun y => y.2 != .local || scope.names.lookup y.1 == some .local) = true
  freeB : (scope.names.all fun y => y.2 != .free || X.env.kindOf y.1 == some .cell) = true
  ylkB : (ys.all fun y => scope.names.lookup y == some .free) = true
  yix : ix.map (fun j => X.N[j]?) = ys.map some
section
variable {X : Cx} {scope : Scope} {ls ys : List Str} {ix : List Nat}
theorem CompOk.nocell (ok : CompOk X scope ls ys ix) : ∀ y ∈ scope.names, y.2 ≠ .cell := fun y hy => by
  simpa using List.all_eq_true.mp ok.nocellB y hy
theorem CompOk.loc (ok : CompOk X scope ls ys ix) : ∀ y ∈ scope.names, y.2 = .local → scope.names.lookup y.1 = some .local := fun y hy e => by
  have h := List.all_eq_true.mp ok.locB y hy
  rw [e] at h
  simpa using h
theorem CompOk.free (ok : CompOk X scope ls ys ix) : ∀ y ∈ scope.names, y.2 = .free → X.env.kindOf y.1 = some .cell := fun y hy e => by
  have h := List.all_eq_true.mp ok.freeB y hy
  rw [e] at h
  simpa using h
theorem CompOk.ylk (ok : CompOk X scope ls ys ix) : ∀ y ∈ ys, scope.names.lookup y = some .free := fun y hy => by
  simpa using List.all_eq_true.mp ok.ylkB y hy
end
def inSt (n : Nat) (ix : List Nat) (σ : St) : St := List.replicate n none ++ ix.map fun j => (σ[j]?).join
section
variable {X : Cx} {pins : List (Addr × Obj)} {σ : St} {H : Hp} {s : Shared} {scope : Scope} {ls ys : List Str} {ix : List Nat} {cl : List (Str × Addr)} {fp : List Addr}
theorem comp_in {h₁ : Heap} {tk : Nat} {m : Str → Option Value} (I : Inv X pins σ H s) (ok : CompOk X scope ls ys ix) (hcl1 : ∀ x c, cl.lookup x = some c → X.env.cells.lookup x = some c)
    (hcl2 : ∀ y ∈ scope.names, y.2 = .free → ∃ c, cl.lookup y.1 = some c) (f3 : ∀ b ∈ fp, FpOk X pins H b) (hob : ∀ b ∈ fp, b < s.heap.objs.size)
    (hns : h₁.Ns s.heap.objs.size m) (hk : ∀ b o, s.heap.get? b = some o → h₁.get? b = some o) :
    Inv (cxComp X (ls ++ ys) scope cl s.heap.objs.size s H fp) [] (inSt ls.length ix σ) H { s with heap := h₁, toks := tk } := by
  have hfree : ∀ x, scope.names.lookup x = some .free → X.env.kindOf x = some .cell := fun x e => ok.free (x, .free) (PySem.mem_of_lookup e) rfl
  refine ⟨⟨I.ok.mod, ok.kind, I.ok.glob, I.ok.blt, Nat.le_refl _, fun x y c h1 h2 => I.ok.inj x y c (hcl1 x c h1) (hcl1 y c h2), fun x hx => ?_, fun x c hx _ => absurd hx Bool.false_ne_true, I.ok.hd, I.ok.frames, .inl rfl,
    fun b hb => ⟨Nat.ne_of_lt (hob b hb), fun x c e => (f3 b hb).2.2.2.2.1 x c (hcl1 x c e)⟩, I.bs, Nat.le_trans I.ok.bsz I.sz, fun b o e hb => ?_, fun b hb z => ?_, I.stack, I.stkFree⟩,
    rfl, I.bare, Un.kept hk, ⟨m, hns, fun i x v h1 h2 h3 => ?_⟩, fun x c e => ?_, I.fresh, fun x c e => I.freeC x c (hcl1 x c e), fun p hp => absurd (show p ∈ ([] : List (Addr × Obj)) from hp) (by simp), I.hok.kept hk, ?_⟩
  · have e : ∃ k, (relabel scope X.env).names.lookup x = some k ∧ (k = .cell ∨ k = .free) := by
      rcases hx with hx | hx
      · exact ⟨_, hx, .inl rfl⟩
      · exact ⟨_, hx, .inr rfl⟩
    obtain ⟨k, e, hkk⟩ := e
    obtain ⟨k0, e0, z⟩ := relabel_back e
    have hm := PySem.mem_of_lookup e0
    have hk0 : k0 = .free := by
      rcases z with z | z
      · rcases hkk with q | q
        · exact absurd (z.symm.trans q) (ok.nocell _ hm)
        · exact z.symm.trans q
      · exact z
    exact hcl2 _ hm hk0
  · obtain ⟨q1, q2, q3, q4, _⟩ := f3 b hb
    rcases q4 with q4 | q4
    · exact I.ok.noex b o e q4
    · exact absurd (Nat.lt_of_lt_of_le (Heap.lt_size e) (Nat.le_trans I.ok.bsz q4)) (Nat.lt_irrefl _)
  · rcases List.mem_cons.mp (I.stkSub b z) with q | q
    · exact (f3 b hb).2.1 q
    · exact (f3 b hb).2.2.1 q
  · have h1 : (ls ++ ys)[i]? = some x := h1
    have h2 : (List.replicate ls.length none ++ ix.map fun j => (σ[j]?).join)[i]? = some (some v) := h2
    by_cases hi : i < ls.length
    · rw [List.getElem?_append_left (by rw [List.length_replicate]; exact hi), List.getElem?_replicate, if_pos hi] at h2
      cases h2
    · rw [List.getElem?_append_right (by rw [List.length_replicate]; omega), List.length_replicate, List.getElem?_map] at h2
      rw [List.getElem?_append_right (by omega)] at h1
      cases e : ix[i - ls.length]? with
      | none => rw [e] at h2; cases h2
      | some j =>
        rw [e] at h2
        have h2 : (σ[j]?).join = some v := Option.some.inj h2
        have hσ : σ[j]? = some (some v) := by
          cases q : σ[j]? with
          | none => rw [q] at h2; cases h2
          | some z => rw [q] at h2; exact congrArg some h2
        have hN : X.N[j]? = some x := by
          have q := congrArg (fun l => l[i - ls.length]?) ok.yix
          simp only [List.getElem?_map, e, h1, Option.map_some] at q
          exact Option.some.inj q
        have hl := ok.ylk x (List.mem_of_getElem? h1)
        have hc := hfree x hl
        obtain ⟨m', hn', hl'⟩ := I.loc
        obtain ⟨u, r, lk⟩ := hl' j x v hN hσ (.inr (.inl hc))
        refine ⟨u, r, ?_⟩
        rcases lk with ⟨lk, _⟩ | ⟨_, c, ec, z⟩
        · rw [hc] at lk; cases lk
        · obtain ⟨c', ec'⟩ := hcl2 _ (PySem.mem_of_lookup hl) rfl
          have ec2 : X.env.cells.lookup x = some c' := hcl1 x c' ec'
          rw [ec] at ec2
          cases ec2
          exact .inr ⟨.inl (relabel_free I.ok.kind hl hc), c, ec', z.keeps hk⟩
  · obtain ⟨v, z⟩ := I.cell x c (hcl1 x c e)
    exact ⟨v, z.keeps hk⟩
  · show (List.replicate ls.length none ++ ix.map fun j => (σ[j]?).join).length = (ls ++ ys).length
    have q := congrArg List.length ok.yix
    rw [List.length_map, List.length_map] at q
    rw [List.length_append, List.length_append, List.length_replicate, List.length_map, q]
end
def PF (X : Cx) (ifs : List Expr) (t : TT) : Prop :=
  ∀ (pins : List (Addr × Obj)) (s : Shared) (σ : St) (H : Hp) (Q : Bool → Hp → Prop), Inv X pins σ H s → t σ H Q →
    wpAny (model X.prog X.w) X.A (forIn ifs true fun c r => if r = true then do let ok ← isTrue c X.env (eval c X.env); pure (ForInStep.yield ok) else pure (ForInStep.yield r)) (TP X pins σ Q) X.xe s
def tYes : TT := fun _ H Q => Q true H
theorem pf_nil {X : Cx} : PF X [] tYes := fun _ _ _ H _ I h => wpAny_tests_nil ⟨H, I, h⟩
theorem pf_one {X : Cx} {c : Expr} {t : TT} (h : PT X c t) : PF X [c] t := fun pins s σ H Q I hw => wpAny_tests_one (h pins s σ H Q I hw)
def lcW (σ0 : St) (g : TG) (tt : TT) (te : TE) (J : It) (H1 : Hp) (D : Addr) (Q : Hp → Prop) : Prop :=
  ∃ W : Nat → Nat → St → Hp → Prop, (∃ m, W 0 m σ0 (upd H1 D (.lst []))) ∧ ∀ i m τ H, W i m τ H →
    (J.stop i H ∧ Q H) ∨ (J.go i H ∧ ∃ N : St → Hp → Prop, (∀ τ' H', N τ' H' → ∃ m', m' < m ∧ W (i + 1) m' τ' H') ∧ ∀ x H', J.yld i H x H' → g x τ H' fun τ2 H2 => tt τ2 H2 fun b H3 =>
      if b = true then te τ2 H3 fun v H4 => ∃ acc, H4 D = some (.lst acc) ∧ acc.length < sizeLine ∧ N τ2 (upd H4 D (.lst (acc ++ [v]))) else N τ2 H3)
def tLc (wi : TI) (n : Nat) (ix : List Nat) (g : TG) (tt : TT) (te : TE) : TE := fun σ H Q => wi σ H fun J H1 => ∀ D, H1 D = none → lcW (inSt n ix σ) g tt te J H1 D fun H' => Q (.ref D) H'
def tLcSet (wi : TI) (n : Nat) (ix : List Nat) (g : TG) (tt : TT) (te : TE) (i : Nat) : TS := fun D σ H => tLc wi n ix g tt te σ H fun x H1 => D.nx (σ.set i (some x)) H1
section
variable {X : Cx} {scope : Scope} {ls ys : List Str} {ix : List Nat} {tg iter elt : Expr} {ifs : List Expr} {pos : Pos} {wi : TI} {g : TG} {tt : TT} {te : TE}
theorem comp_run {pins : List (Addr × Obj)} {σ : St} {H1 : Hp} {s : Shared} {J : It} {it : Addr} {fp : List Addr} {tn : Nat → Heap → Prop} {cl : List (Str × Addr)} {Q : Addr → Hp → Prop} {R : Value → Addr → Result → Shared → Prop} {E : Value → Shared → Prop} (hc : X.calm = true)
    (ok : CompOk X scope ls ys ix) (I : Inv X pins σ H1 s) (T : Turn X.prog X.w X.K tg J fp it tn) (st : tn 0 s.heap) (f2 : ∀ b ∈ fp, FpOk X pins H1 b)
    (hcl1 : ∀ x c, cl.lookup x = some c → X.env.cells.lookup x = some c) (hcl2 : ∀ y ∈ scope.names, y.2 = .free → ∃ c, cl.lookup y.1 = some c)
    (hg : ∀ cl C s H fp, PG (cxComp X (ls ++ ys) scope cl C s H fp) tg g) (ht : ∀ cl C s H fp, PF (cxComp X (ls ++ ys) scope cl C s H fp) ifs tt) (he : ∀ cl C s H fp, PE (cxComp X (ls ++ ys) scope cl C s H fp) elt te)
    (hJ : ∀ D, H1 D = none → lcW (inSt ls.length ix σ) g tt te J H1 D (Q D))
    (hR : ∀ D C H' s', Q D H' → Inv X pins σ H' s' → H' C = none → FpOk X pins H' C → (∃ m, s'.heap.Ns C m) → R (.ref D) C (.ok .next) s') :
    wpAny (model X.prog X.w) X.A (newList []) (fun acc s₃ => wpAny (model X.prog X.w) X.A (newFunctionEnv scope X.env.globals cl [] X.env.qual none .none (some X.env)) (fun cenv s₄ =>
      codeAny (model X.prog X.w) X.A (.compStart (.ListComp elt [⟨tg, iter, ifs, 0⟩] scope pos) 0 (.ref it) acc { cenv with scope := relabel scope X.env }) (R acc cenv.locals) s₄) E s₃) E s := by
  have hfp : ∀ b ∈ fp, b < s.heap.objs.size := fun b hb => by
    obtain ⟨o, e, _⟩ := T.obj _ _ st b hb
    exact Heap.lt_size e
  have I3 := I.lnew (ys := []) (its := []) (t' := s.toks) .nil (Nat.zero_le _)
  have hD : H1 s.heap.objs.size = none := I.fresh
  obtain ⟨W, ⟨m0, w0⟩, turn⟩ := hJ s.heap.objs.size hD
  refine wpAny_newObj_type (wpAny_newFunctionEnv ok.nocell (by intro y hy; simp at hy) (fun h₁ hns hsb => ?_) ok.kind)
  generalize hs3 : ({ s with heap := s.heap.push { cls := .type "list", data := .seq ([] : List Value).toArray }, toks := s.toks } : Shared) = s3 at I3
  have e3 : s.heap.push { cls := .type "list", dict := none, data := .seq ([] : List Value).toArray } = s3.heap := by rw [← hs3]
  have e3' : ({ s with heap := s.heap.push { cls := .type "list", dict := none, data := .seq ([] : List Value).toArray } } : Shared) = s3 := by rw [← hs3]
  generalize hH3 : upd H1 s.heap.objs.size (.lst []) = H3 at I3 w0
  have hsz : s3.heap.objs.size = s.heap.objs.size + 1 := by rw [← e3, Heap.size_push]
  have up3 : ∀ b o, s.heap.get? b = some o → s3.heap.get? b = some o := fun b o e => by rw [← e3]; exact Heap.get?_push_of_some _ e
  have f3 : ∀ b ∈ fp, FpOk X pins H3 b := fun b hb => by
    refine ⟨?_, (f2 b hb).2⟩
    rw [← hH3, upd_ne (Nat.ne_of_lt (hfp b hb))]
    exact (f2 b hb).1
  have hns : h₁.Ns s3.heap.objs.size (fun x => ([] : List (Str × Value)).reverse.lookup x) := by rw [← e3]; exact hns
  have hsb : Heap.SameBut s3.heap.objs.size (s3.heap.push { cls := .type (if (some X.env).isSome then "dict" else "frame"), data := .dict #[] }) h₁ := by rw [← e3]; exact hsb
  have up4 : ∀ b o, s3.heap.get? b = some o → h₁.get? b = some o := fun b o e => hsb.extBut b o (Nat.ne_of_lt (Heap.lt_size e)) (Heap.get?_push_of_some _ e)
  have Ic := comp_in (tk := s3.toks) I3 ok hcl1 hcl2 f3 (fun b hb => by rw [hsz]; exact Nat.lt_succ_of_lt (hfp b hb)) hns up4
  have stat : ∀ {H' : Hp} {pl : List (Addr × Obj)}, (∀ b ∈ fp, H' b = none) → pl = [] → ∀ b ∈ fp, FpOk (cxComp X (ls ++ ys) scope cl s3.heap.objs.size s3 H3 fp) pl H' b := fun {H' pl} hn hpl b hb => by
    subst hpl
    refine ⟨hn b hb, Nat.ne_of_lt (by rw [show (cxComp X (ls ++ ys) scope cl s3.heap.objs.size s3 H3 fp).env.locals = s3.heap.objs.size from rfl, hsz]; exact Nat.lt_succ_of_lt (hfp b hb)), Ic.ok.exfs b hb, .inl hb, fun x c e => (f3 b hb).2.2.2.2.1 x c (hcl1 x c e), fun p hp => absurd (show p ∈ ([] : List (Addr × Obj)) from hp) (by simp)⟩
  have loop : codeAny (model X.prog X.w) X.A (.compLoop (.ListComp elt [⟨tg, iter, ifs, 0⟩] scope pos) 0 (.ref it) (.ref s.heap.objs.size) (compEnvC scope cl s3.heap.objs.size X.env)) (R (.ref s.heap.objs.size) s3.heap.objs.size) { s3 with heap := h₁, toks := s3.toks } := by
    refine compLoop_go (fun n s' => ∃ i τ H', Inv (cxComp X (ls ++ ys) scope cl s3.heap.objs.size s3 H3 fp) [] τ H' s' ∧ tn i s'.heap ∧ (∀ b ∈ fp, H' b = none) ∧ W i n τ H') (fun _ _ => False) (fun _ _ h => h.elim) ?_ m0
      ⟨0, inSt ls.length ix σ, H3, Ic, T.keep _ _ _ st (fun b _ o e => up4 b o (up3 b o e)), fun b hb => (f3 b hb).1, w0⟩
    rintro n s4 ⟨i, τ, H4, I4, st4, fr4, w4⟩
    rcases turn i n τ H4 w4 with ⟨stop, qn⟩ | ⟨go, N, hN, step⟩
    · refine thn (T.done (cxComp X (ls ++ ys) scope cl s3.heap.objs.size s3 H3 fp) rfl rfl rfl hc i [] s4 τ H4 (fun _ _ => False) I4 (stat fr4 rfl) st4 stop) fun r s5 ⟨hr, I5⟩ => ?_
      subst hr
      have Io : Inv X pins σ H4 s5 := I3.call' (ch := fp) I5.os I5.base I5.hok I5.bare fun b hb => ⟨(f3 b hb).2.2.2.1, (f3 b hb).2.1, (f3 b hb).2.2.2.2.1, (f3 b hb).2.2.2.2.2⟩
      obtain ⟨m5, n5, _⟩ := I5.loc
      have hC : H4 s3.heap.objs.size = none := I5.free
      exact hR _ _ H4 s5 qn Io hC (I3.fpOk (Nat.le_refl _) hC) ⟨m5, n5⟩
    · refine thn (T.item (cxComp X (ls ++ ys) scope cl s3.heap.objs.size s3 H3 fp) rfl rfl rfl hc i [] s4 τ H4 (fun _ _ => False) I4 (stat fr4 rfl) st4 go) fun r s5 ⟨u, hr, h5⟩ => ?_
      subst hr
      refine thn h5 fun _ s6 ⟨x, H6, I6, r6, y6, st6, fr6⟩ => ?_
      have I6' := I6.pinned (stat fr6 rfl) (T.obj _ _ st6)
      have fin : ∀ {τ7 : St} {H7 : Hp} {s7 : Shared}, Inv (cxComp X (ls ++ ys) scope cl s3.heap.objs.size s3 H3 fp) ([] ++ pinsAt fp s6.heap) τ7 H7 s7 → N τ7 H7 → ∃ m, m < n ∧ ∃ i τ H', Inv (cxComp X (ls ++ ys) scope cl s3.heap.objs.size s3 H3 fp) [] τ H' s7 ∧ tn i s7.heap ∧ (∀ b ∈ fp, H' b = none) ∧ W i m τ H' := fun {τ7 H7 s7} I7 n7 => by
        obtain ⟨m', hm, w7⟩ := hN τ7 H7 n7
        refine ⟨m', hm, i + 1, τ7, H7, I7.unpinned, T.keep _ _ _ st6 fun b hb o e => (I7.pin (b, o) (List.mem_append_right _ (List.mem_append_right _ (mem_pinsAt hb e)))).1, fun b hb => ?_, w7⟩
        obtain ⟨o, e, d⟩ := T.obj _ _ st6 b hb
        exact (I7.pin (b, o) (List.mem_append_right _ (List.mem_append_right _ (mem_pinsAt hb e)))).2.1
      refine thn (hg _ _ _ _ _ _ s6 τ H6 x u _ I6' r6 (step x H6 y6)) fun _ s7 ⟨τ7, H7, I7, q7⟩ => ?_
      refine thn (ht _ _ _ _ _ _ s7 τ7 H7 _ I7 q7) fun b s8 ⟨H8, I8, q8⟩ => ?_
      cases b with
      | false =>
        rw [if_neg Bool.false_ne_true] at q8 ⊢
        exact fin I8 q8
      | true =>
        rw [if_pos rfl] at q8 ⊢
        refine thn (he _ _ _ _ _ _ s8 τ7 H8 _ I8 q8) fun y s9 ⟨v, H9, I9, r9, acc, hacc, hlen, n9⟩ => ?_
        exact thn (mt_append _ s9 τ7 H9 (.ref s.heap.objs.size) [v] (.ref s.heap.objs.size) [y] (fun _ H' => N τ7 H') I9 rfl (.cons r9 .nil) ⟨_, acc, v, rfl, rfl, hacc, hlen, n9⟩) fun _ s10 ⟨_, H10, I10, _, n10⟩ => fin I10 n10
  exact codeAny_compStart_list loop (T.self _ 0 _ _ _ (T.keep _ _ _ st (fun b _ o e => up4 b o (up3 b o e))) loop)
theorem pe_lc (hc : X.calm = true) (ok : CompOk X scope ls ys ix) (hi : PI X tg iter wi)
    (hg : ∀ cl C s H fp, PG (cxComp X (ls ++ ys) scope cl C s H fp) tg g) (ht : ∀ cl C s H fp, PF (cxComp X (ls ++ ys) scope cl C s H fp) ifs tt) (he : ∀ cl C s H fp, PE (cxComp X (ls ++ ys) scope cl C s H fp) elt te)
    (hs : ∀ x, foldedSetIterable iter X.env x = pure x := by intro _; rfl) : PE X (.ListComp elt [⟨tg, iter, ifs, 0⟩] scope pos) (tLc wi ls.length ix g tt te) := by
  intro pins s σ H Q I h
  obtain ⟨cl, hclos, hcl1, hcl2⟩ := closure_ok (scope := scope) (env := X.env) fun y hy hf => I.ok.has y.1 (.inl (ok.free y hy hf))
  rw [eval_ListComp]
  refine wpAny_comprehension_free (use := none) rfl hs hclos ok.kind ok.loc (thn (hi pins s σ H _ I h) fun v s1 h1 => thn h1 fun itv s2 h2 => ?_)
  obtain ⟨it, fp, tn, J, H2, rfl, I2, T, st2, f2, hJ⟩ := h2
  refine comp_run (R := fun acc C => compPost (model X.prog X.w) X.A X.xe none (EP X pins σ Q) acc C) hc ok I2 T st2 f2 hcl1 hcl2 hg ht he hJ fun D C H' s' q I' hC fC hm => ?_
  obtain ⟨m, hn⟩ := hm
  refine ⟨m, hn, fun h' hsb => ⟨.ref D, H', ?_, rfl, q⟩⟩
  exact I'.turned (t' := s'.toks) (fun b o hb e => (hsb.2 b hb).trans e) hC fC.2.1 fC.2.2.2.1 fC.2.2.2.2.1 fC.2.2.2.2.2
theorem ps_lcset {i : Nat} {x : Str} {spos px : Pos} (hc : X.calm = true) (hN : X.N.Nodup) (hxi : X.N[i]? = some x) (hx : Loc X.env.scope x) (ok : CompOk X scope ls ys ix) (hi : PI X tg iter wi)
    (hg : ∀ cl C s H fp, PG (cxComp X (ls ++ ys) scope cl C s H fp) tg g) (ht : ∀ cl C s H fp, PF (cxComp X (ls ++ ys) scope cl C s H fp) ifs tt) (he : ∀ cl C s H fp, PE (cxComp X (ls ++ ys) scope cl C s H fp) elt te)
    (hs : ∀ x, foldedSetIterable iter X.env x = pure x := by intro _; rfl) (hsw : swapsWith (.ListComp elt [⟨tg, iter, ifs, 0⟩] scope pos) (some (.Name x px)) spos.line X.env = pure true := by rfl)
    (hf : X.fn x = true ∨ X.env.scope.names.lookup x = some .local := by first | exact .inl rfl | exact .inr rfl | assumption) :
    PS X (.Assign [.Name x px] (.ListComp elt [⟨tg, iter, ifs, 0⟩] scope pos) spos) (tLcSet wi ls.length ix g tt te i) := by
  intro pins s σ H D I h
  obtain ⟨cl, hclos, hcl1, hcl2⟩ := closure_ok (scope := scope) (env := X.env) fun y hy hf => I.ok.has y.1 (.inl (ok.free y hy hf))
  rw [exec_Assign_Name_used _ _ _ _ hsw]
  refine wpAny_bind (wpAny_standAt (wpAny_bind ?_))
  show wpAny _ X.A (do let _ ← comprehension (.ListComp elt [⟨tg, iter, ifs, 0⟩] scope pos) scope X.env _ (newList []) false (eval iter X.env) (some (assign (.Name x px) X.env))) _ _ s
  refine wpAny_bind (wpAny_mono (wpAny_comprehension_free (use := some (assign (.Name x px) X.env)) (Q := fun _ s' => ∃ σ' H', Inv X pins σ' H' s' ∧ D.nx σ' H') rfl hs hclos ok.kind ok.loc
    (thn (hi pins s σ H _ I h) fun v s1 h1 => thn h1 fun itv s2 h2 => ?_)) (fun _ s' hq => wpAny_pure (wpAny_pure hq)) fun _ _ e => e)
  obtain ⟨it, fp, tn, J, H2, rfl, I2, T, st2, f2, hJ⟩ := h2
  refine comp_run (R := fun acc C => compPost (model X.prog X.w) X.A X.xe (some (assign (.Name x px) X.env)) (fun _ s' => ∃ σ' H', Inv X pins σ' H' s' ∧ D.nx σ' H') acc C) hc ok I2 T st2 f2 hcl1 hcl2 hg ht he hJ fun Da C H' s' q I' hC fC hm => ?_
  obtain ⟨m, hn⟩ := hm
  show wpAny _ X.A (assign (.Name x px) X.env (.ref Da)) _ _ s'
  refine wpAny_assign_Name (store_ok2 (v := .ref Da) I' hN hxi hx rfl (fun s2 I3 hz => ?_) hf)
  obtain ⟨a, sb, ha⟩ := hz
  have hCa : C ≠ a := by
    rcases ha with ha | ha
    · rw [ha]; exact fC.2.1
    · exact Ne.symm (fC.2.2.2.2.1 x a ha)
  refine ⟨m, hn.sameBut sb hCa, fun h' hsb => ⟨_, H', ?_, q⟩⟩
  exact I3.turned (t' := s2.toks) (fun b o hb e => (hsb.2 b hb).trans e) hC fC.2.1 fC.2.2.2.1 fC.2.2.2.2.1 fC.2.2.2.2.2
end
end L2
namespace L2
open PySem PySem.Spec PyProof.Rows
def Ev (t : TE) (σ : St) (H : Hp) (v : V) : Prop := ∀ Q : VK, Q v H → t σ H Q
def EvT (t : TT) (σ : St) (H : Hp) (b : Bool) : Prop := ∀ Q : Bool → Hp → Prop, Q b H → t σ H Q
def EvA (t : TA) (σ : St) (H : Hp) (vs : List V) : Prop := ∀ Q : List V → Hp → Prop, Q vs H → t σ H Q
section
variable {σ : St} {H : Hp} {ta tb tc te : TE} {t u : TT} {i j k : Int} {a b c : Bool} {v x y : V} {K : PySem.W.Frag}
theorem ev_c : Ev (tC v) σ H v := fun _ q => q
theorem ev_var {n : Nat} (h : σ[n]? = some (some v)) : Ev (tVar n) σ H v := fun _ q => ⟨v, h, q⟩
theorem ev_I0 {g : Int → Int → V} (ha : Ev ta σ H (.int i)) (hb : Ev tb σ H (.int j)) : Ev (tOp (rI0 g) ta tb) σ H (g i j) := fun _ q => ha _ (hb _ ⟨i, j, rfl, rfl, q⟩)
theorem ev_I {C : Int → Int → Prop} {g : Int → Int → V} (ha : Ev ta σ H (.int i)) (hb : Ev tb σ H (.int j)) (hc : C i j) : Ev (tOp (rI C g) ta tb) σ H (g i j) := fun _ q => ha _ (hb _ ⟨i, j, rfl, rfl, hc, q⟩)
theorem ev_eqI (ha : Ev ta σ H (.int i)) (hb : Ev tb σ H (.int j)) : Ev (tOp rEq ta tb) σ H (.bl (decide (i = j))) := fun Q q => ha _ (hb _ ⟨rfl, by
  have e : decide (V.int i = V.int j) = decide (i = j) := by rw [dec_int]; rfl
  rw [e]; exact q⟩)
theorem ev_ixT {p : Addr} {xs : List V} (ha : Ev ta σ H (.ref p)) (hb : Ev tb σ H (.int i)) (hs : SqT K H p xs) (he : atI xs i = some v) : Ev (tOp (rIxT K) ta tb) σ H v := fun _ q => ha _ (hb _ ⟨p, xs, i, v, rfl, rfl, hs, he, q⟩)
theorem ev_ixL {p : Addr} {xs : List V} (ha : Ev ta σ H (.ref p)) (hb : Ev tb σ H (.int i)) (hs : SqL K H p xs) (he : atI xs i = some v) : Ev (tOp (rIxL K) ta tb) σ H v := fun _ q => ha _ (hb _ ⟨p, xs, i, v, rfl, rfl, hs, he, q⟩)
theorem ev_isN (ha : Ev ta σ H x) (hb : Ev tb σ H .non) : Ev (tOp (fun x y H Q => y = .non ∧ Q (.bl (decide (x = .non))) H) ta tb) σ H (.bl (decide (x = .non))) := fun _ z => ha _ (hb _ ⟨rfl, z⟩)
theorem ev_notN (ha : Ev ta σ H x) (hb : Ev tb σ H .non) : Ev (tOp (fun x y H Q => y = .non ∧ Q (.bl (!decide (x = .non))) H) ta tb) σ H (.bl (!decide (x = .non))) := fun _ z => ha _ (hb _ ⟨rfl, z⟩)
theorem ev_cb {r : List V → Hp → VK → Prop} {vs : List V} {t : TA} (ha : EvA t σ H vs) (hs : ∀ Q : VK, Q v H → r vs H Q) : Ev (tCB r t) σ H v := fun Q q => ha _ (hs Q q)
theorem ea_nil : EvA tNil σ H [] := fun _ q => q
theorem ea_cons {t : TA} {vs : List V} (ha : Ev ta σ H v) (hr : EvA t σ H vs) : EvA (tCons ta t) σ H (v :: vs) := fun _ q => ha _ (hr _ q)
theorem et_test (h : Ev te σ H (.bl b)) : EvT (tTest te) σ H b := fun _ q => h _ ⟨b, rfl, q⟩
theorem et_B (h : Ev te σ H (.bl b)) : EvT (tB te) σ H b := fun _ q => h _ ⟨b, rfl, q⟩
theorem et_not (h : EvT t σ H b) : EvT (tNot t) σ H (!b) := fun _ q => h _ q
theorem et_and (ha : EvT t σ H a) (hb : a = true → EvT u σ H b) : EvT (tAnd t u) σ H (a && b) := fun Q z => by
  refine ha _ ?_
  cases a with
  | true => rw [if_pos rfl]; exact hb rfl _ z
  | false => rw [if_neg Bool.false_ne_true]; exact z
theorem et_or (ha : EvT t σ H a) (hb : a = false → EvT u σ H b) : EvT (tOr t u) σ H (a || b) := fun Q z => by
  refine ha _ ?_
  cases a with
  | true => rw [if_pos rfl]; exact z
  | false => rw [if_neg Bool.false_ne_true]; exact hb rfl _ z
theorem rd_if {tc : TT} {t u : TS} {D : Ends} (h : EvT tc σ H b) (h1 : b = true → t D σ H) (h2 : b = false → u D σ H) : tIfS tc t u D σ H := by
  refine h _ ?_
  cases b with
  | true => rw [if_pos rfl]; exact h1 rfl
  | false => rw [if_neg Bool.false_ne_true]; exact h2 rfl
theorem rd_ifF {tc : TT} {t u : TS} {D : Ends} (h : EvT tc σ H b) (hb : b = false) (h2 : u D σ H) : tIfS tc t u D σ H := rd_if h (fun e => absurd (hb.symm.trans e) Bool.false_ne_true) fun _ => h2
theorem rd_ifT {tc : TT} {t u : TS} {D : Ends} (h : EvT tc σ H b) (hb : b = true) (h1 : t D σ H) : tIfS tc t u D σ H := rd_if h (fun _ => h1) fun e => absurd (e.symm.trans hb) Bool.false_ne_true
theorem rd_ret {D : Ends} (h : Ev te σ H v) (q : D.rt v H) : tRet te D σ H := h _ q
end
theorem cmR {i j : Int} (h1 : -(2 ^ 64) < j) (h2 : j < 2 ^ 64) : CMul i j := .inr ⟨h1, h2⟩
theorem cmL {i j : Int} (h1 : -(2 ^ 64) < i) (h2 : i < 2 ^ 64) : CMul i j := .inl ⟨h1, h2⟩
theorem bt_len : bootBuiltins "len" = some (.builtin "len") := by decide +kernel
theorem bt_isinstance : bootBuiltins "isinstance" = some (.builtin "isinstance") := by decide +kernel
theorem bt_list : bootBuiltins "list" = some (.type "list") := by decide +kernel
theorem bt_dict : bootBuiltins "dict" = some (.type "dict") := by decide +kernel
theorem bt_set : bootBuiltins "set" = some (.type "set") := by decide +kernel
theorem bt_zip : bootBuiltins "zip" = some (.type "zip") := by decide +kernel
theorem st {t : TS} {D : Ends} {σ : St} {H : Hp} {r : VK} {b c : St → Hp → Prop} (h : t D σ H) : ({ nx := t D, rt := r, bk := b, ct := c } : Ends).nx σ H := h
section
variable {σ : St} {H : Hp} {te : TE} {tc : TT} {t u : TS} {ta : TA} {D : Ends} {b : Bool} {v : V} {vs : List V} {n : Nat} {K : PySem.W.Frag}
theorem sq_set (h : Ev te σ H v) (q : u D (σ.set n (some v)) H) : tSeq (tAsg te (gName n)) u D σ H := h _ q
theorem sq_ifF (h : EvT tc σ H b) (hb : b = false) (q : u D σ H) : tSeq (tIfS tc t tNext) u D σ H := rd_ifF (D := { D with nx := u D }) h hb q
theorem sq_if (h : EvT tc σ H b) (h1 : b = true → t { D with nx := u D } σ H) (h2 : b = false → u D σ H) : tSeq (tIfS tc t tNext) u D σ H := rd_if (D := { D with nx := u D }) h h1 h2
theorem sq_cal {sp : Sp} (h : EvA ta σ H vs) (q : sp vs H (fun v H1 => u D (σ.set n (some v)) H1) E0) : tSeq (tAsg (tCall sp [] E0 ta) (gName n)) u D σ H := h _ (by rw [List.append_nil]; exact q)
theorem gn {Q : St → Hp → Prop} (q : Q (σ.set n (some v)) H) : gName n v σ H Q := q
end
structure Callee (P : Program) (w : World) (K : PySem.W.Frag) (mg : Str → Option Value) (base : Heap) (x : Str) (k : Nat) (ps : List Str) (sp : Sp) : Prop where
  ex : ∃ f fd, FnOk P w K mg base CX0 k f fd ps sp ∧ mg x = some (.ref f) ∧ PySem.W.keepIn K (.ref f) = true ∧ Binds K fd ps []
theorem pe_cal {X : Cx} {x : Str} {k : Nat} {ps : List Str} {sp : Sp} {p pos : Pos} {e : Expr} {es : List Expr} {t : TA} (C : Callee X.prog X.w X.K X.mg X.base x k ps sp) (hr : Room k X.A) (hg : Gl X x) (ha : PA X (e :: es) t)
    (hdb : (x == ("__debug__" : Str)) = false := by decide) (he : starEach (e :: es) X.env = (false, eval e X.env) :: starEach es X.env := by rfl) (hpl : (backTo pos (starEach es X.env)).any (·.1) = false := by rfl) :
    PE X (.Call (.Name x p) (e :: es) [] pos) (tCall sp [] E0 t) := by
  obtain ⟨f, fd, G, hm, hk, hb⟩ := C.ex
  exact pe_call G hr hg hm hk hb .nil pass0 ha hdb he hpl
theorem SqT.same {K : PySem.W.Frag} {H H' : Hp} {a : Addr} {xs : List V} (e : Same H H') (h : SqT K H a xs) : SqT K H' a xs := by
  rcases h with (h | ⟨o, h⟩) | h
  · exact .inl (.inl (e _ _ h))
  · exact .inl (.inr ⟨o, e _ _ h⟩)
  · exact .inr h
theorem Same.upd {H H' : Hp} (e : Same H H') {p : Addr} {o : HO} (hp : H' p = none) : Same H (upd H' p o) := fun b u h => by
  rw [upd_ne (ne_of_none (e b u h) hp)]
  exact e b u h
end L2
namespace L2
open PySem PySem.Spec PyProof.Rows
section
variable {X : Cx} {tg : Expr}
end
theorem lc_range {lo : Int} {n : Nat} {σ0 : St} {g : TG} {tt : TT} {te : TE} {H1 : Hp} {D : Addr} {Q : Hp → Prop} (Pv : Nat → St → Hp → Prop) (h0 : Pv 0 σ0 (upd H1 D (.lst [])))
    (hs : ∀ i τ H, i < n → Pv i τ H → g (.int (lo + i)) τ H fun τ2 H2 => tt τ2 H2 fun b H3 =>
      if b = true then te τ2 H3 fun v H4 => ∃ acc, H4 D = some (.lst acc) ∧ acc.length < sizeLine ∧ Pv (i + 1) τ2 (upd H4 D (.lst (acc ++ [v]))) else Pv (i + 1) τ2 H3)
    (hd : ∀ τ H, Pv n τ H → Q H) : lcW σ0 g tt te (Itr lo n) H1 D Q := by
  refine ⟨fun i m τ H => m = n - i ∧ i ≤ n ∧ Pv i τ H, ⟨n, by simp, Nat.zero_le _, h0⟩, ?_⟩
  rintro i m τ H ⟨rfl, hi, p⟩
  by_cases hlt : i < n
  · refine .inr ⟨hlt, Pv (i + 1), fun τ' H' p' => ⟨n - (i + 1), by omega, rfl, hlt, p'⟩, fun x H' y => ?_⟩
    obtain ⟨e, y⟩ := y
    subst e y
    exact hs i τ _ hlt p
  · have e : i = n := by omega
    subst e
    exact .inl ⟨Nat.le_refl _, hd τ H p⟩
theorem lc_listG {K : PySem.W.Frag} {a : Addr} {xs : List V} {σ0 : St} {g : TG} {tt : TT} {te : TE} {H1 : Hp} {D : Addr} {Q : Hp → Prop} (Pv : Nat → St → Hp → Prop) (h0 : Pv 0 σ0 (upd H1 D (.lst [])))
    (hl : ∀ i τ H, i ≤ xs.length → Pv i τ H → SqL K H a xs)
    (hs : ∀ i x τ H, xs[i]? = some x → Pv i τ H → g x τ H fun τ2 H2 => tt τ2 H2 fun b H3 =>
      if b = true then te τ2 H3 fun v H4 => ∃ acc, H4 D = some (.lst acc) ∧ acc.length < sizeLine ∧ Pv (i + 1) τ2 (upd H4 D (.lst (acc ++ [v]))) else Pv (i + 1) τ2 H3)
    (hd : ∀ τ H, Pv xs.length τ H → Q H) : lcW σ0 g tt te (Itl K a) H1 D Q := by
  refine ⟨fun i m τ H => m = xs.length - i ∧ i ≤ xs.length ∧ Pv i τ H, ⟨xs.length, by simp, Nat.zero_le _, h0⟩, ?_⟩
  rintro i m τ H ⟨rfl, hi, p⟩
  have q := hl i τ H hi p
  by_cases hlt : i < xs.length
  · refine .inr ⟨⟨xs, xs[i], q, by simp [hlt]⟩, Pv (i + 1), fun τ' H' p' => ⟨xs.length - (i + 1), by omega, rfl, hlt, p'⟩, fun x H' y => ?_⟩
    obtain ⟨e, y⟩ := y
    subst e
    exact hs i x τ _ (y xs q) p
  · have e : i = xs.length := by omega
    subst e
    exact .inl ⟨⟨xs, q, Nat.le_refl _⟩, hd τ H p⟩
end L2
namespace L2
open PySem PySem.Spec PyProof.Rows
structure FlyT (h : Heap) (a T : Addr) (cls : Value) : Prop where
  ex : ∃ (oe : Obj) (vs : Array Value) (oT : Obj) (ts : Array Value) (a0 : Value), h.get? a = some oe ∧ oe.cls = cls ∧ vs[0]? = some a0 ∧ oe.data = .fields vs ∧ vs[1]? = some (.ref T) ∧ T ≠ a ∧ h.get? T = some oT ∧ oT.data = .fields ts ∧ ts[3]? = some .none
def CX1 (P : Program) (w : World) : CXT := fun outer H s E e s' => ∃ (a T : Addr) (C : Value) (H' : Hp), e = .ref a ∧ s'.os = s.os ∧ AllBare s'.gens ∧ Un (frs outer) [] H H' s.heap s'.heap ∧ HOk P w H' s'.heap ∧
  H' a = none ∧ H' T = none ∧ s.heap.get? a = none ∧ s.heap.get? T = none ∧ FlyT s'.heap a T C ∧ E C none H'
theorem ObjOk.there {P : Program} {w : World} {H : Hp} {h : Heap} {a : Addr} {o : HO} (x : ObjOk P w H h a o) : ∃ ob, h.get? a = some ob := by
  cases o with
  | lst xs => obtain ⟨_, _, _, _, e⟩ := x; exact ⟨_, e⟩
  | tup xs => obtain ⟨_, _, _, ob, e, _⟩ := x; exact ⟨_, e⟩
  | dK kvs => obtain ⟨_, _, _, _, o, _, _, e, _⟩ := x; exact ⟨_, e⟩
  | dT kvs => obtain ⟨_, _, _, _, o, _, _, e, _⟩ := x; exact ⟨_, e⟩
  | set S n => obtain ⟨o, _, _, _, e, _⟩ := x; exact ⟨_, e⟩
  | ins C dx fs => obtain ⟨_, _, _, e, _⟩ := x; exact ⟨_, e⟩
  | own y => exact x
  | xd fs => obtain ⟨_, ⟨_, _, _, e, _⟩, _⟩ := x; exact ⟨_, e⟩
  | rng lo hi => obtain ⟨_, _, _, e⟩ := x; exact ⟨_, e⟩
  | frz ob u => obtain ⟨e, _⟩ := x; exact ⟨_, e⟩
  | tbl ps => exact ⟨_, (show h.get? a = some _ from x)⟩
  | met f y => exact ⟨_, (show h.get? a = some _ from x)⟩
  | ext φ => exact x.2.1
theorem HOk.none_of {P : Program} {w : World} {H : Hp} {h : Heap} {a : Addr} (x : HOk P w H h) (e : h.get? a = none) : H a = none := by
  cases q : H a with
  | none => rfl
  | some u =>
    obtain ⟨o, z⟩ := (x a u q).there
    rw [e] at z; cases z
section
variable {P : Program} {w : World} {K : PySem.W.Frag} {mg : Str → Option Value} {base : Heap} {N : List Str} {qual : Str} {scope : Scope} {f : Addr} {cd : Value} {A : Around} {outer : List Env} {s₀ : Shared} {H₀ : Hp} {E : XK}
end
section
variable {X : Cx}
structure CalleeX (P : Program) (w : World) (K : PySem.W.Frag) (mg : Str → Option Value) (base : Heap) (x : Str) (k : Nat) (ps : List Str) (sp : Sp) : Prop where
  ex : ∃ f fd, FnOk P w K mg base (CX1 P w) k f fd ps sp ∧ mg x = some (.ref f) ∧ PySem.W.keepIn K (.ref f) = true ∧ Binds K fd ps []
end
section
variable {P : Program} {w : World} {K : PySem.W.Frag} {mg : Str → Option Value} {base : Heap} {N : List Str} {qual : Str} {scope : Scope} {f : Addr} {cd : Value} {A : Around} {outer : List Env} {s₀ : Shared} {H₀ : Hp} {E : XK}
end
end L2
namespace L2
open PySem PySem.Spec PyProof.Rows
section
variable {P : Program} {w : World} {K : PySem.W.Frag} {mg : Str → Option Value} {base : Heap}
end
section
variable {X : Cx} {pins : List (Addr × Obj)} {σ : St} {H : Hp} {s : Shared}
end
section
variable {X : Cx}
end
end L2
namespace L2
open PySem PySem.Spec PyProof.Rows
open PySem.W (Looks)
open Builtin Builtin.ObjectAttr Builtin.Getset_descriptor
structure ExcCls (K : PySem.W.Frag) (C : Addr) : Prop where
  ga : PySem.W.findIn K (.ref C) "__getattribute__" = some (some (.builtin "BaseException.__getattribute__"))
  gt : PySem.W.findIn K (.ref C) "__getattr__" = some none
  cl : PySem.W.findIn K (.ref C) "__class__" = some (some (.builtin "object.__class__"))
  gg : PySem.W.specialIn K (.builtin "object.__class__") "__get__" = some (some (.builtin "getset_descriptor.__get__"))
  tk : PySem.W.takesIn K (.builtin "object.__class__") = some true
  ob : PySem.W.mroIn K C (.type "object") = some true
  be : PySem.W.mroIn K C (.type "BaseException") = some true
section
variable {prog : Program} {w : World} {A : Around} {E : Value → Shared → Prop} {K : PySem.W.Frag} {C a : Addr} {h : Heap} {g : Array GenState} {d : Drawn} {t : Nat} {os : OsState} {o : Obj}
end
section
variable {X : Cx}
end
end L2
namespace L2
open PySem PySem.Spec PyProof.Rows
section
variable {X : Cx}
theorem vals_refs : ∀ {cs : List Addr} {us : List Value}, Vals (cs.map V.ref) us → us = cs.map Value.ref
  | [], _, .nil => rfl
  | _ :: _, _, .cons r t => by rw [vals_refs t]; cases (show _ = Value.ref _ from r); rfl
def FP (X : Cx) (e : Expr) (c : St → Hp → Prop) : Prop := ∀ (pins : List (Addr × Obj)) (σ : St) (H : Hp) (s : Shared) (Q : Value → Shared → Prop), Inv X pins σ H s → c σ H →
  (∀ y t s', Inv X pins σ H s' → y.length ≤ 6000 → Q (.str y t) s') → wpAny (model X.prog X.w) X.A (eval e X.env) Q X.xe s
inductive FPs (X : Cx) : List Expr → (St → Hp → Prop) → Prop where
  | nil : FPs X [] fun _ _ => True
  | cons {e es c cs} : FP X e c → FPs X es cs → FPs X (e :: es) fun σ H => c σ H ∧ cs σ H
inductive Fm (K : PySem.W.Frag) (H : Hp) : V → Prop where
  | int (i : Int) : i.natAbs.log2 < 1920 → Fm K H (.int i)
  | tup (a : Addr) (is : List Int) : SqT K H a (is.map V.int) → is.length ≤ 3 → (∀ i ∈ is, i.natAbs.log2 < 1920) → Fm K H (.ref a)
theorem ev_U {ta : TE} {σ : St} {H : Hp} {i : Int} {g : Int → V} (ha : Ev ta σ H (.int i)) : Ev (tUn (rU g) ta) σ H (g i) := fun _ q => ha _ ⟨i, rfl, q⟩
theorem sq_asg {te : TE} {u : TS} {D : Ends} {σ : St} {H : Hp} {n : Nat} (q : te σ H fun v H1 => u D (σ.set n (some v)) H1) : tSeq (tAsg te (gName n)) u D σ H := q
structure ExcN (K : PySem.W.Frag) (mg : Str → Option Value) (x : Str) (C : Addr) : Prop where
  bd : mg x = some (.ref C)
  ex : PySem.W.excIn K C [.type "ValueError", .type "Exception", .type "BaseException", .type "object"] "ValueError.__new__" = true
  ok : ExcCls K C
end
end L2
namespace L2
open PySem PySem.Spec PyProof.Rows
structure MCallee (P : Program) (w : World) (K : PySem.W.Frag) (mg : Str → Option Value) (base : Heap) (C : Addr) (m : Str) (k : Nat) (ps : List Str) (sp : Sp) : Prop where
  ex : ∃ f fd, FnOk P w K mg base CX0 k f fd ps sp ∧ Meth K C m f ∧ Binds K fd ps []
structure KCallee (P : Program) (w : World) (K : PySem.W.Frag) (mg : Str → Option Value) (base : Heap) (C : Addr) (x : Str) (k : Nat) (ps : List Str) (sp : Sp) : Prop where
  ex : ∃ f fd, FnOk P w K mg base CX0 k f fd ps sp ∧ Mk K C f ∧ mg x = some (.ref C) ∧ Binds K fd ps []
section
variable {X : Cx} {C : Addr} {k : Nat} {ps : List Str} {sp : Sp} {x m : Str} {p pos apos : Pos} {e o : Expr} {es : List Expr} {ta : TE} {t : TA}
end
section
variable {σ : St} {H : Hp} {tc : TT} {te : TE} {t u v : TS} {D : Ends} {a b : Bool}
theorem while_ev (W : Nat → St → Hp → Prop) (h0 : ∃ m, W m σ H) (hs : ∀ m σ H, W m σ H → ∃ b, EvT tc σ H b ∧ (b = true → ∀ N : St → Hp → Prop, (∀ m' σ' H', m' < m → W m' σ' H' → N σ' H') → t { D with nx := N, ct := N, bk := D.nx } σ H) ∧ (b = false → D.nx σ H)) :
    tWhile tc t D σ H := by
  refine ⟨W, h0, fun m σ H w => ?_⟩
  obtain ⟨b, hb, h1, h2⟩ := hs m σ H w
  refine hb _ ?_
  cases b with
  | true => rw [if_pos rfl]; exact ⟨fun σ' H' => ∃ m', m' < m ∧ W m' σ' H', fun _ _ z => z, h1 rfl _ fun m' σ' H' l w' => ⟨m', l, w'⟩⟩
  | false => rw [if_neg Bool.false_ne_true]; exact h2 rfl
theorem sq_R (J : St → Hp → Prop) (h1 : ∀ R : St → Hp → Prop, (∀ σ H, J σ H → R σ H) → t { D with nx := R } σ H) (hv : ∀ σ H, J σ H → v D σ H) : tSeq t v D σ H := h1 _ hv
end
end L2
namespace L2
open PySem PySem.Spec PyProof.Rows
structure MCalleeX (P : Program) (w : World) (K : PySem.W.Frag) (mg : Str → Option Value) (base : Heap) (C : Addr) (m : Str) (k : Nat) (ps : List Str) (sp : Sp) : Prop where
  ex : ∃ f fd, FnOk P w K mg base (CX1 P w) k f fd ps sp ∧ Meth K C m f ∧ Binds K fd ps []
structure KCalleeX (P : Program) (w : World) (K : PySem.W.Frag) (mg : Str → Option Value) (base : Heap) (C : Addr) (x : Str) (k : Nat) (ps : List Str) (sp : Sp) : Prop where
  ex : ∃ f fd, FnOk P w K mg base (CX1 P w) k f fd ps sp ∧ Mk K C f ∧ mg x = some (.ref C) ∧ Binds K fd ps []
section
variable {X : Cx} {Ex : St → Value → Hp → Prop} {C : Addr} {k : Nat} {f : Addr} {fd : FuncData} {ps : List Str} {sp : Sp} {x m : Str} {p pos apos : Pos} {e o : Expr} {es : List Expr} {ta : TE} {t : TA}
end
end L2
namespace L2
open PySem PySem.W PyProof.Rows
def evT {α : Type} (lt : Nat → Nat → Bool) : KasT α → α
  | .ret a => a
  | .ask i j k => evT lt (k (lt i j))
inductive AskE (lt : Nat → Nat → Bool) (n : Nat) : {α : Type} → KasT α → Prop where
  | ret {α : Type} (a : α) : AskE lt n (KasT.ret a)
  | ask {α : Type} {i j : Nat} {k : Bool → KasT α} : i < n → j < n → AskE lt n (k (lt i j)) → AskE lt n (.ask i j k)
theorem AskE.bind {lt : Nat → Nat → Bool} {n : Nat} {α β : Type} {f : α → KasT β} : ∀ {t : KasT α}, AskE lt n t → AskE lt n (f (evT lt t)) → AskE lt n (t.bind f)
  | .ret _, _, hf => hf
  | .ask _ _ _, .ask h1 h2 h3, hf => .ask h1 h2 (AskE.bind h3 hf)
section
variable {O : KeyOrd} (key : Nat → O.α)
def kA (p : Array Nat) (k : Nat) : O.α := key (p.getD k 0)
def Up (p : Array Nat) (n : Nat) : Prop := ∀ i j, i ≤ j → j < n → O.kle (kA key p i) (kA key p j)
def Dn (p : Array Nat) (n : Nat) : Prop := ∀ i j, i ≤ j → j < n → O.kle (kA key p j) (kA key p i)
def PermN (n : Nat) (p : Array Nat) : Prop := p.Perm (List.toArray (List.range n))
variable {key}
theorem PermN.size {n : Nat} {p : Array Nat} (h : PermN n p) : p.size = n := by
  have := h.size_eq
  simpa using this
theorem PermN.lt {n : Nat} {p : Array Nat} (h : PermN n p) (k : Nat) (hk : k < n) : p.getD k 0 < n := by
  have hz := h.size
  have hm : p[k]'(by omega) ∈ p := Array.getElem_mem _
  have := (h.mem_iff).mp hm
  rw [Array.getD_eq_getD_getElem?, Array.getElem?_eq_getElem (by omega)]
  simpa using this
theorem getD_rev {p : Array Nat} {i j : Nat} (hj : j ≤ p.size) (k : Nat) : (kas_rev p i j).getD k 0 = if i ≤ k ∧ k < j then p.getD (i + j - 1 - k) 0 else p.getD k 0 := by
  unfold kas_rev
  rw [Array.getD_eq_getD_getElem?, getElem?_mirror_all hj]
  split <;> rw [Array.getD_eq_getD_getElem?]
theorem Up.snoc {p : Array Nat} {n : Nat} (h : Up key p n) (hn : 1 ≤ n) (hl : O.kle (kA key p (n - 1)) (kA key p n)) : Up key p (n + 1) := fun i j hij hj => by
  by_cases e : j = n
  · subst e
    by_cases e2 : i = j
    · subst e2; exact KeyOrd.kle_refl _
    · exact KeyOrd.kle_trans (h i (j - 1) (by omega) (by omega)) hl
  · exact h i j hij (by omega)
theorem Dn.snoc {p : Array Nat} {n : Nat} (h : Dn key p n) (hn : 1 ≤ n) (hl : O.kle (kA key p n) (kA key p (n - 1))) : Dn key p (n + 1) := fun i j hij hj => by
  by_cases e : j = n
  · subst e
    by_cases e2 : i = j
    · subst e2; exact KeyOrd.kle_refl _
    · exact KeyOrd.kle_trans hl (h i (j - 1) (by omega) (by omega))
  · exact h i j hij (by omega)
theorem Dn.turn {p : Array Nat} {n : Nat} (h : Dn key p n) (hn : n ≤ p.size) : Up key (kas_rev p 0 n) n := fun i j hij hj => by
  unfold kA
  rw [getD_rev hn, getD_rev hn, if_pos ⟨Nat.zero_le _, by omega⟩, if_pos ⟨Nat.zero_le _, by omega⟩]
  exact h _ _ (by omega) (by omega)
end
end L2
namespace L2
open PySem PySem.Spec PyProof.Rows
mutual
inductive Dp (K : PySem.W.Frag) (H : Hp) : V → PyData → Prop
  | non : Dp K H .non .none
  | bl (b : Bool) : Dp K H (.bl b) (.bool b)
  | int (i : Int) : Dp K H (.int i) (.int i)
  | str (x : Str) (h : PyData.strOk x = true) : Dp K H (.str x) (.str x)
  | tup {a : Addr} {xs : List V} {ds : List PyData} (h : SqT K H a xs) (r : Dps K H xs ds) : Dp K H (.ref a) (.tuple ds)
  | lst {a : Addr} {xs : List V} {ds : List PyData} (h : SqL K H a xs) (r : Dps K H xs ds) : Dp K H (.ref a) (.list ds)
inductive Dps (K : PySem.W.Frag) (H : Hp) : List V → List PyData → Prop
  | nil : Dps K H [] []
  | cons {x : V} {xs : List V} {d : PyData} {ds : List PyData} (h : Dp K H x d) (r : Dps K H xs ds) : Dps K H (x :: xs) (d :: ds)
end
mutual
theorem Dp.lay {K : PySem.W.Frag} {H : Hp} : ∀ {v : V} {d : PyData}, Dp K H v d → d.canLay0 = true
  | _, _, .non => rfl
  | _, _, .bl _ => rfl
  | _, _, .int _ => rfl
  | _, _, .str _ h => by simpa [PyData.canLay0] using h
  | _, _, .tup _ r => by simpa [PyData.canLay0] using r.lay
  | _, _, .lst _ r => by simpa [PyData.canLay0] using r.lay
theorem Dps.lay {K : PySem.W.Frag} {H : Hp} : ∀ {xs : List V} {ds : List PyData}, Dps K H xs ds → PyData.canLayAll0 ds = true
  | _, _, .nil => by simp [PyData.canLayAll0]
  | _, _, .cons h r => by simp [PyData.canLayAll0, h.lay, r.lay]
end
mutual
theorem Dp.reads {X : Cx} {pins : List (Addr × Obj)} {σ : St} {H : Hp} {s : Shared} (I : Inv X pins σ H s) : ∀ {v : V} {d : PyData} {u : Value}, Dp X.K H v d → RelV v u → ∃ as, Reads s.heap u d as
  | _, _, _, .non, r => by cases (show _ = Value.none from r); exact ⟨_, .none⟩
  | _, _, _, .bl b, r => by cases (show _ = Value.bool b from r); exact ⟨_, .bool b⟩
  | _, _, _, .int i, r => by obtain ⟨t, rfl⟩ := r; exact ⟨_, .int i t⟩
  | _, _, _, .str x _, r => by obtain ⟨t, rfl⟩ := r; exact ⟨_, .str x t⟩
  | _, _, _, .tup (a := a) h rs, r => by
    cases (show _ = Value.ref a from r)
    obtain ⟨its, rv, ⟨o, ho, hc, n, hd⟩, _⟩ := I.tuple h
    obtain ⟨as, ra⟩ := Dps.reads I rs rv
    exact ⟨_, .tuple ho hc hd (by simpa using ra)⟩
  | _, _, _, .lst (a := a) h rs, r => by
    cases (show _ = Value.ref a from r)
    obtain ⟨its, rv, pl, _⟩ := I.list h
    obtain ⟨o, ho, hc, n, hd⟩ := pl.isList
    obtain ⟨as, ra⟩ := Dps.reads I rs rv
    exact ⟨_, .list ho hc hd (by simpa using ra)⟩
theorem Dps.reads {X : Cx} {pins : List (Addr × Obj)} {σ : St} {H : Hp} {s : Shared} (I : Inv X pins σ H s) : ∀ {xs : List V} {ds : List PyData} {us : List Value}, Dps X.K H xs ds → Vals xs us → ∃ as, ReadsAll s.heap us ds as
  | _, _, _, .nil, .nil => ⟨_, .nil⟩
  | _, _, _, .cons h rs, .cons r rr => by
    obtain ⟨as, ra⟩ := Dp.reads I h r
    obtain ⟨bs, rb⟩ := Dps.reads I rs rr
    exact ⟨_, .cons ra rb⟩
end
section
variable {X : Cx}
def rEqD (K : PySem.W.Frag) : R2 := fun x y H Q => ∃ d e, Dp K H x d ∧ Dp K H y e ∧ d.depth ≤ 60 ∧ Q (.bl (PyData.eqv d e)) H
def rNeD (K : PySem.W.Frag) : R2 := fun x y H Q => ∃ d e, Dp K H x d ∧ Dp K H y e ∧ d.depth ≤ 60 ∧ Q (.bl (!PyData.eqv d e)) H
theorem op_eqD {k : Nat} (hr : Room k X.A) : OpR X (compareOp .Eq) (rEqD X.K) := by
  intro pins s σ H x y v u Q I rx ry h
  obtain ⟨d, e, h1, h2, hd, q⟩ := h
  obtain ⟨as, r1⟩ := h1.reads I rx
  obtain ⟨bs, r2⟩ := h2.reads I ry
  have := hr.units
  exact SeqAt.compareEq_reads r1 r2 h1.lay h2.lay (by omega) ⟨.bl _, H, I, rfl, q⟩
theorem op_neD {k : Nat} (hr : Room k X.A) : OpR X (compareOp .NotEq) (rNeD X.K) := by
  intro pins s σ H x y v u Q I rx ry h
  obtain ⟨d, e, h1, h2, hd, q⟩ := h
  obtain ⟨as, r1⟩ := h1.reads I rx
  obtain ⟨bs, r2⟩ := h2.reads I ry
  have := hr.units
  exact SeqAt.compareNe_reads r1 r2 h1.lay h2.lay (by omega) ⟨.bl _, H, I, rfl, q⟩
end
mutual
theorem eqv_refl : ∀ {d : PyData}, d.canLay0 = true → PyData.eqv d d = true
  | .none, _ => by simp [PyData.eqv]
  | .bool _, _ => by simp [PyData.eqv]
  | .int _, _ => by simp [PyData.eqv]
  | .str _, _ => by simp [PyData.eqv]
  | .list xs, h => by simp only [PyData.eqv]; exact eqvAll_refl (by simpa [PyData.canLay0] using h)
  | .tuple xs, h => by simp only [PyData.eqv]; exact eqvAll_refl (by simpa [PyData.canLay0] using h)
  | .dict _, h => by simp [PyData.canLay0] at h
theorem eqvAll_refl : ∀ {ds : List PyData}, PyData.canLayAll0 ds = true → PyData.eqvAll ds ds = true
  | [], _ => by simp [PyData.eqvAll]
  | d :: r, h => by
    have h' : d.canLay0 = true ∧ PyData.canLayAll0 r = true := by simpa [PyData.canLayAll0] using h
    simp only [PyData.eqvAll, eqv_refl h'.1, eqvAll_refl h'.2, Bool.and_self]
end
theorem dps_ints {K : PySem.W.Frag} {H : Hp} : ∀ (ns : List Int), Dps K H (ns.map V.int) (ns.map PyData.int)
  | [] => .nil
  | n :: r => .cons (.int n) (dps_ints r)
theorem Dp.ints {K : PySem.W.Frag} {H : Hp} {a : Addr} {ns : List Int} (h : SqT K H a (ns.map V.int)) : Dp K H (.ref a) (.tuple (ns.map PyData.int)) := .tup h (dps_ints ns)
theorem eqvAll_ints : ∀ (ns ms : List Int), PyData.eqvAll (ns.map PyData.int) (ms.map PyData.int) = decide (ns = ms)
  | [], [] => by simp [PyData.eqvAll]
  | [], _ :: _ => by simp [PyData.eqvAll]
  | _ :: _, [] => by simp [PyData.eqvAll]
  | n :: r, m :: t => by
    simp only [List.map_cons, PyData.eqvAll, PyData.eqv, eqvAll_ints r t, List.cons.injEq]
    by_cases h1 : n = m <;> by_cases h2 : r = t <;> simp [h1, h2]
theorem eqv_tints (ns ms : List Int) : PyData.eqv (.tuple (ns.map PyData.int)) (.tuple (ms.map PyData.int)) = decide (ns = ms) := by simp only [PyData.eqv]; exact eqvAll_ints ns ms
theorem depthAll_le {n : Nat} : ∀ {ds : List PyData}, (∀ d ∈ ds, d.depth ≤ n) → PyData.depthAll ds ≤ n
  | [], _ => by simp [PyData.depthAll]
  | d :: r, h => by
    simp only [PyData.depthAll]
    exact Nat.max_le.mpr ⟨h d List.mem_cons_self, depthAll_le fun e he => h e (List.mem_cons_of_mem _ he)⟩
theorem depth_tints (ns : List Int) : (PyData.tuple (ns.map PyData.int)).depth ≤ 1 := by
  have : PyData.depthAll (ns.map PyData.int) ≤ 0 := depthAll_le fun d hd => by
    obtain ⟨i, _, rfl⟩ := List.mem_map.mp hd
    simp [PyData.depth]
  simp only [PyData.depth]; omega
theorem SqT.kept {K : PySem.W.Frag} {H H' : Hp} {a : Addr} {xs : List V} (e : ∀ b o, H b = some o → H' b = some o) (h : SqT K H a xs) : SqT K H' a xs := SqT.same e h
mutual
theorem Dp.same {K : PySem.W.Frag} {H H' : Hp} (e : Same H H') : ∀ {v : V} {d : PyData}, Dp K H v d → Dp K H' v d
  | _, _, .non => .non
  | _, _, .bl b => .bl b
  | _, _, .int i => .int i
  | _, _, .str x h => .str x h
  | _, _, .tup h r => .tup (h.same e) (Dps.same e r)
  | _, _, .lst h r => .lst (e.seq h) (Dps.same e r)
theorem Dps.same {K : PySem.W.Frag} {H H' : Hp} (e : Same H H') : ∀ {xs : List V} {ds : List PyData}, Dps K H xs ds → Dps K H' xs ds
  | _, _, .nil => .nil
  | _, _, .cons h r => .cons (Dp.same e h) (Dps.same e r)
end
section
variable {σ : St} {H : Hp} {ta tb : TE} {x y : V} {d e : PyData} {K : PySem.W.Frag}
theorem ev_eqD (ha : Ev ta σ H x) (hb : Ev tb σ H y) (h1 : Dp K H x d) (h2 : Dp K H y e) (hd : d.depth ≤ 60) : Ev (tOp (rEqD K) ta tb) σ H (.bl (PyData.eqv d e)) := fun _ z => ha _ (hb _ ⟨d, e, h1, h2, hd, z⟩)
theorem ev_neD (ha : Ev ta σ H x) (hb : Ev tb σ H y) (h1 : Dp K H x d) (h2 : Dp K H y e) (hd : d.depth ≤ 60) : Ev (tOp (rNeD K) ta tb) σ H (.bl (!PyData.eqv d e)) := fun _ z => ha _ (hb _ ⟨d, e, h1, h2, hd, z⟩)
end
end L2
namespace L2
open PySem PySem.Spec PyProof.Rows
abbrev Tups (H : Hp) (as : List Addr) (cs : List (List Int)) : Prop := Paired (fun a (c : List Int) => H a = some (.tup (c.map V.int))) as cs
theorem Tups.at {H : Hp} : ∀ {as : List Addr} {cs : List (List Int)} {i : Nat} {a : Addr}, Tups H as cs → as[i]? = some a → ∃ c, cs[i]? = some c ∧ H a = some (.tup (c.map V.int))
  | _, _, 0, _, .cons h _, e => by cases e; exact ⟨_, rfl, h⟩
  | _, _, i + 1, _, .cons _ t, e => Tups.at (i := i) t e
  | _, _, _, _, .nil, e => by simp at e
theorem Tups.same {H H' : Hp} {as : List Addr} {cs : List (List Int)} (h : Tups H as cs) (e : Same H H') : Tups H' as cs := Paired.mapP h fun _ _ z => e _ _ z
theorem Tups.dps {K : PySem.W.Frag} {H : Hp} : ∀ {as : List Addr} {cs : List (List Int)}, Tups H as cs → Dps K H (as.map V.ref) (cs.map fun c => PyData.tuple (c.map PyData.int))
  | _, _, .nil => .nil
  | _, _, .cons h t => .cons (.ints (SqT.of h)) (Tups.dps t)
open PySem.W in
theorem katlex_ints {prog : Program} {w : World} {A : Around} {b fin : Bool} {Q : Bool → Shared → Prop} {s : Shared} : ∀ (us ws : List Value) (ns ms : List Int) (i : Nat), Vals (ns.map V.int) us → Vals (ms.map V.int) ws → fin = decide (ns.length < ms.length) →
    Q (HT.lexLt ns ms) s → KatLex prog w A b fin Q (us.zip ws) i s
  | [], ws, ns, ms, i, r1, r2, hf, h => by
    cases ns with
    | cons n r => cases r1
    | nil =>
      refine kat_nil ?_
      rw [hf]
      cases ms with
      | nil => exact h
      | cons m t => exact h
  | u :: us, [], ns, ms, i, r1, r2, hf, h => by
    cases ms with
    | cons m t => cases r2
    | nil =>
      refine kat_nil ?_
      rw [hf]
      cases ns with
      | nil => exact h
      | cons m t => exact h
  | u :: us, v :: ws, ns, ms, i, r1, r2, hf, h => by
    cases ns with
    | nil => cases r1
    | cons n r =>
      cases ms with
      | nil => cases r2
      | cons m t =>
        cases r1 with
        | cons q1 r1 =>
          cases r2 with
          | cons q2 r2 =>
            obtain ⟨t1, rfl⟩ := q1
            obtain ⟨t2, rfl⟩ := q2
            refine kat_cons (wpAny_eqBool_int ?_)
            rw [HT.lexLt_cons] at h
            refine kat_go (fun e => ?_) (fun e => ?_)
            · have e' : n = m := by simpa using e
              rw [if_pos e'] at h
              exact kat_yes (katlex_ints us ws r t (i + 1) r1 r2 (by rw [hf]; simp) h)
            · have e' : ¬ n = m := by simpa using e
              rw [if_neg e'] at h
              refine kat_no ?_
              cases (b && i == 0) with
              | true => exact oneLt_int h
              | false => exact kat_one _ _ (lt_int h)
section
variable {X : Cx}
end
section
variable {prog : Program} {w : World} {A : Around} {E : Value → Shared → Prop} {s : Shared}
end
section
variable {X : Cx}
end
section
variable {X : Cx}
end
end L2
namespace L2
open PySem PySem.Spec PyProof.Rows
abbrev cp (z : Str) : List Nat := z.cps.toList
section
variable {X : Cx} {tg : Expr}
end
section
variable {σ : St} {H : Hp} {ta tb : TE} {x y : Str} {a b : Bool}
end
end L2
namespace L2
open PySem PySem.Spec PyProof.Rows
section
variable {X : Cx}
def FX (X : Cx) (e : Expr) (c : St → Hp → Str → Prop) : Prop := ∀ (pins : List (Addr × Obj)) (σ : St) (H : Hp) (s : Shared) (y : Str) (Q : Value → Shared → Prop), Inv X pins σ H s → c σ H y →
  (∀ t s', Inv X pins σ H s' → y.length ≤ 6000 → Q (.str y t) s') → wpAny (model X.prog X.w) X.A (eval e X.env) Q X.xe s
inductive FXs (X : Cx) : List Expr → (St → Hp → List Str → Prop) → Prop where
  | nil : FXs X [] fun _ _ ys => ys = []
  | cons {e es c cs} : FX X e c → FXs X es cs → FXs X (e :: es) fun σ H ys => ∃ y r, ys = y :: r ∧ c σ H y ∧ cs σ H r
end
end L2
namespace L2
open PySem PySem.Spec PyProof.Rows
open AutoSeq1 (wpAny_loadPart')
section
variable {prog : Program} {w : World} {A : Around} {E : Value → Shared → Prop} {s : Shared}
end
theorem Inv.turnedLaid {X : Cx} {pins : List (Addr × Obj)} {σ : St} {H : Hp} {s : Shared} {h' : Heap} {t' : Nat} {a : Addr} {o : HO} {fp : List Addr} (I : Inv X pins σ H s) (hf : ∀ b ∈ fp, FpOk X pins H b)
    (k : ∀ b u, b ∉ fp → s.heap.get? b = some u → h'.get? b = some u) (hn : s.heap.get? a = none) (new : ObjOk X.prog X.w (upd H a o) h' a o) : Inv X pins σ (upd H a o) { s with heap := h', toks := t' } := by
  have hHa : H a = none := I.hok.none_of hn
  have trk : ∀ b u, H b = some u → b ∉ fp := fun b u e z => by rw [(hf b z).1] at e; cases e
  have nea : ∀ b u, s.heap.get? b = some u → b ≠ a := fun b u e z => by rw [z, hn] at e; cases e
  refine I.step (g' := s.gens) (d' := s.drawn) (ch := fp) (fun b hb => ⟨(hf b hb).2.2.2.1, (hf b hb).2.1, (hf b hb).2.2.2.2.1, (hf b hb).2.2.2.2.2⟩) (fun b u _ _ hc e _ => k b u hc e) (fun b u _ _ hc e _ => ⟨u.slots, k b u hc e⟩) (fun b u _ e n => by rw [upd_ne (nea b u e)]; exact n)
    (fun b u hc e => ⟨u, k b u hc e⟩) (fun b xs e => by rw [upd_ne (ne_of_none e hHa)]; exact e) (fun b u xs e => by rw [upd_ne (ne_of_none e hHa)]; exact e) (fun b ps e => ⟨#[], by rw [upd_ne (ne_of_none e hHa), e]; simp⟩) (fun m hm => ?_) (fun b u e => ?_) I.bare
  · obtain ⟨o', es, ep, ho, r⟩ := hm
    exact ⟨o', es, ep, k _ o' (fun z => (hf _ z).2.1 rfl) ho, r⟩
  · by_cases hb : b = a
    · subst hb; rw [upd_same] at e; cases e; exact new
    · rw [upd_ne hb] at e
      refine (I.hok b u e).stay (fun c v hc q => k c v ?_ q) (fun c q => by rw [upd_ne (ne_of_none q hHa)]; exact q) fun c xs q => by rw [upd_ne (ne_of_none q hHa)]; exact q
      rcases hc with rfl | hc
      · exact trk _ _ e
      · exact trk _ _ hc
section
variable {X : Cx}
end
end L2
namespace L2
open PySem PySem.Spec PyProof.Rows
inductive Cs (A : Around) (s : Shared) (op : CmpOp) : List Value → List Value → List (Bool × Bool) → Prop
  | nil : Cs A s op [] [] []
  | cons {v w : Value} {e b : Bool} {vs ws : List Value} {cs : List (Bool × Bool)} (he : SeqAt.EqAt A s v w e)
      (hb : e = false → ∀ (prog : Program) (w' : World) (E : Value → Shared → Prop) (Q : Value → Shared → Prop), Q (.bool b) s → wpAny (model prog w') A (richCompare op v w) Q E s) (t : Cs A s op vs ws cs) : Cs A s op (v :: vs) (w :: ws) ((e, b) :: cs)
def res : List (Bool × Bool) → Bool → Bool
  | [], z => z
  | (true, _) :: r, z => res r z
  | (false, b) :: _, _ => b
theorem Cs.len {A : Around} {s : Shared} {op : CmpOp} : ∀ {vs ws : List Value} {cs : List (Bool × Bool)}, Cs A s op vs ws cs → vs.length = ws.length
  | _, _, _, .nil => rfl
  | _, _, _, .cons _ _ t => by rw [List.length_cons, List.length_cons, t.len]
section
open PySem.SeqAt
open PySem.AutoSeq1 (wpAny_loadPart')
open PySem.MeetsSeq PySem.MeetsSeq2 PySem.MeetsSeq3
end
def Mrk (K : PySem.W.Frag) (H : Hp) (kd : Bool) (m : V) (l : List Int) : Prop :=
  (kd = false ∧ ∃ i, m = .int i ∧ l = [i]) ∨ (kd = true ∧ ∃ b i j, m = .ref b ∧ SqT K H b [.int i, .int j] ∧ l = [i, j])
def Pr (K : PySem.W.Frag) (H : Hp) (kd : Bool) (v : V) (k : List Int) : Prop := ∃ a p m l, v = .ref a ∧ SqT K H a [.int p, m] ∧ Mrk K H kd m l ∧ k = p :: l
theorem Mrk.same {K : PySem.W.Frag} {H H' : Hp} {kd : Bool} {m : V} {l : List Int} (h : Mrk K H kd m l) (k : ∀ b xs, SqT K H b xs → SqT K H' b xs) : Mrk K H' kd m l := by
  rcases h with h | ⟨h, b, i, j, e, q, r⟩
  · exact .inl h
  · exact .inr ⟨h, b, i, j, e, k _ _ q, r⟩
theorem Pr.same {K : PySem.W.Frag} {H H' : Hp} {kd : Bool} {m : V} {l : List Int} (h : Pr K H kd m l) (k : ∀ b xs, SqT K H b xs → SqT K H' b xs) : Pr K H' kd m l := by
  obtain ⟨a, p, m, l, e, q, r, z⟩ := h
  exact ⟨a, p, m, l, e, k _ _ q, r.same k, z⟩
section
variable {X : Cx}
theorem Mrk.cs {pins : List (Addr × Obj)} {σ : St} {H : Hp} {s : Shared} {kd : Bool} {x y : V} {u v : Value} {l1 l2 : List Int} {A : Around} (I : Inv X pins σ H s) (hu : A.units + 10 < cLine) (hx : Mrk X.K H kd x l1) (hy : Mrk X.K H kd y l2) (rx : RelV x u) (ry : RelV y v) :
    SeqAt.EqAt A s u v (decide (l1 = l2)) ∧ (∀ (prog : Program) (w' : World) (E : Value → Shared → Prop) (Q : Value → Shared → Prop), Q (.bool (HT.lexLt l1 l2)) s → wpAny (model prog w') A (richCompare .Lt u v) Q E s) := by
  rcases hx with ⟨rfl, i, rfl, rfl⟩ | ⟨rfl, b, i, j, rfl, hb, rfl⟩
  · rcases hy with ⟨_, i', rfl, rfl⟩ | ⟨h, _⟩
    · obtain ⟨t, rfl⟩ := rx
      obtain ⟨t', rfl⟩ := ry
      refine ⟨?_, fun prog w' E Q q => ?_⟩
      · have := SeqAt.EqAt.int_int (A := A) (s := s) i t i' t'
        have e : (i == i') = decide ([i] = [i']) := by simp [Bool.beq_eq_decide_eq]
        rw [← e]; exact this
      · have e : HT.lexLt [i] [i'] = decide (i < i') := by
          rw [HT.lexLt_cons]
          by_cases h : i = i'
          · subst h; simp [HT.lexLt_nil_nil]
          · rw [if_neg h]
        rw [e] at q
        exact HT.rcLt_int A s i t i' t' prog w' E Q q
    · cases h
  · rcases hy with ⟨h, _⟩ | ⟨_, b', i', j', rfl, hb', rfl⟩
    · cases h
    · cases rx
      cases ry
      refine ⟨?_, fun prog w' E Q q => ?_⟩
      · have d1 : Dp X.K H (.ref b) (.tuple [.int i, .int j]) := Dp.ints (ns := [i, j]) hb
        have d2 : Dp X.K H (.ref b') (.tuple [.int i', .int j']) := Dp.ints (ns := [i', j']) hb'
        obtain ⟨as, r1⟩ := d1.reads I rfl
        obtain ⟨bs, r2⟩ := d2.reads I rfl
        have hd := depth_tints [i, j]
        have := SeqAt.eqAt_reads _ _ A s _ _ as bs r1 r2 d1.lay d2.lay (Nat.lt_of_le_of_lt (Nat.add_le_add_left (Nat.le_trans (Nat.min_le_left _ _) hd) _) (by omega))
        rw [show PyData.eqv (.tuple [.int i, .int j]) (.tuple [.int i', .int j']) = decide ([i, j] = [i', j']) from eqv_tints [i, j] [i', j']] at this
        exact this
      · obtain ⟨its, r1, p1, _⟩ := I.tuple hb
        obtain ⟨its2, r2, p2, _⟩ := I.tuple hb'
        exact HT.lt_tupInts p1 p2 (intsAre_of (ns := [i, j]) r1) (intsAre_of (ns := [i', j']) r2) (by omega) q
end
end L2
namespace L2
open PySem PySem.Spec PyProof.Rows
theorem one_of_nodup {α : Type} (f : α → Int) (c : Int) : ∀ (l : List α), (l.map f).Nodup → (l.filter fun x => f x == c).length ≤ 1
  | [], _ => by simp
  | a :: r, h => by
    rw [List.map_cons, List.nodup_cons] at h
    have ih := one_of_nodup f c r h.2
    by_cases e : f a = c
    · have z : (r.filter fun x => f x == c) = [] := by
        refine List.filter_eq_nil_iff.mpr fun x hx q => h.1 ?_
        rw [e]
        exact List.mem_map.mpr ⟨x, hx, by simpa using q⟩
      rw [List.filter_cons_of_pos (p := fun x => f x == c) (by simpa using e), z]
      exact Nat.le_refl _
    · rw [List.filter_cons_of_neg (p := fun x => f x == c) (by simpa using e)]
      exact ih
section
variable {prog : Program} {w : World} {A : Around} {E : Value → Shared → Prop} {s : Shared}
theorem quiet_tup {b : Addr} {Q : Bool → Shared → Prop} (hT : s.TypeIs (.ref b) "tuple") (h : Q false s) : wpAny (model prog w) A (Builtin.Dict.quietEq (.ref b)) Q E s := by
  unfold Builtin.Dict.quietEq
  refine wpAny_bind (wpAny_specialOf hT F.slot_tuple_eq.lookup (wpAny_pure ?_))
  exact h
theorem entries_tup {id : String} {d : Addr} {o : Obj} {es : Array DictEntry} {ep : Nat} {Q : Array DictEntry → Shared → Prop} (ho : s.heap.get? d = some o) (hd : o.data = .dict es ep)
    (hk : ∀ e ∈ es, ∃ b, e.key = .ref b ∧ s.TypeIs (.ref b) "tuple") (hn : (es.toList.map (·.hash)).Nodup) (h : Q es s) : wpAny (model prog w) A (Builtin.Dict.entriesForEmpty id d) Q E s := by
  unfold Builtin.Dict.entriesForEmpty
  refine wpAny_bind (wpAny_dictEntries ho hd (wpAny_bind ?_))
  rw [← Array.forIn_toList]
  refine wpAny_forIn_list _ (fun rest _ s' => s' = s ∧ ∀ e ∈ rest, e ∈ es) _ ?_ ?_ _ _ ⟨rfl, fun e he => Array.mem_toList_iff.mp he⟩
  · rintro e rest u s' ⟨rfl, hin⟩
    obtain ⟨b, eb, hT⟩ := hk e (hin e List.mem_cons_self)
    rw [eb]
    refine wpAny_bind (quiet_tup hT ?_)
    rw [if_pos (by decide)]
    have one : ¬ (es.filter (·.hash == e.hash)).size > 1 := by
      have := one_of_nodup (fun x : DictEntry => x.hash) e.hash es.toList hn
      rw [← Array.length_toList, Array.toList_filter]
      omega
    rw [if_neg one]
    exact wpAny_pure ⟨rfl, fun x hx => hin x (List.mem_cons_of_mem _ hx)⟩
  · rintro u s' ⟨rfl, _⟩
    exact wpAny_pure h
theorem merge_tup {nm : String} {d o : Addr} {od oo : Obj} {es : Array DictEntry} {ep ep' : Nat} {Q : Unit → Shared → Prop} (hdo : d ≠ o) (hoS : (o == sysModules) = false)
    (hd : s.heap.get? d = some od) (hde : od.ExactDict) (hdd : od.data = .dict #[] ep') (ho : s.heap.get? o = some oo) (hod : oo.data = .dict es ep)
    (hk : ∀ e ∈ es, ∃ b, e.key = .ref b ∧ s.TypeIs (.ref b) "tuple") (hn : (es.toList.map (·.hash)).Nodup) (hz : es.size ≤ sizeLine)
    (hQ : ∀ h', (∃ o' ep'', h'.get? d = some o' ∧ o'.ExactDict ∧ o'.data = .dict es ep'') → Heap.SameBut d s.heap h' → Q () { s with heap := h' }) :
    wpAny (model prog w) A (Builtin.Dict.mergeDict nm d o) Q E s := by
  unfold Builtin.Dict.mergeDict
  rw [if_neg (by simpa using hdo)]
  unfold Builtin.Dict.showsAll
  rw [if_neg (by rw [hoS]; exact Bool.false_ne_true)]
  refine wpAny_bind (wpAny_pure (wpAny_bind (wpAny_dictEntries ho hod ?_)))
  dsimp only
  by_cases he : es = #[]
  · subst he
    rw [if_neg (by simp)]
    refine wpAny_bind (wpAny_dictEpoch ho hod (wpAny_bind (wpAny_dictEntries ho hod (wpAny_bind ?_))))
    rw [Std.Legacy.Range.forIn_eq_forIn_range']
    exact wpAny_pure (wpAny_pure (hQ s.heap ⟨od, ep', hd, hde, hdd⟩ (Heap.SameBut.refl _ _)))
  · have few : (decide (es.size ≤ 8) && es.all fun e => (keyPart e.key).isSome) = false := by
      rw [Bool.and_eq_false_iff]
      refine .inr (Bool.eq_false_iff.mpr fun z => he ?_)
      rw [← Array.all_toList, List.all_eq_true] at z
      refine Array.eq_empty_of_size_eq_zero (Nat.eq_zero_of_not_pos fun pz => ?_)
      have hm : es[0] ∈ es := Array.getElem_mem pz
      obtain ⟨b, eb, _⟩ := hk _ hm
      have y := z _ (Array.mem_toList_iff.mpr hm)
      rw [eb] at y
      exact absurd y Bool.false_ne_true
    rw [few]
    rw [if_pos (by rfl)]
    refine wpAny_bind (wpAny_dictEntries hd hdd ?_)
    rw [if_pos (by rfl)]
    refine wpAny_bind (entries_tup ho hod hk hn ?_)
    rw [if_pos (by simpa using he)]
    exact wpAny_bind (wpAny_updateDictKeysTo hd hdd (wpAny_pure (hQ _ ⟨_, ep' + 1, Heap.get?_update_self _ hd (Obj.isFreed_of_dict (Obj.data_mapDictKeys hdd _)), hde.mapDictKeys _, Obj.data_mapDictKeys hdd _⟩ (Heap.SameBut.update ..))) (by omega))
theorem call_dict_tup {o : Addr} {oo : Obj} {es : Array DictEntry} {ep : Nat} {Q : Value → Shared → Prop} (hoS : (o == sysModules) = false) (ho : s.heap.get? o = some oo) (hoe : oo.ExactDict) (hod : oo.data = .dict es ep)
    (hk : ∀ e ∈ es, ∃ b, e.key = .ref b ∧ s.TypeIs (.ref b) "tuple") (hn : (es.toList.map (·.hash)).Nodup) (hz : es.size ≤ sizeLine)
    (h : ∀ h', (∃ o' ep'', h'.get? s.heap.objs.size = some o' ∧ o'.ExactDict ∧ o'.data = .dict es ep'') → (∀ b u, s.heap.get? b = some u → h'.get? b = some u) → Q (.ref s.heap.objs.size) { s with heap := h' }) :
    wpAny (model prog w) A (call (.type "dict") [.ref o]) Q E s := by
  refine callType_codes (Q₁ := fun v s₁ => v = .ref s.heap.objs.size ∧ s₁ = { s with heap := s.heap.push { cls := .type "dict", data := .dict #[] } }) F.kt_called_dict (F.kt_typeCall_dict_1 _) F.entry_dict_init (kt_code_dict_new _ ⟨rfl, rfl⟩) ?_
  rintro v s₁ ⟨rfl, rfl⟩
  have keep : ∀ b u, s.heap.get? b = some u → (s.heap.push { cls := .type "dict", data := .dict #[] }).get? b = some u := fun b u x => Heap.get?_push_of_some _ x
  have nT : Shared.TypeIs { s with heap := s.heap.push { cls := .type "dict", data := .dict #[] } } (.ref s.heap.objs.size) "dict" := ⟨_, Heap.get?_push_size _ rfl, rfl⟩
  have oT : Shared.TypeIs { s with heap := s.heap.push { cls := .type "dict", data := .dict #[] } } (.ref o) "dict" := ⟨oo, keep _ _ ho, hoe.1⟩
  have hlt : o < s.heap.objs.size := Heap.lt_size ho
  refine ⟨nT, F.args_dict_init_2 _ _, ?_⟩
  unfold Builtin.«dict.__init__»
  refine wpAny_bind ?_
  unfold Builtin.Dict.selfAndRest
  refine wpAny_bind (wpAny_notOrdered_dict nT ?_)
  show wpAny _ _ (pure (s.heap.objs.size, [Value.ref o])) _ _ _
  refine wpAny_pure ?_
  show wpAny _ _ (Builtin.Dict.updateFrom "dict.__init__" s.heap.objs.size (.ref o) [] .none) _ _ _
  unfold Builtin.Dict.updateFrom
  refine wpAny_bind (wpAny_typeOf oT ?_)
  rw [if_neg (by decide)]
  refine wpAny_bind ?_
  unfold Builtin.Dict.merge
  refine wpAny_bind ?_
  unfold Builtin.Dict.readDirectly
  refine wpAny_bind (wpAny_isInstance oT isSubtype_dict_dict ?_)
  simp only [Bool.not_true, Bool.false_eq_true, if_false]
  refine wpAny_bind (wpAny_specialOf oT F.slot_dict_iter.lookup (wpAny_pure ?_))
  simp only [beq_self_eq_true, if_true]
  refine wpAny_bind (wpAny_pure ?_)
  refine merge_tup (Nat.ne_of_gt hlt) hoS (Heap.get?_push_size _ rfl) ⟨rfl, rfl, rfl⟩ rfl (keep _ _ ho) hod (fun e he => ?_) hn hz fun h' new sb => ?_
  · obtain ⟨b, e1, o1, e2, e3⟩ := hk e he
    exact ⟨b, e1, o1, keep _ _ e2, e3⟩
  · exact wpAny_bind (wpAny_pure (wpAny_pure ⟨rfl, h h' new fun b u x => sb.extBut b u (Nat.ne_of_lt (Heap.lt_size x)) (keep _ _ x)⟩))
end
def HashNd (P : Program) (w : World) (kvs : List (List Key × V)) : Prop := (kvs.map fun p => tupleKeyHash (mixKind P w) p.1).Nodup
theorem KT.keys {H : Hp} {kvs : List (List Key × V)} {xs : List (List Key × Addr × Value)} (r : KT H kvs xs) : kvs.map (·.1) = xs.map (·.1) := by
  induction r with
  | nil => rfl
  | cons h _ ih => rw [List.map_cons, List.map_cons, ih, h.1]
section
variable {X : Cx} {pins : List (Addr × Obj)} {σ : St} {H : Hp} {s : Shared} {a : Addr} {A : Around} {E : Value → Shared → Prop}
theorem d_copyT {kvs : List (List Key × V)} {Q : Value → Shared → Prop} (I : Inv X pins σ H s) (e : Rd H a (.dT kvs)) (hh : HashNd X.prog X.w kvs) (h : ∀ p s', H p = none → Inv X pins σ (upd H p (.dT kvs)) s' → Q (.ref p) s') : wpAny (model X.prog X.w) A (call (.type "dict") [.ref a]) Q E s := by
  obtain ⟨z, hd, xs, rel, o, es, ep, ho, hc, hdat, he, his, hn⟩ := dt_rd I.hok e
  have hl : es.size = xs.length := size_of_entries he
  have hl' : kvs.length = xs.length := Paired.length rel
  refine call_dict_tup hd ho hc hdat (fun x hx => ?_) ?_ (by omega) fun h' new keep => ?_
  · have hm : x ∈ xs.map (entryOfKey (tupleKind (mixKind X.prog X.w))) := he ▸ Array.mem_toList_iff.mpr hx
    obtain ⟨y, hy, rfl⟩ := List.mem_map.mp hm
    obtain ⟨ob, _, _, h1, h2, _⟩ := his y hy
    exact ⟨y.2.1, rfl, ob, h1, h2⟩
  · rw [he, List.map_map]
    have : xs.map ((fun x : DictEntry => x.hash) ∘ entryOfKey (tupleKind (mixKind X.prog X.w))) = kvs.map fun p => tupleKeyHash (mixKind X.prog X.w) p.1 := by
      have e1 : xs.map ((fun x : DictEntry => x.hash) ∘ entryOfKey (tupleKind (mixKind X.prog X.w))) = (xs.map (·.1)).map (tupleKeyHash (mixKind X.prog X.w)) := by rw [List.map_map]; rfl
      rw [e1, ← rel.keys, List.map_map]; rfl
    rw [this]; exact hh
  · obtain ⟨o', ep', h1, h2, h3⟩ := new
    have fr : H s.heap.objs.size = none := I.hok.fresh (Nat.le_refl _)
    refine h _ _ fr (I.laid (a := s.heap.objs.size) (o := .dT kvs) (t' := s.toks) keep (Nat.le_refl _) ⟨z, beq_eq_false_iff_ne.mpr (Ne.symm (Nat.ne_of_lt I.big)), xs, rel.keeps fun b ys q => ?_, o', es, ep', h1, h2, h3, he, hn⟩)
    rw [upd_ne (ne_of_none q fr)]; exact q
end
def rDict (P : Program) (w : World) : List V → Hp → VK → Prop := fun xs H Q => ∃ a, xs = [.ref a] ∧
  ((∃ kvs, Rd H a (.dK kvs) ∧ ∀ p, H p = none → Q (.ref p) (upd H p (.dK kvs))) ∨ ∃ kvs, Rd H a (.dT kvs) ∧ HashNd P w kvs ∧ ∀ p, H p = none → Q (.ref p) (upd H p (.dT kvs)))
theorem call_dict {X : Cx} : CallR X (.type "dict") (rDict X.prog X.w) := by
  intro pins s σ H xs us Q I r h
  obtain ⟨a, rfl, h⟩ := h
  obtain ⟨u, rfl, ru⟩ := vals1 r
  cases ru
  rcases h with ⟨kvs, e, q⟩ | ⟨kvs, e, hh, q⟩
  · exact d_copyOf I e fun p s' hp I' => ⟨.ref p, _, I', rfl, q p hp⟩
  · exact d_copyT I e hh fun p s' hp I' => ⟨.ref p, _, I', rfl, q p hp⟩
def eqOk : V → Bool
  | .flt _ => false
  | .byt _ => false
  | _ => true
theorem eq_relV {A : Around} {s : Shared} {v : V} {u u' : Value} (hf : eqOk v = true) (r : RelV v u) (r' : RelV v u') : SeqAt.EqAt A s u u' true := by
  cases v with
  | non => cases (show u = Value.none from r); cases (show u' = Value.none from r'); exact SeqAt.EqAt.same _
  | bl b => cases (show u = Value.bool b from r); cases (show u' = Value.bool b from r'); exact SeqAt.EqAt.same _
  | int i => obtain ⟨t, rfl⟩ := r; obtain ⟨t', rfl⟩ := r'; have h := SeqAt.EqAt.int_int (A := A) (s := s) i t i t'; rwa [beq_self_eq_true] at h
  | str x => obtain ⟨t, rfl⟩ := r; obtain ⟨t', rfl⟩ := r'; have h := SeqAt.EqAt.str_str (A := A) (s := s) x t x t'; simpa using h
  | byt b => exact absurd hf (by simp [eqOk])
  | flt b => exact absurd hf (by simp [eqOk])
  | ref a => cases (show u = Value.ref a from r); cases (show u' = Value.ref a from r'); exact SeqAt.EqAt.same _
  | ty n => cases (show u = Value.type n from r); cases (show u' = Value.type n from r'); exact SeqAt.EqAt.same _
def SmV (K : PySem.W.Frag) (H : Hp) (v v' : V) : Prop := (v = v' ∧ eqOk v = true) ∨ ∃ d e, Dp K H v d ∧ Dp K H v' e ∧ d.depth ≤ 60 ∧ PyData.eqv d e = true
theorem SmV.at {X : Cx} {pins : List (Addr × Obj)} {σ : St} {H : Hp} {s : Shared} {A : Around} {v v' : V} {u u' : Value} (I : Inv X pins σ H s) (h : SmV X.K H v v') (r : RelV v u) (r' : RelV v' u') (hu : A.units + 60 < cLine) : SeqAt.EqAt A s u u' true := by
  rcases h with ⟨rfl, h⟩ | ⟨d, e, h1, h2, hd, he⟩
  · exact eq_relV h r r'
  · obtain ⟨as, r1⟩ := h1.reads I r
    obtain ⟨bs, r2⟩ := h2.reads I r'
    have := SeqAt.eqAt_reads d e A s u u' as bs r1 r2 h1.lay h2.lay (by omega)
    rwa [he] at this
section
variable {prog : Program} {w : World} {K : Type} [DecidableEq K] {knd : HeapKind prog w K} {A : Around} {E : Value → Shared → Prop} {s : Shared}
theorem same_tup {nm : String} {a b : Addr} {xa xb : List (K × Addr × Value)} {Q : Bool → Shared → Prop} (hu : knd.room A) (ha : (a == sysModules) = false) (hb : (b == sysModules) = false)
    (da : s.heap.DictOfH knd a xa) (db : s.heap.DictOfH knd b xb) (hl : xa.length = xb.length) (hits : ∀ x ∈ xa, ∃ p, (x.1, p) ∈ xb ∧ SeqAt.EqAt A s x.2.2 p.2 true) (h : Q true s) :
    wpAny (model prog w) A (Builtin.Dict.samePairs nm a b) Q E s := by
  obtain ⟨oa, es, ep, hoa, _, hda, hea, hia, hna⟩ := da
  obtain ⟨ob, es', ep', hob, _, hdb, heb, hib, hnb⟩ := db
  have hla : es.size = xa.length := size_of_entries hea
  have hlb : es'.size = xb.length := size_of_entries heb
  unfold Builtin.Dict.samePairs Builtin.Dict.showsAll
  rw [if_neg (show ¬ (a == sysModules) = true by rw [ha]; exact Bool.false_ne_true), if_neg (show ¬ (b == sysModules) = true by rw [hb]; exact Bool.false_ne_true)]
  refine wpAny_bind (wpAny_pure (wpAny_bind (wpAny_pure (wpAny_bind (wpAny_dictEntries hoa hda ?_)))))
  dsimp only
  refine wpAny_bind (wpAny_dictEntries hob hdb ?_)
  rw [if_neg (by rw [hla, hlb, hl]; simp)]
  refine wpAny_bind (wpAny_dictEpoch hoa hda (wpAny_bind ?_))
  rw [Std.Legacy.Range.forIn_eq_forIn_range']
  simp only [Std.Legacy.Range.size, Nat.sub_zero, Nat.add_sub_cancel, Nat.div_one]
  refine wpAny_forIn_list _ (fun rest q s' => s' = s ∧ q = (none, ()) ∧ ∀ i ∈ rest, i < es.size) _ ?_ ?_ _ _ ⟨rfl, rfl, fun i hi => by simpa using hi⟩
  · rintro x rest q s' ⟨rfl, rfl, hr⟩
    have hx : x < es.size := hr x List.mem_cons_self
    have hx' : x < xa.length := by omega
    refine wpAny_bind (wpAny_dictEntries hoa hda ?_)
    rw [entry_at hea x, List.getElem?_eq_getElem hx']
    obtain ⟨p, hp, he⟩ := hits _ (List.getElem_mem hx')
    have hk : knd.is s'.heap xa[x].1 xa[x].2.1 := hia _ (List.getElem_mem hx')
    show wpAny _ _ (holding _ _ >>= _) _ _ _
    refine wpAny_bind (wpAny_holding (wpAny_bind ?_))
    refine wpAny_dictFind_heap (a := xa[x].2.1) hu hk hob hdb heb hib hnb (fun no => ?_) fun j p' hj => ?_
    · obtain ⟨j, hj⟩ := List.getElem?_of_mem hp
      exact absurd hj (no j p)
    · obtain ⟨j', hj'⟩ := List.getElem?_of_mem hp
      have ej : j = j' := idxH_unique hnb hj hj'
      rw [ej, hj'] at hj
      obtain rfl : p = p' := by cases hj; rfl
      rw [ej]
      refine wpAny_bind (wpAny_dictEntries hob hdb ?_)
      rw [entry_at heb j', hj']
      refine wpAny_holding (he prog w _ _ ?_)
      show wpAny _ _ (if (!true) = true then _ else _) _ _ _
      rw [if_neg (by decide)]
      refine wpAny_bind (wpAny_dictEpoch hoa hda ?_)
      rw [if_neg (by simp)]
      exact wpAny_pure ⟨rfl, rfl, fun i hi => hr i (List.mem_cons_of_mem _ hi)⟩
  · rintro q s' ⟨rfl, rfl, _⟩
    exact wpAny_pure h
theorem eq_tup {a b : Addr} {xa xb : List (K × Addr × Value)} {Q : Value → Shared → Prop} (hu : knd.room A.in1) (hu' : A.units < cLine) (ha : (a == sysModules) = false) (hb : (b == sysModules) = false)
    (da : s.heap.DictOfH knd a xa) (db : s.heap.DictOfH knd b xb) (hl : xa.length = xb.length) (hits : ∀ x ∈ xa, ∃ p, (x.1, p) ∈ xb ∧ SeqAt.EqAt A.in1 s x.2.2 p.2 true) (h : Q (.bool true) s) :
    wpAny (model prog w) A (compareOp .Eq (.ref a) (.ref b)) Q E s := by
  refine wpAny_richCompare_same_room (op := .Eq) da.typeIs db.typeIs PySem.F.slot_dict_eq (wpAny_call_entry PySem.F.slot_dict_eq da.typeIs PySem.F.entry_dict_eq ?_ (PySem.F.args_dict_eq_2 _ _)) hu'
  show wpAny _ _ (Builtin.Dict.dictSlotArgs "__eq__" ⟨[.ref a, .ref b], []⟩ >>= _) _ _ s
  refine wpAny_bind ?_
  unfold Builtin.Dict.dictSlotArgs
  refine wpAny_bind (wpAny_notOrdered_dict da.typeIs ?_)
  show wpAny _ _ (pure (Value.ref a, Value.ref b)) _ _ s
  refine wpAny_pure (wpAny_bind (wpAny_isInstance (T := "dict") db.typeIs PySem.F.sub_dict_dict ?_))
  simp only [Bool.not_true, Bool.false_eq_true, if_false]
  refine wpAny_bind (wpAny_pure (wpAny_bind (wpAny_pure (wpAny_bind (same_tup hu ha hb da db hl hits ?_)))))
  exact wpAny_pure ⟨_, rfl, (fun x => nomatch x), h⟩
theorem ne_tup {a b : Addr} {xa xb : List (K × Addr × Value)} {Q : Value → Shared → Prop} (hu : knd.room A.in1) (hu' : A.units < cLine) (ha : (a == sysModules) = false) (hb : (b == sysModules) = false)
    (da : s.heap.DictOfH knd a xa) (db : s.heap.DictOfH knd b xb) (hl : xa.length = xb.length) (hits : ∀ x ∈ xa, ∃ p, (x.1, p) ∈ xb ∧ SeqAt.EqAt A.in1 s x.2.2 p.2 true) (h : Q (.bool false) s) :
    wpAny (model prog w) A (compareOp .NotEq (.ref a) (.ref b)) Q E s := by
  refine wpAny_richCompare_same_room (op := .NotEq) da.typeIs db.typeIs PySem.F.slot_dict_ne (wpAny_call_entry PySem.F.slot_dict_ne da.typeIs PySem.F.entry_dict_ne ?_ (PySem.F.args_dict_ne_2 _ _)) hu'
  show wpAny _ _ (Builtin.Dict.dictSlotArgs "__ne__" ⟨[.ref a, .ref b], []⟩ >>= _) _ _ s
  refine wpAny_bind ?_
  unfold Builtin.Dict.dictSlotArgs
  refine wpAny_bind (wpAny_notOrdered_dict da.typeIs ?_)
  show wpAny _ _ (pure (Value.ref a, Value.ref b)) _ _ s
  refine wpAny_pure (wpAny_bind (wpAny_isInstance (T := "dict") db.typeIs PySem.F.sub_dict_dict ?_))
  simp only [Bool.not_true, Bool.false_eq_true, if_false]
  refine wpAny_bind (wpAny_pure (wpAny_bind (wpAny_pure (wpAny_bind (same_tup hu ha hb da db hl hits ?_)))))
  exact wpAny_pure ⟨_, rfl, (fun x => nomatch x), h⟩
end
theorem mem_valV {κ : Type} [DecidableEq κ] {kvs : List (κ × V)} {k : κ} {v : V} (h : valV kvs k = some v) : (k, v) ∈ kvs := by
  unfold valV at h
  obtain ⟨p, hp, rfl⟩ := Option.map_eq_some_iff.mp h
  have := List.find?_some hp
  have e : p.1 = k := of_decide_eq_true this
  rw [← e]
  exact List.mem_of_find?_eq_some hp
def SmD (K : PySem.W.Frag) (H : Hp) (a b : Addr) : Prop :=
  (∃ ka kb, Rd H a (.dK ka) ∧ Rd H b (.dK kb) ∧ ka.length = kb.length ∧ ∀ p ∈ ka, ∃ v, valV kb p.1 = some v ∧ SmV K H p.2 v) ∨
  ∃ ka kb, Rd H a (.dT ka) ∧ Rd H b (.dT kb) ∧ ka.length = kb.length ∧ ∀ p ∈ ka, ∃ v, valV kb p.1 = some v ∧ SmV K H p.2 v
theorem pair_mem {α β : Type} {R : α → β → Prop} : ∀ {xs : List α} {ys : List β}, Paired R xs ys → ∀ y ∈ ys, ∃ x ∈ xs, R x y
  | _, _, .nil, _, h => by simp at h
  | _, _, .cons r t, y, h => by
    rcases List.mem_cons.mp h with rfl | h
    · exact ⟨_, List.mem_cons_self, r⟩
    · obtain ⟨x, hx, q⟩ := pair_mem t y h
      exact ⟨x, List.mem_cons_of_mem _ hx, q⟩
theorem pair_mem' {α β : Type} {R : α → β → Prop} : ∀ {xs : List α} {ys : List β}, Paired R xs ys → ∀ x ∈ xs, ∃ y ∈ ys, R x y
  | _, _, .nil, _, h => by simp at h
  | _, _, .cons r t, y, h => by
    rcases List.mem_cons.mp h with rfl | h
    · exact ⟨_, List.mem_cons_self, r⟩
    · obtain ⟨x, hx, q⟩ := pair_mem' t y h
      exact ⟨x, List.mem_cons_of_mem _ hx, q⟩
theorem hits_all {K : Type} [DecidableEq K] {A : Around} {s : Shared} {kb : List (K × Value)} : ∀ (ka : List (K × Value)), (∀ x ∈ ka, ∃ y, valueAt kb x.1 = some y ∧ SeqAt.EqAt A s x.2 y true) → PySem.W.KeqHits A s kb ka true
  | [], _ => .nil
  | (k, v) :: r, h => by
    obtain ⟨y, h1, h2⟩ := h (k, v) List.mem_cons_self
    exact PySem.W.KeqHits.hit (e := true) (b := true) h1 h2 (hits_all r fun x hx => h x (List.mem_cons_of_mem _ hx))
section
variable {X : Cx}
theorem hits_k {pins : List (Addr × Obj)} {σ : St} {H : Hp} {s : Shared} {A : Around} {ka kb : List (Key × V)} {va vb : List (Key × Value)} (I : Inv X pins σ H s) (ra : KV ka va) (rb : KV kb vb) (hu : A.units + 60 < cLine)
    (h : ∀ p ∈ ka, ∃ v, valV kb p.1 = some v ∧ SmV X.K H p.2 v) : PySem.W.KeqHits A s vb va true := by
  refine hits_all va fun x hx => ?_
  obtain ⟨p, hp, e1, r1⟩ := pair_mem ra x hx
  obtain ⟨v, hv, sm⟩ := h p hp
  have r := rb.val p.1
  rw [hv] at r
  cases e : valueAt vb p.1 with
  | none => rw [e] at r; exact r.elim
  | some y =>
    rw [e] at r
    exact ⟨y, by rw [← e1]; exact e, sm.at I r1 r hu⟩
theorem hits_t {pins : List (Addr × Obj)} {σ : St} {H : Hp} {s : Shared} {A : Around} {ka kb : List (List Key × V)} {va vb : List (List Key × Addr × Value)} (I : Inv X pins σ H s) (ra : KT H ka va) (rb : KT H kb vb) (hu : A.units + 60 < cLine)
    (h : ∀ p ∈ ka, ∃ v, valV kb p.1 = some v ∧ SmV X.K H p.2 v) : ∀ x ∈ va, ∃ p, (x.1, p) ∈ vb ∧ SeqAt.EqAt A s x.2.2 p.2 true := by
  intro x hx
  obtain ⟨p, hp, e1, _, r1⟩ := pair_mem ra x hx
  obtain ⟨v, hv, sm⟩ := h p hp
  obtain ⟨y, hy, e2, _, r2⟩ := pair_mem' rb _ (mem_valV hv)
  refine ⟨y.2, ?_, sm.at I r1 r2 hu⟩
  rw [← e1, show p.1 = y.1 from e2]
  exact hy
def rEqDic (K : PySem.W.Frag) : R2 := fun x y H Q => ∃ a b, x = .ref a ∧ y = .ref b ∧ SmD K H a b ∧ Q (.bl true) H
def rNeDic (K : PySem.W.Frag) : R2 := fun x y H Q => ∃ a b, x = .ref a ∧ y = .ref b ∧ SmD K H a b ∧ Q (.bl false) H
theorem op_eqDic {k : Nat} (hr : Room k X.A) : OpR X (compareOp .Eq) (rEqDic X.K) := by
  intro pins s σ H x y v u Q I rx ry h
  obtain ⟨a, b, rfl, rfl, h, q⟩ := h
  cases (show v = Value.ref a from rx)
  cases (show u = Value.ref b from ry)
  have hu := hr.units
  have hu' : X.A.in1.units + 60 < cLine := by show X.A.units + 1 + 60 < cLine; omega
  rcases h with ⟨ka, kb, ha, hb, hl, hs⟩ | ⟨ka, kb, ha, hb, hl, hs⟩
  · obtain ⟨_, ma, va, ra, da⟩ := dk_rd I.hok ha
    obtain ⟨_, mb, vb, rb, db⟩ := dk_rd I.hok hb
    refine PySem.W.keq_eq (r := true) ma mb da db (by omega) (fun _ => hits_k I ra rb hu' hs) ?_
    rw [← ra.length, ← rb.length, hl, beq_self_eq_true]
    exact ⟨.bl true, H, I, rfl, q⟩
  · obtain ⟨_, ma, va, ra, da⟩ := dt_rd I.hok ha
    obtain ⟨_, mb, vb, rb, db⟩ := dt_rd I.hok hb
    exact eq_tup (tupleKind_room_in1 (by omega)) (by omega) ma mb da db (by rw [← Paired.length ra, ← Paired.length rb, hl]) (hits_t I ra rb hu' hs) ⟨.bl true, H, I, rfl, q⟩
theorem op_neDic {k : Nat} (hr : Room k X.A) : OpR X (compareOp .NotEq) (rNeDic X.K) := by
  intro pins s σ H x y v u Q I rx ry h
  obtain ⟨a, b, rfl, rfl, h, q⟩ := h
  cases (show v = Value.ref a from rx)
  cases (show u = Value.ref b from ry)
  have hu := hr.units
  have hu' : X.A.in1.units + 60 < cLine := by show X.A.units + 1 + 60 < cLine; omega
  rcases h with ⟨ka, kb, ha, hb, hl, hs⟩ | ⟨ka, kb, ha, hb, hl, hs⟩
  · obtain ⟨_, ma, va, ra, da⟩ := dk_rd I.hok ha
    obtain ⟨_, mb, vb, rb, db⟩ := dk_rd I.hok hb
    refine PySem.W.keq_ne (r := true) ma mb da db (by omega) (fun _ => hits_k I ra rb hu' hs) ?_
    rw [← ra.length, ← rb.length, hl, beq_self_eq_true]
    exact ⟨.bl false, H, I, rfl, q⟩
  · obtain ⟨_, ma, va, ra, da⟩ := dt_rd I.hok ha
    obtain ⟨_, mb, vb, rb, db⟩ := dt_rd I.hok hb
    exact ne_tup (tupleKind_room_in1 (by omega)) (by omega) ma mb da db (by rw [← Paired.length ra, ← Paired.length rb, hl]) (hits_t I ra rb hu' hs) ⟨.bl false, H, I, rfl, q⟩
end
section
variable {prog : Program} {w : World} {A : Around} {E : Value → Shared → Prop} {s : Shared} {I : Addr} {fp wr : List Addr} {G : Array GenState → Array GenState → Prop} {n : Nat} {P : Nat → Value → Prop} {St : Nat → Shared → Prop}
end
theorem Room.one {k : Nat} {A : Around} (r : Room k A) : A.units + 1 < cLine := by have := r.un; omega
theorem ev_dget {td ty : TE} {σ : St} {H : Hp} {a : Addr} {y v : V} (ha : Ev td σ H (.ref a)) (hb : Ev ty σ H y) (g : DGet H a y (some v)) : Ev (tDGet td ty) σ H v := fun _ q => ha _ (hb _ ⟨a, v, rfl, g, q⟩)
end L2
namespace L2
open PySem PySem.Spec PyProof.Rows
section
variable {X : Cx} {pins : List (Addr × Obj)} {σ : St} {H : Hp} {s : Shared} {d : Addr} {u : HO} {o : Obj}
theorem ObjOk.upd {P : Program} {w : World} {h : Heap} {b : Addr} {x v : HO} (ok : ObjOk P w H h b x) (nt : ∀ xs, H d ≠ some (.tup xs)) (no : ∀ y, H d ≠ some (.own y)) : ObjOk P w (L2.upd H d v) h b x :=
  ok.stay (fun _ _ _ q => q) (fun c q => by rw [upd_ne (fun z => by rw [z] at q; exact no _ q)]; exact q) fun c xs q => by rw [upd_ne (fun z => by rw [z] at q; exact nt _ q)]; exact q
theorem Inv.freeze (I : Inv X pins σ H s) (e : H d = some u) (mu : Mut (some u)) : ∃ o, Inv X pins σ (upd H d (.frz o u)) s ∧ s.heap.get? d = some o := by
  have ok := I.hok d u e
  obtain ⟨o, ho⟩ : ∃ o, s.heap.get? d = some o := by
    cases u with
    | lst xs => obtain ⟨_, _, _, _, z⟩ := ok; exact ⟨_, z⟩
    | dK kvs => obtain ⟨_, _, _, _, o, _, _, z, _⟩ := ok; exact ⟨o, z⟩
    | dT kvs => obtain ⟨_, _, _, _, o, _, _, z, _⟩ := ok; exact ⟨o, z⟩
    | set S n => obtain ⟨o, _, _, _, z, _⟩ := ok; exact ⟨o, z⟩
    | ins C dx fs => obtain ⟨_, _, _, z, _⟩ := ok; exact ⟨_, z⟩
    | ext φ => obtain ⟨_, z, _⟩ := ok; exact z
    | _ => exact mu.elim
  have mu' : Mut (H d) := by rw [e]; exact mu
  refine ⟨o, I.write (t' := s.toks) (h' := s.heap) (x := d) (e := d) (o := .frz o u) mu' (.inl rfl) (fun b v _ q => q) ⟨o, ho⟩ ⟨ho, ?_⟩, ho⟩
  exact ok.upd (fun xs z => by rw [z] at mu'; exact mu') (fun y z => by rw [z] at mu'; exact mu')
theorem Inv.thaw (I : Inv X pins σ H s) (e : H d = some (.frz o u)) (nb : ∀ o' u', X.H₀ d ≠ some (.frz o' u')) : Inv X pins σ (upd H d u) s := by
  have ne : ∀ b, H b = none → b ≠ d := fun b n z => by rw [z, e] at n; cases n
  have nt : ∀ xs, H d ≠ some (.tup xs) := fun xs z => by rw [e] at z; cases z
  have no : ∀ y, H d ≠ some (.own y) := fun y z => by rw [e] at z; cases z
  have B := I.base
  refine ⟨I.ok, I.os, I.bare, ⟨B.keep, B.slot, fun b v q n hx => ?_, B.there, fun b xs q => ?_, fun b v w q => ?_, fun b ps q => ?_⟩, I.loc, I.cell, ?_, fun x c q => ?_, fun p hp => ?_, fun b v q => ?_, I.len⟩
  · have := B.free b v q n hx
    rw [upd_ne (ne b this)]; exact this
  · have := B.tups b xs q
    rw [upd_ne (fun z => by rw [z] at this; exact nt _ this)]; exact this
  · have := B.frzs b v w q
    rw [upd_ne (fun z => by rw [z] at q; exact nb _ _ q)]; exact this
  · obtain ⟨more, this⟩ := B.tbls b ps q
    exact ⟨more, by rw [upd_ne (fun z => by rw [z, e] at this; cases this)]; exact this⟩
  · rw [upd_ne (ne _ I.free)]; exact I.free
  · rw [upd_ne (ne _ (I.freeC x c q))]; exact I.freeC x c q
  · obtain ⟨h1, h2, h3⟩ := I.pin p hp
    exact ⟨h1, by rw [upd_ne (ne _ h2)]; exact h2, h3⟩
  · by_cases hb : b = d
    · subst hb
      rw [upd_same] at q; cases q
      obtain ⟨_, z⟩ := I.hok b _ e
      exact z.upd nt no
    · rw [upd_ne hb] at q
      exact (I.hok b v q).upd nt no
end
def frzD (D : Ends) (d : Addr) (o : Obj) (u : HO) : Ends :=
  ⟨fun σ1 H1 => H1 d = some (.frz o u) ∧ D.nx σ1 (upd H1 d u), fun v H1 => H1 d = some (.frz o u) ∧ D.rt v (upd H1 d u), fun σ1 H1 => H1 d = some (.frz o u) ∧ D.bk σ1 (upd H1 d u), fun σ1 H1 => H1 d = some (.frz o u) ∧ D.ct σ1 (upd H1 d u)⟩
def tFrz (t : TS) : TS := fun D σ H => ∃ d u, H d = some u ∧ Mut (some u) ∧ ∀ o, t (frzD D d o u) σ (upd H d (.frz o u))
theorem ps_frz {X : Cx} {a : Stmt} {t : TS} (h : PS X a t) : PS X a (tFrz t) := by
  intro pins s σ H D I ht
  obtain ⟨d, u, e, mu, q⟩ := ht
  have nb : ∀ o' u', X.H₀ d ≠ some (.frz o' u') := fun o' u' z => by
    have := I.base.frzs d o' u' z
    rw [e] at this; cases this; exact mu
  obtain ⟨o, I1, _⟩ := I.freeze e mu
  refine thn (h pins s σ _ _ I1 (q o)) fun f s' hf => ?_
  cases f with
  | next => obtain ⟨σ', H', I', e', k⟩ := hf; exact ⟨σ', _, I'.thaw e' nb, k⟩
  | brk => obtain ⟨σ', H', I', e', k⟩ := hf; exact ⟨σ', _, I'.thaw e' nb, k⟩
  | cont => obtain ⟨σ', H', I', e', k⟩ := hf; exact ⟨σ', _, I'.thaw e' nb, k⟩
  | ret v => obtain ⟨x, σ', H', I', r, e', k⟩ := hf; exact ⟨x, σ', _, I'.thaw e' nb, r, k⟩
def tFrzE (te : TE) : TE := fun σ H Q => ∃ d u, H d = some u ∧ Mut (some u) ∧ ∀ o, te σ (upd H d (.frz o u)) fun v H' => H' d = some (.frz o u) ∧ Q v (upd H' d u)
theorem pe_frz {X : Cx} {a : Expr} {te : TE} (h : PE X a te) : PE X a (tFrzE te) := by
  intro pins s σ H Q I ht
  obtain ⟨d, u, e, mu, q⟩ := ht
  have nb : ∀ o' u', X.H₀ d ≠ some (.frz o' u') := fun o' u' z => by
    have := I.base.frzs d o' u' z
    rw [e] at this; cases this; exact mu
  obtain ⟨o, I1, _⟩ := I.freeze e mu
  exact thn (h pins s σ _ _ I1 (q o)) fun v s' ⟨x, H', I', r, e', k⟩ => ⟨x, _, I'.thaw e' nb, r, k⟩
def szU : HO → Nat
  | .dK kvs => kvs.length
  | .dT kvs => kvs.length
  | _ => 0
def DictU : HO → Prop
  | .dK _ => True
  | .dT _ => True
  | _ => False
def KeyAt (H : Hp) : HO → Nat → V → V → Prop
  | .dK kvs, i, x, v => ∃ k, kvs[i]? = some (k, v) ∧ x = kV k
  | .dT kvs, i, x, v => ∃ k b, kvs[i]? = some (k, v) ∧ x = .ref b ∧ H b = some (.tup (k.map kV))
  | _, _, _, _ => False
theorem paired_get {α β : Type} {R : α → β → Prop} : ∀ {xs : List α} {ys : List β} (_ : Paired R xs ys) (i : Nat) (hi : i < ys.length), ∃ x, xs[i]? = some x ∧ R x ys[i]
  | _, _, .nil, i, hi => absurd hi (Nat.not_lt_zero _)
  | _, _, .cons r _, 0, _ => ⟨_, rfl, r⟩
  | _, _, .cons _ t, i + 1, hi => by
    obtain ⟨x, h1, h2⟩ := paired_get t i (by simpa using hi)
    exact ⟨x, by simpa using h1, by simpa using h2⟩
theorem raw_of {P : Program} {w : World} {H : Hp} {h : Heap} {d : Addr} {o : Obj} {u : HO} (ok : HOk P w H h) (e : H d = some (.frz o u)) (hu : DictU u) : (d == sysModules) = false ∧ h.get? d = some o ∧ o.ExactDict ∧
    ∃ es ep, o.data = .dict es ep ∧ es.size = szU u ∧ ∀ i (hi : i < es.size), ∃ x v, KeyAt H u i x v ∧ RelV x es[i].key ∧ RelV v es[i].val := by
  obtain ⟨ho, k⟩ := ok d _ e
  cases u with
  | dK kvs =>
    obtain ⟨z, hs, vs, rel, o', es, ep, h1, h2, h3, h4, h5, h6⟩ := k
    rw [ho] at h1; cases h1
    have hl : es.size = vs.length := by rw [← h5.length]; simp
    refine ⟨hs, ho, h2, es, ep, h3, by rw [hl, ← rel.length]; rfl, fun i hi => ?_⟩
    obtain ⟨p, hp, e1, r1⟩ := paired_get rel i (by omega)
    obtain ⟨q1, q2⟩ := h5.get? (i := i) (e := es[i]) (k := vs[i].1) (v := vs[i].2) (by simp [hi]) (by rw [List.getElem?_eq_getElem])
    refine ⟨kV p.1, p.2, ⟨p.1, hp, rfl⟩, ?_, by rw [q2]; exact r1⟩
    rw [← e1] at q1
    rcases keyIs_shape q1 with ⟨j, t, ek, ev⟩ | ⟨j, t, ek, ev⟩ <;> rw [ek, ev] <;> exact ⟨t, rfl⟩
  | dT kvs =>
    obtain ⟨z, hs, xs, rel, o', es, ep, h1, h2, h3, h4, h5⟩ := k
    rw [ho] at h1; cases h1
    have hl : es.size = xs.length := size_of_entries h4
    refine ⟨hs, ho, h2, es, ep, h3, by rw [hl, ← Paired.length rel]; rfl, fun i hi => ?_⟩
    obtain ⟨p, hp, e1, e2, r1⟩ := paired_get rel i (by omega)
    have ee : es[i] = entryOfKey (tupleKind (mixKind P w)) xs[i] := by
      have := entry_at h4 i
      rw [List.getElem?_eq_getElem (by omega), Array.getElem?_eq_getElem hi] at this
      exact Option.some.inj this
    refine ⟨.ref xs[i].2.1, p.2, ⟨p.1, _, hp, rfl, e2⟩, ?_, ?_⟩
    · rw [ee]; rfl
    · rw [ee]; exact r1
  | _ => exact hu.elim
section
variable {prog : Program} {w : World} {A : Around} {E : Value → Shared → Prop} {s : Shared} {d it : Addr} {o : Obj} {es : Array DictEntry} {i ep : Nat}
theorem rk_iter {Q : Value → Shared → Prop} (hd : (d == sysModules) = false) (ho : s.heap.get? d = some o) (hc : o.ExactDict) (hdat : o.data = .dict es ep)
    (hQ : Q (.ref s.heap.objs.size) { s with heap := s.heap.push { cls := .type "dict_keyiterator", data := .fields #[.ref d, .int 0 0, .int es.size 0, .int ep 0] } }) : wpAny (model prog w) A (pyIter (.ref d)) Q E s := by
  have hT : s.TypeIs (.ref d) "dict" := ⟨o, ho, hc.1⟩
  refine wpAny_pyIter_slot hT F.slot_dict_iter (wpAny_call_entry F.slot_dict_iter hT F.entry_dict_iter ?_ (F.args_dict_iter_1 _))
  unfold Builtin.«dict.__iter__» Builtin.Dict.dictSlotNone
  refine wpAny_bind (wpAny_bind (wpAny_notOrdered_dict hT ?_))
  show wpAny _ _ (pure (Value.ref d)) _ _ s
  refine wpAny_pure ?_
  show wpAny _ _ (Builtin.Dict.showsAll d >>= _) _ _ s
  unfold Builtin.Dict.showsAll
  rw [if_neg (by rw [hd]; exact Bool.false_ne_true)]
  refine wpAny_bind (wpAny_pure (wpAny_bind (wpAny_dictEntries ho hdat (wpAny_bind (wpAny_dictEpoch ho hdat ?_)))))
  refine wpAny_bind (wpAny_newObj_type (wpAny_pure ⟨_, rfl, "dict_keyiterator", _, ⟨_, Heap.get?_push_size _ rfl, rfl⟩, F.slot_dict_keyiterator_next.lookup, ?_⟩))
  simpa [rawInt] using hQ
theorem rk_next {Q : Option Value → Shared → Prop} (hit : s.heap.IsKeyIter it d i es.size ep) (hod : s.heap.get? d = some o) (hdd : o.data = .dict es ep) (hi : i < es.size)
    (hQ : ∀ h', h'.IsKeyIter it d (i + 1) es.size ep → Heap.SameBut it s.heap h' → Q (some es[i].key) { s with heap := h' }) : wpAny (model prog w) A (pyNext (.ref it)) Q E s := by
  obtain ⟨oi, ho, hc, hd⟩ := id hit
  unfold pyNext
  refine wpAny_bind (wpAny_attempt (wpAny_callSpecial?_slot (name := Str.ofString "__next__") hit.typeIs F.slot_dict_keyiterator_next
    (wpAny_call_entry F.slot_dict_keyiterator_next hit.typeIs F.entry_dict_keyiterator_next ?_ (F.args_dict_keyiterator_next_1 _))))
  refine wpAny_bind (wpAny_pure (wpAny_bind (wpAny_bind ?_)))
  first | refine wpAny_bind (wpAny_typeNameOfWhole_keyiter hit.typeIs (wpAny_pure ?_)) | refine wpAny_bind (wpAny_typeNameOf_keyiter hit.typeIs (wpAny_pure ?_))
  refine wpAny_bind (wpAny_fieldsOf ho hd ?_)
  simp only [show Builtin.Dict_items.ownsTuple "dict_keyiterator" = false by decide, Bool.false_eq_true, if_false]
  show wpAny _ _ (if (Value.ref d == Value.none) = true then _ else _) _ _ s
  rw [if_neg (show ¬ ((Value.ref d == Value.none) = true) from Bool.false_ne_true)]
  refine wpAny_bind (wpAny_pure (wpAny_bind (wpAny_dictEntries hod hdd ?_)))
  rw [if_neg (by simp)]
  refine wpAny_bind (wpAny_pure (wpAny_bind (wpAny_dictEpoch hod hdd ?_)))
  rw [if_neg (by simp)]
  refine wpAny_pure ?_
  simp only [show ¬ ((i : Int) < 0) from by omega, if_false, Int.toNat_natCast, Array.getElem?_eq_getElem hi]
  refine wpAny_bind ?_
  first | refine wpAny_bind (wpAny_typeNameOfWhole_keyiter hit.typeIs (wpAny_pure ?_)) | refine wpAny_bind (wpAny_typeNameOf_keyiter hit.typeIs (wpAny_pure ?_))
  refine wpAny_bind (wpAny_isOneOf_keyiter hit.typeIs ?_)
  show wpAny _ _ (setField (.ref it) 1 (rawInt ((i : Int) + 1)) >>= _) _ _ s
  refine wpAny_bind (wpAny_setField ho hd (by simp) ?_)
  have new : (s.heap.update it (Obj.mapFields (·.setIfInBounds 1 (rawInt ((i : Int) + 1))))).IsKeyIter it d (i + 1) es.size ep :=
    ⟨_, Heap.get?_update_self _ ho (Obj.isFreed_of_fields (Obj.data_mapFields hd _)), (Obj.cls_mapFields ..).trans hc, by rw [Obj.data_mapFields hd]; simp [rawInt]⟩
  refine wpAny_bind (wpAny_holding (wpAny_bind (wpAny_isOneOf_keyiter (s := { s with heap := s.heap.update it (Obj.mapFields (·.setIfInBounds 1 (rawInt ((i : Int) + 1)))) }) new.typeIs ?_)))
  show wpAny _ _ (pure es[i].key) _ _ _
  exact wpAny_pure (wpAny_pure ⟨_, rfl, wpAny_pure (hQ _ new (Heap.SameBut.update ..))⟩)
theorem rk_end {Q : Option Value → Shared → Prop} (hh : A.handled = none) (hit : s.heap.IsKeyIter it d i es.size ep) (hod : s.heap.get? d = some o) (hdd : o.data = .dict es ep) (hi : es.size ≤ i)
    (hQ : ∀ h', Heap.ExtBut it s.heap h' → Q none { s with heap := h' }) : wpAny (model prog w) A (pyNext (.ref it)) Q E s := by
  obtain ⟨oi, ho, hc, hd⟩ := id hit
  unfold pyNext
  refine wpAny_bind (wpAny_attempt (wpAny_callSpecial?_slot (name := Str.ofString "__next__") hit.typeIs F.slot_dict_keyiterator_next
    (wpAny_call_entry F.slot_dict_keyiterator_next hit.typeIs F.entry_dict_keyiterator_next ?_ (F.args_dict_keyiterator_next_1 _))))
  refine wpAny_bind (wpAny_pure (wpAny_bind (wpAny_bind ?_)))
  first | refine wpAny_bind (wpAny_typeNameOfWhole_keyiter hit.typeIs (wpAny_pure ?_)) | refine wpAny_bind (wpAny_typeNameOf_keyiter hit.typeIs (wpAny_pure ?_))
  refine wpAny_bind (wpAny_fieldsOf ho hd ?_)
  simp only [show Builtin.Dict_items.ownsTuple "dict_keyiterator" = false by decide, Bool.false_eq_true, if_false]
  show wpAny _ _ (if (Value.ref d == Value.none) = true then _ else _) _ _ s
  rw [if_neg (show ¬ ((Value.ref d == Value.none) = true) from Bool.false_ne_true)]
  refine wpAny_bind (wpAny_pure (wpAny_bind (wpAny_dictEntries hod hdd ?_)))
  rw [if_neg (by simp)]
  refine wpAny_bind (wpAny_pure (wpAny_bind (wpAny_dictEpoch hod hdd ?_)))
  rw [if_neg (by simp)]
  refine wpAny_pure ?_
  simp only [show ¬ ((i : Int) < 0) from by omega, if_false, Int.toNat_natCast, Array.getElem?_eq_none hi]
  refine wpAny_bind ?_
  first | refine wpAny_bind (wpAny_typeNameOfWhole_keyiter hit.typeIs (wpAny_pure ?_)) | refine wpAny_bind (wpAny_typeNameOf_keyiter hit.typeIs (wpAny_pure ?_))
  show wpAny _ _ (setField (.ref it) 0 .none >>= _) _ _ s
  refine wpAny_bind (wpAny_setField ho hd (by simp) ?_)
  show wpAny _ _ (newExc (.type "StopIteration") [] >>= _) _ _ _
  refine wpAny_bind ?_
  simp only [newExc, newTuple]
  refine wpAny_bind (wpAny_newObj_type ?_ (by size_fits))
  refine wpAny_bind (m := firstArgMember _ _) (wpAny_of_eq (a := Value.none) (by first | rfl | (simp only [firstArgMember]; rfl)) (wpAny_newObj_type ?_ (by size_fits)))
  simp only [raiseNew]
  refine wpAny_bind (wpAny_handled ?_)
  rw [show A.in1.handled = none from hh]
  refine wpAny_bind (wpAny_pure (wpAny_throw ?_))
  refine wpAny_bind (wpAny_isInstance (T := "StopIteration") (b := true) ⟨_, Heap.get?_push_size _ rfl, rfl⟩ isSubtype_stop ?_)
  exact wpAny_pure (hQ _ (((Heap.SameBut.update ..).extBut.push _).push _))
end
def Itk (d : Addr) (o : Obj) (u : HO) : It :=
  ⟨fun i H => H d = some (.frz o u) ∧ i < szU u, fun i H x H' => H' = H ∧ ∃ v, KeyAt H u i x v, fun i H => H d = some (.frz o u) ∧ szU u ≤ i⟩
theorem keyiter_at {h h' : Heap} {it d : Addr} {i n ep : Nat} (x : h.IsKeyIter it d i n ep) (k : ∀ o, h.get? it = some o → h'.get? it = some o) : h'.IsKeyIter it d i n ep := let ⟨o, ho, r⟩ := x; ⟨o, k _ ho, r⟩
theorem turn_keys {P : Program} {w : World} {K : PySem.W.Frag} {tg : Expr} (d it : Addr) (o : Obj) (u : HO) (hu : DictU u) (es : Array DictEntry) (ep : Nat) (hd : o.data = .dict es ep) :
    Turn P w K tg (Itk d o u) [it] it (fun i h => h.IsKeyIter it d i es.size ep) where
  mem := by simp
  obj := fun i h st b hb => by
    rw [List.mem_singleton.mp hb]
    obtain ⟨oi, e, c, q⟩ := st
    exact ⟨oi, e, fun v z => by rw [q] at z; cases z⟩
  keep := fun i h h' st k => keyiter_at st fun oi e => k it (by simp) oi e
  item := by
    intro X hP hw hK hc i pins s σ H E I hf st hg
    subst hP hw hK
    obtain ⟨hH, hi⟩ := hg
    obtain ⟨_, hod, _, es', ep', hd', hz, hall⟩ := raw_of I.hok hH hu
    rw [hd] at hd'; cases hd'
    obtain ⟨f0, f1, f2, f3, f4, f5⟩ := hf it (by simp)
    have hi' : i < es.size := by omega
    obtain ⟨x, v, hk, r1, r2⟩ := hall i hi'
    refine rk_next st hod hd hi' fun h' st' sb => ?_
    have I1 : Inv X pins σ H { s with heap := h' } := I.turned (t' := s.toks) (fun b ob hb e => (sb.2 b hb).trans e) f0 f1 f3 f4 f5
    obtain ⟨oi, e, c, q⟩ := id st'
    exact ⟨_, rfl, go_of (s := { s with heap := h' }) e c q (by decide) ⟨x, H, I1, r1, ⟨rfl, v, hk⟩, st', fun b hb => (hf b hb).1⟩⟩
  done := by
    intro X hP hw hK hc i pins s σ H E I hf st hg
    subst hP hw hK
    obtain ⟨hH, hi⟩ := hg
    obtain ⟨_, hod, _, es', ep', hd', hz, hall⟩ := raw_of I.hok hH hu
    rw [hd] at hd'; cases hd'
    obtain ⟨f0, f1, f2, f3, f4, f5⟩ := hf it (by simp)
    exact rk_end (I.ok.hd hc) st hod hd (by omega) fun h' eb => ⟨rfl, I.turned (t' := s.toks) (fun b ob hb e => eb b ob hb e) f0 f1 f3 f4 f5⟩
  self := fun A i s Q E st h => by
    refine wpAny_pyIter_slot st.typeIs F.slot_dict_keyiterator_iter (wpAny_call_entry F.slot_dict_keyiterator_iter st.typeIs F.entry_dict_keyiterator_iter ?_ (F.args_dict_keyiterator_iter_1 _))
    show wpAny _ _ (ret (.ref it)) _ _ s
    exact wpAny_pure ⟨_, rfl, "dict_keyiterator", _, st.typeIs, F.slot_dict_keyiterator_next.lookup, h⟩
def iKeys (te : TE) : TI := fun σ H R => te σ H fun x H1 => ∃ d o u, x = .ref d ∧ H1 d = some (.frz o u) ∧ DictU u ∧ R (Itk d o u) H1
theorem pi_keys {X : Cx} {tg e : Expr} {te : TE} (he : PE X e te) : PI X tg e (iKeys te) := by
  intro pins s σ H R I h
  refine thn (he pins s σ H _ I h) fun v s1 ⟨x, H1, I1, r, d, o, u, ex, hd, hu, q⟩ => ?_
  subst ex
  cases (show v = Value.ref d from r)
  obtain ⟨hS, hod, hc, es, ep, hdd, hz, _⟩ := raw_of I1.hok hd hu
  refine rk_iter hS hod hc hdd ?_
  have kk : ∀ b ob, s1.heap.get? b = some ob → (s1.heap.push { cls := .type "dict_keyiterator", data := .fields #[.ref d, .int 0 0, .int es.size 0, .int ep 0] }).get? b = some ob := fun b ob z => Heap.get?_push_of_some _ z
  refine ⟨s1.heap.objs.size, [s1.heap.objs.size], _, _, H1, rfl, I1.kept (t' := s1.toks) kk, turn_keys d _ o u hu es ep hdd, ⟨_, Heap.get?_push_size _ rfl, rfl, rfl⟩, fun b hb => ?_, q⟩
  rw [List.mem_singleton.mp hb]
  exact I1.fpOk (Nat.le_refl _) (I1.hok.fresh (Nat.le_refl _))
section
variable {prog : Program} {w : World} {A : Around} {E : Value → Shared → Prop} {s : Shared} {d it v : Addr} {o : Obj} {es : Array DictEntry} {i ep : Nat} {ok ov : Value}
end
theorem for_keys {d : Addr} {o : Obj} {u : HO} {g : TG} {tb : TS} {D : Ends} {σ : St} {H : Hp} (Pv : Nat → St → Hp → Prop) (h0 : Pv 0 σ H) (hl : ∀ i σ H, i ≤ szU u → Pv i σ H → H d = some (.frz o u))
    (hs : ∀ i x v σ H, KeyAt H u i x v → i < szU u → Pv i σ H → g x σ H fun σ2 H2 => tb { D with nx := Pv (i + 1), ct := Pv (i + 1), bk := D.nx } σ2 H2) (hd : ∀ σ H, Pv (szU u) σ H → D.nx σ H) :
    ∃ W : Nat → Nat → St → Hp → Prop, (∃ m, W 0 m σ H) ∧ ∀ i m σ H, W i m σ H →
      ((Itk d o u).stop i H ∧ D.nx σ H) ∨ ((Itk d o u).go i H ∧ ∃ N : St → Hp → Prop, (∀ σ' H', N σ' H' → ∃ m', m' < m ∧ W (i + 1) m' σ' H') ∧ ∀ x H', (Itk d o u).yld i H x H' → g x σ H' fun σ2 H2 => tb { D with nx := N, ct := N, bk := D.nx } σ2 H2) := by
  refine ⟨fun i m σ H => m = szU u - i ∧ i ≤ szU u ∧ Pv i σ H, ⟨szU u, by simp, Nat.zero_le _, h0⟩, ?_⟩
  rintro i m σ H ⟨rfl, hi, p⟩
  have q := hl i σ H hi p
  by_cases hlt : i < szU u
  · refine .inr ⟨⟨q, hlt⟩, Pv (i + 1), fun σ' H' p' => ⟨szU u - (i + 1), by omega, rfl, hlt, p'⟩, fun x H' y => ?_⟩
    obtain ⟨e, v, k⟩ := y
    subst e
    exact hs i x v σ _ k hlt p
  · have e : i = szU u := by omega
    subst e
    exact .inl ⟨⟨q, Nat.le_refl _⟩, hd σ H p⟩
end L2
namespace L2
open PySem PySem.Spec PyProof.Rows
section
variable {X : Cx}
end
section
variable {prog : Program} {w : World} {A : Around} {E : Value → Shared → Prop} {s : Shared} {d : Addr} {o : Obj} {es : Array DictEntry} {ep : Nat}
theorem clear_raw {Q : Value → Shared → Prop} (ho : s.heap.get? d = some o) (hc : o.ExactDict) (hdat : o.data = .dict es ep) (hz : es.size ≤ sizeLine)
    (h : ∀ h', (∃ o' ep', h'.get? d = some o' ∧ o'.ExactDict ∧ o'.data = .dict #[] ep') → Heap.SameBut d s.heap h' → Q .none { s with heap := h' }) : wpAny (model prog w) A (call (.builtin "dict.clear") [.ref d]) Q E s := by
  have hT : s.TypeIs (.ref d) "dict" := ⟨o, ho, hc.1⟩
  refine wpAny_call_entry F.slot_dict_clear hT F.entry_dict_clear ?_ (F.args_dict_clear_1 _)
  unfold Builtin.«dict.clear» Builtin.Dict.noArgs
  refine wpAny_bind (wpAny_bind (wpAny_notOrdered_dict hT ?_))
  show wpAny _ _ (pure d) _ _ s
  refine wpAny_pure (wpAny_bind (wpAny_dictEntries ho hdat (wpAny_bind ?_)))
  unfold bearsInstanceDictMark
  refine wpAny_bind (wpAny_load ho (wpAny_pure ?_))
  refine wpAny_bind (wpAny_updateDictKeys (hz := hz) ho hdat ?_)
  have new : ∃ o' ep', (s.heap.update d (Obj.mapDictKeys fun _ => #[])).get? d = some o' ∧ o'.ExactDict ∧ o'.data = .dict #[] ep' :=
    ⟨_, ep + 1, Heap.get?_update_self _ ho (Obj.isFreed_of_dict (Obj.data_mapDictKeys hdat _)), hc.mapDictKeys _, Obj.data_mapDictKeys hdat _⟩
  split
  · exact wpAny_bind (wpAny_letGo (wpAny_pure ⟨.none, rfl, h _ new (Heap.SameBut.update ..)⟩))
  · exact wpAny_bind (wpAny_pure (wpAny_pure ⟨.none, rfl, h _ new (Heap.SameBut.update ..)⟩))
end
section
variable {X : Cx}
def rClearT : V → List V → Hp → VK → Prop := fun x vs H Q => ∃ a kvs, x = .ref a ∧ vs = [] ∧ H a = some (.dT kvs) ∧ Q .non (upd H a (.dT []))
theorem mt_clearT : MtR X "dict.clear" rClearT := by
  intro pins s σ H x vs v us Q I rx rv h
  obtain ⟨a, kvs, rfl, rfl, ha, q⟩ := h
  cases (show v = Value.ref a from rx)
  cases rv
  obtain ⟨z, hd, xs, rel, o, es, ep, ho, hc, hdat, he, _⟩ := dt_of I.hok ha
  have e1 := size_of_entries he
  have e2 := Paired.length rel
  refine clear_raw ho hc hdat (by omega) fun h' ⟨o', ep', h1, h2, h3⟩ sb => ?_
  refine ⟨.non, _, I.write (t' := s.toks) (x := a) (e := a) (o := .dT []) (by rw [ha]; exact True.intro) (.inl rfl) (fun b w hb q => (sb.2 b hb).trans q) ⟨o', h1⟩ ?_, rfl, q⟩
  exact ⟨Nat.zero_le _, hd, [], .nil, o', #[], ep', h1, h2, h3, rfl, List.nodup_nil⟩
end
section
variable {X : Cx}
end
end L2
namespace L2
open PySem PySem.Spec PyProof.Rows
def hAt (es : Array (Int × Value)) (i : Nat) : Int := (es[i]?.map (·.1)).getD 0
def addT (t : SetTable) (es : Array (Int × Value)) (h : Int) (x : Value) : Option (SetTable × Array (Int × Value)) :=
  if t.gaveWay = true then none else
  match t.probe (hAt es) h (t.probeStart h) with
  | some (.empty j none) => if (t.put j).1.tooFull = true then none else if (t.put j).1.fits (SetTable.insertAt es (t.put j).2 (h, x)).size = true then some ((t.put j).1, SetTable.insertAt es (t.put j).2 (h, x)) else none
  | _ => none
section
variable {prog : Program} {w : World} {A : Around} {E : Value → Shared → Prop} {s : Shared}
theorem hbv_ints {b : Addr} {o : Obj} {items : Array Value} {n : Nat} {Q : Bool → Shared → Prop} (ho : s.heap.get? b = some o) (hc : o.cls = .type "tuple") (hd : o.data = .seq items n) (hi : ∀ v ∈ items, ∃ i t, v = Value.int i t) (h : Q true s) :
    wpAny (model prog w) A (hashByValue 8 (.ref b)) Q E s := by
  have hT : s.TypeIs (.ref b) "tuple" := ⟨o, ho, hc⟩
  unfold hashByValue
  refine wpAny_bind (wpAny_specialOf hT F.slot_tuple_hash.lookup ?_)
  dsimp only
  refine wpAny_bind ?_
  unfold seqItems?
  refine wpAny_bind (wpAny_load ho ?_)
  rw [hd]
  refine wpAny_pure (wpAny_bind ?_)
  show wpAny _ _ (forIn items _ _) _ _ _
  rw [← Array.forIn_toList]
  refine wpAny_forIn_list _ (fun rest q s' => s' = s ∧ q = (none, ()) ∧ ∀ v ∈ rest, ∃ i t, v = Value.int i t) _ ?_ ?_ _ _ ⟨rfl, rfl, fun v hv => hi v (Array.mem_toList_iff.mp hv)⟩
  · rintro v rest q s' ⟨rfl, rfl, hr⟩
    obtain ⟨i, t, rfl⟩ := hr v List.mem_cons_self
    have e : hashByValue 7 (.int i t) = pure true := by simp [hashByValue]
    rw [e]
    exact wpAny_bind (wpAny_pure (by
      show wpAny _ _ (if (!true) = true then _ else _) _ _ _
      rw [if_neg (by decide)]
      exact wpAny_pure ⟨rfl, rfl, fun x hx => hr x (List.mem_cons_of_mem _ hx)⟩))
  · rintro q s' ⟨rfl, rfl, _⟩
    exact wpAny_pure h
theorem setAdd_free {K : Type} [DecidableEq K] {knd : HeapKind prog w K} {a b : Addr} {k : K} {o : Obj} {es es' : Array (Int × Value)} {ep : Nat} {t t' : SetTable} {Q : Bool → Shared → Prop} (hr : knd.room A) (hk : knd.is s.heap k b) (ho : s.heap.get? a = some o) (hd : o.data = .set es ep t) (hf : t.fits es.size = true) (hz : es'.size < 1000)
    (hv : ∀ (tk : Nat) (Q' : Bool → Shared → Prop), Q' true { s with toks := tk } → wpAny (model prog w) A (hashByValue 8 (.ref b)) Q' E { s with toks := tk })
    (e : addT t es (knd.hash k) (.ref b) = some (t', es'))
    (h : ∀ h', Heap.SameBut a s.heap h' → h'.get? a = some { o with data := .set es' (ep + 1) t' } → Q true { s with heap := h', toks := s.toks + knd.draws k }) :
    wpAny (model prog w) A (setAdd a (.ref b)) Q E s := by
  unfold addT at e
  split at e
  · cases e
  · rename_i hg
    split at e
    · rename_i j hp
      split at e
      · cases e
      · rename_i hfull
        split at e
        · rename_i hfit
          injection e with e
          injection e with e1 e2
          unfold setAdd
          refine wpAny_holding (wpAny_bind (knd.pyHash hr hk ?_))
          unfold setAddHashed
          refine wpAny_holding ?_
          show wpAny _ _ (setAddHashedIn a (.ref b) (knd.hash k) (99999 + 1)) _ _ _
          unfold setAddHashedIn
          refine wpAny_bind (wpAny_setState_of (s := { s with toks := s.toks + knd.draws k }) ho hd hf ?_)
          dsimp only
          rw [if_neg (show ¬ byScan (.ref b) es = true by simp [byScan, Value.scannable])]
          refine wpAny_bind ?_
          unfold setSearch
          show wpAny _ _ (setSearchFrom a (.ref b) (knd.hash k) true (99999 + 1) none) _ _ _
          unfold setSearchFrom
          refine wpAny_bind (wpAny_setState_of (s := { s with toks := s.toks + knd.draws k }) ho hd hf ?_)
          dsimp only
          rw [if_neg hg]
          split
          · rename_i met hm
            have em : met = .empty j none := Option.some.inj (hm.symm.trans hp)
            subst em
            dsimp only
            refine wpAny_pure ?_
            dsimp only
            refine wpAny_bind (wpAny_setState_of (s := { s with toks := s.toks + knd.draws k }) ho hd hf ?_)
            dsimp only
            subst e1 e2
            have tail : wpAny (model prog w) A (storeSet a (SetTable.insertAt es (t.put j).2 (knd.hash k, .ref b)) (t.put j).1 >>= fun _ => if (!false && (t.put j).1.tooFull) = true then (setRelay a (SetTable.grown (es.size + 1)) >>= fun _ => pure true) else pure true) Q E { s with toks := s.toks + knd.draws k } := by
              refine wpAny_bind (wpAny_storeSet_of (s := { s with toks := s.toks + knd.draws k }) ho hd ?_ (by have : sizeLine = 2 ^ 24 := rfl; omega))
              rw [if_neg (by simpa using hfull)]
              refine wpAny_pure (h _ (Heap.SameBut.update ..) ?_)
              have := Heap.get?_update_self (Obj.putSet (SetTable.insertAt es (t.put j).2 (knd.hash k, .ref b)) (t.put j).1) ho (by rw [putSet_of _ _ hd]; rfl)
              rw [putSet_of _ _ hd] at this
              exact this
            split
            · refine wpAny_bind (hv _ _ ?_)
              rw [if_pos (rfl : true = true)]
              exact tail
            · refine wpAny_bind (wpAny_pure ?_)
              rw [if_pos (rfl : true = true)]
              exact tail
          · rename_i hm
            exact (hm _ hp).elim
        · cases e
    · cases e
end
section
variable {prog : Program} {w : World} {A : Around} {R : Result → Shared → Prop} {I : Addr} {fp wr : List Addr} {G : Array GenState → Array GenState → Prop} {n : Nat} {P : Nat → Value → Prop} {St : Nat → Shared → Prop}
def ITup (h : Heap) (k : List Int) (b : Addr) : Prop := ∃ o items c, h.get? b = some o ∧ o.cls = .type "tuple" ∧ o.data = .seq items c ∧ IntsAre items.toList k
theorem loop_tups (W : WalksS prog w A.in1 I fp wr G n P St) (S : Addr) (hSf : S ∉ fp) (knd : HeapKind prog w (List Int)) (hroom : knd.room A.in1) (his : ∀ h k b, ITup h k b → knd.is h k b) (ad : Nat → Addr) (key : Nat → List Int) (hval : ∀ i v, P i v → v = .ref (ad i))
    (had : ∀ i, i < n → ad i ≠ S ∧ ad i ∉ wr) (T : Nat → SetTable) (Es : Nat → Array (Int × Value)) (hadd : ∀ i, i < n → addT (T i) (Es i) (knd.hash (key i)) (.ref (ad i)) = some (T (i + 1), Es (i + 1))) (hfit : ∀ i, i ≤ n → (T i).fits (Es i).size = true ∧ (Es i).size < 1000) :
    ∀ (k i : Nat) (s : Shared), n - i = k → i ≤ n → St i s → (∀ j, j < n → ITup s.heap (key j) (ad j)) → (∃ o ep, s.heap.get? S = some o ∧ o.ExactSet ∧ o.data = .set (Es i) ep (T i)) →
      (∀ s', Moved (S :: wr) G s s' → (∃ o ep, s'.heap.get? S = some o ∧ o.ExactSet ∧ o.data = .set (Es n) ep (T n)) → R (.ok (.ret .none)) s') →
      codeAny (model prog w) A (.builtin "set.update.loop" ⟨[.ref S, .ref I], []⟩) R s := by
  have hSw : S ∉ wr := fun h => hSf (W.sub _ h)
  have more : ∀ b ∈ wr, b ∈ S :: wr := fun b hb => List.mem_cons_of_mem _ hb
  have it_kept : ∀ {h h' : Heap} {k b}, ITup h k b → (∀ o, h.get? b = some o → h'.get? b = some o) → ITup h' k b := fun ⟨o, its, c, h1, h2⟩ f => ⟨o, its, c, f o h1, h2⟩
  intro k
  induction k with
  | zero =>
    intro i s hk hi hst ht hS hR
    obtain rfl : i = n := by omega
    refine codeAny_builtin F.entry_set_update_loop ?_
    rw [Around.under_plainId F.plain_set_update_loop _]
    show wpAny _ A.in1 (pyNext (.ref I) >>= _) _ _ s
    refine wpAny_bind (W.done s _ _ hst fun s' hm => wpAny_pure (hR s' (hm.mono more) ?_))
    obtain ⟨o, ep, h1, h2⟩ := hS
    exact ⟨o, ep, hm.heap S _ hSw h1, h2⟩
  | succ k ih =>
    intro i s hk hi hst ht hS hR
    have hlt : i < n := by omega
    refine codeAny_builtin F.entry_set_update_loop ?_
    rw [Around.under_plainId F.plain_set_update_loop _]
    show wpAny _ A.in1 (pyNext (.ref I) >>= _) _ _ s
    refine wpAny_bind (W.item i s _ _ hlt hst fun v s' hP hst' hm => ?_)
    obtain rfl := hval i v hP
    obtain ⟨o, ep, h1, h2, h3⟩ := hS
    have ht' : ∀ j, j < n → ITup s'.heap (key j) (ad j) := fun j hj => it_kept (ht j hj) fun o q => hm.heap _ o (had j hj).2 q
    obtain ⟨ob, its, c, g1, g2, g3, g4⟩ := id (ht' i hlt)
    show wpAny _ A.in1 (holding [Value.ref (ad i)] (setAdd S (.ref (ad i))) >>= _) _ _ s'
    refine wpAny_bind (wpAny_holding ?_)
    refine setAdd_free (knd := knd) (s := s') hroom (his _ _ _ (ht' i hlt)) (hm.heap S _ hSw h1) h3 (hfit i hi).1 (hfit (i + 1) hlt).2 (fun tk Q' q => hbv_ints (s := { s' with toks := tk }) g1 g2 g3 (fun v hv => ?_) q) (hadd i hlt) fun h' sb hg => ?_
    · exact g4.allInts v (by simpa using hv)
    · refine wpAny_pure ⟨plainId_quiet F.plain_set_update_loop _, ih (i + 1) _ (by omega) hlt (W.frame _ s' _ _ hst' (Nat.le_add_right _ _) fun b hb o e => ?_) (fun j hj => it_kept (ht' j hj) fun o q => ?_) ⟨_, _, hg, h2, rfl⟩ fun s'' hm'' hS'' => ?_⟩
      · rw [sb.2 b (fun z => hSf (z ▸ hb))]; exact e
      · rw [sb.2 _ (had j hj).1]; exact q
      · refine hR s'' (Moved.trans W.gtrans ((hm.mono more).then_heap (Nat.le_add_right _ _) fun b o hb e => ?_) hm'') hS''
        rw [sb.2 b (fun z => hb (by rw [z]; exact List.mem_cons_self))]; exact e
end
abbrev set0 (led : Bool) : Obj := { cls := .type "set", dict := none, data := .set #[] 0 (.fresh 0 0 led) }
set_option maxHeartbeats 3200000 in
theorem call_set_tups {prog : Program} {w : World} {A : Around} {E : Value → Shared → Prop} {s : Shared} {l : Addr} {as : List Addr} {Q : Value → Shared → Prop} (hh : A.handled = none) (hl : s.heap.IsList l (as.map Value.ref).toArray)
    (knd : HeapKind prog w (List Int)) (hroom : knd.room A.in1.in1.in1) (his : ∀ h k b, ITup h k b → knd.is h k b) (key : Nat → List Int) (htup : ∀ j, j < as.length → ITup s.heap (key j) (as.getD j 0))
    (T : Bool → Nat → SetTable) (Es : Bool → Nat → Array (Int × Value)) (h0 : ∀ led, T led 0 = .fresh 0 0 led ∧ Es led 0 = #[]) (hadd : ∀ led i, i < as.length → addT (T led i) (Es led i) (knd.hash (key i)) (.ref (as.getD i 0)) = some (T led (i + 1), Es led (i + 1)))
    (hfit : ∀ led i, i ≤ as.length → (T led i).fits (Es led i).size = true ∧ (Es led i).size < 1000)
    (h : ∀ (led : Bool) (h' : Heap) (tk : Nat), (∃ o ep, h'.get? s.heap.objs.size = some o ∧ o.ExactSet ∧ o.data = .set (Es led as.length) ep (T led as.length)) → (∀ b o, b < s.heap.objs.size → s.heap.get? b = some o → h'.get? b = some o) →
      Q (.ref s.heap.objs.size) { s with heap := h', toks := tk }) : wpAny (model prog w) A (call (.type "set") [.ref l]) Q E s := by
  obtain ⟨c0, tl0, hmro⟩ := F.called_set.mro
  have made := F.called_set.made
  have sub := F.called_set.sub
  have nt := F.called_set.notType
  have cc := F.called_set.canCreate
  have ck := F.typeCall_set_1 (.ref l)
  refine wpAny_call (codeAny_of_tree ?_)
  show wpAny _ _ (callAny (.type "set") ⟨[.ref l], []⟩) _ _ _
  refine wpAny_pure ⟨Code.quiet_builtin _ (by decide +kernel), codeAny_builtin F.entry_type_call ?_⟩
  rw [Around.under_plain (weight_type_call_type "set" [.ref l] []) rfl]
  repeat (any_goals (first | assumption | wp_step))
  refine codeAny_mono (code_set_new_1 (.ref l) (E := E) (Q₁ := fun v s₁ => ∃ led : Bool, v = .ref s.heap.objs.size ∧ s₁ = { s with heap := s.heap.push (set0 led) }) fun led => ⟨led, rfl, rfl⟩) fun r s₁ hr => ?_
  match r, hr with
  | .error e, hr => exact hr
  | .ok (.ret v), ⟨led, ev, es⟩ =>
    subst ev es
    have hS : (s.heap.push (set0 led)).get? s.heap.objs.size = some (set0 led) := Heap.get?_push_size _ rfl
    have hT : Shared.TypeIs { s with heap := s.heap.push (set0 led) } (.ref s.heap.objs.size) "set" := ⟨_, hS, rfl⟩
    have li := F.called_set.init.lookup
    have bi := F.called_set.init.bind (.ref s.heap.objs.size)
    repeat (any_goals (first | assumption | wp_step))
    refine codeAny_mono (codeAny_call_builtin (R := wants (fun r s₂ => r = .none ∧ ∃ h' tk, s₂ = { s with heap := h', toks := tk } ∧ (∃ o ep, h'.get? s.heap.objs.size = some o ∧ o.ExactSet ∧ o.data = .set (Es led as.length) ep (T led as.length)) ∧
      ∀ b o, b < s.heap.objs.size → s.heap.get? b = some o → h'.get? b = some o) E) F.called_set.init.plain F.entry_set_init (check_set_init_1 hT ?_)) fun r₂ s₂ hr₂ => ?_
    · have lt : l < s.heap.objs.size := by obtain ⟨o, ho, _⟩ := hl; exact Heap.lt_size ho
      obtain ⟨⟨oc, od, odt, osl⟩, hol, hcl, nl, hdl⟩ := id hl
      simp only at hcl hdl
      subst hcl hdl
      have hol' : (s.heap.push (set0 led)).get? l = some ⟨.type "list", od, .seq (as.map Value.ref).toArray nl, osl⟩ := Heap.get?_push_of_some _ hol
      have n1 := F.sub_list_set
      have n2 := F.sub_list_frozenset
      have n3 : (Value.type "list" == Value.type "dict") = false := by decide
      have hl1 : (s.heap.push (set0 led)).IsList l (as.map Value.ref).toArray := ⟨_, hol', rfl, nl, rfl⟩
      unfold Builtin.«set.__init__» noKeywords Builtin.Frozenset.updateFrom
      generalize ePI : pyIter = PI
      wp_walk
      subst ePI
      refine wpAny_pyIter_list hl1 (wpAny_bind (wpAny_runValue ?_))
      have sz1 : (s.heap.push (set0 led)).objs.size = s.heap.objs.size + 1 := Heap.size_push ..
      have hd3 : A.in1.in1.in1.handled = none := by simp [hh]
      have neI : l ≠ (s.heap.push (set0 led)).objs.size := by rw [sz1]; exact Nat.ne_of_lt (Nat.lt_succ_of_lt lt)
      have nS : s.heap.objs.size ∉ [(s.heap.push (set0 led)).objs.size, l] := by
        rw [sz1]
        intro z
        rcases List.mem_cons.mp z with z | z
        · exact absurd z (Nat.ne_of_lt (Nat.lt_succ_self _))
        · exact absurd (List.mem_singleton.mp z) (Nat.ne_of_gt lt)
      have hld : ∀ j, j < as.length → as.getD j 0 < s.heap.objs.size := fun j hj => by obtain ⟨o, _, _, h1, _⟩ := htup j hj; exact Heap.lt_size h1
      refine loop_tups ((Walks.list hd3 _ l neI (as.map Value.ref).toArray).toS) s.heap.objs.size nS knd hroom his (fun i => as.getD i 0) key (fun i v hv => ?_) (fun i hi => ?_) (T led) (Es led) (fun i hi => hadd led i (by simpa using hi)) (fun i hi => hfit led i (by simpa using hi))
        ((as.map Value.ref).toArray.size - 0) 0 _ (by omega) (Nat.zero_le _) ⟨⟨_, Heap.get?_push_size _ rfl, rfl, rfl⟩, (hl1.push _)⟩ (fun j hj => ?_) ?_ fun s' hm hS' => ?_
      · have hv' : (as.map Value.ref).toArray[i]? = some v := hv
        rw [List.getElem?_toArray, List.getElem?_map] at hv'
        obtain ⟨x, hx, rfl⟩ := Option.map_eq_some_iff.mp hv'
        show _ = Value.ref (as.getD i 0)
        rw [List.getD_eq_getElem?_getD, hx]; rfl
      · have hi' : i < as.length := by simpa using hi
        have := hld i hi'
        refine ⟨Nat.ne_of_lt this, fun z => ?_⟩
        have z' := List.mem_singleton.mp z
        rw [sz1] at z'
        exact absurd z' (Nat.ne_of_lt (Nat.lt_succ_of_lt this))
      · obtain ⟨o, its, c, q1, q2⟩ := htup j (by simpa using hj)
        exact ⟨o, its, c, Heap.get?_push_of_some _ (Heap.get?_push_of_some _ q1), q2⟩
      · refine ⟨_, 0, Heap.get?_push_of_some _ hS, ⟨rfl, rfl, rfl⟩, ?_⟩
        rw [(h0 led).1, (h0 led).2]
      · obtain ⟨h', g', d', tk', os'⟩ := s'
        obtain rfl : g' = s.gens := hm.gens
        obtain rfl : d' = s.drawn := hm.drawn
        obtain rfl : os' = s.os := hm.os
        refine wpAny_pure ?_
        show wpAny _ _ (ret Value.none) _ _ _
        refine wpAny_pure ⟨rfl, h', tk', rfl, by simpa using hS', fun b o hb e => hm.heap b o (fun z => ?_) (Heap.get?_push_of_some _ (Heap.get?_push_of_some _ e))⟩
        rcases List.mem_cons.mp z with z | z
        · exact absurd z (Nat.ne_of_lt hb)
        · have z' := List.mem_singleton.mp z
          rw [sz1] at z'
          exact absurd z' (Nat.ne_of_lt (Nat.lt_succ_of_lt hb))
    · match r₂, hr₂ with
      | .error e, z => exact z
      | .ok (.ret v), ⟨e1, h', tk, e2, z1, z2⟩ =>
        subst e1 e2
        repeat (any_goals (first | assumption | wp_step))
        exact h led h' tk z1 z2
      | .ok .next, z => exact z.elim
      | .ok .brk, z => exact z.elim
      | .ok .cont, z => exact z.elim
  | .ok .next, hr => exact hr.elim
  | .ok .brk, hr => exact hr.elim
  | .ok .cont, hr => exact hr.elim
end L2
namespace L2
open PySem PySem.Spec PyProof.Rows
end L2
namespace L2
open PySem PySem.Spec PyProof.Rows
def hashT (k : List Int) : Int := reduceHash (Builtin.Tuple.tupleHashOf (k.map hashInt))
theorem itup_is {prog : Program} {w : World} {h : Heap} {k : List Int} {b : Addr} (t : ITup h k b) : (tupleKind (intKind prog w)).is h k b := by
  obtain ⟨o, its, c, h1, h2, h3, h4⟩ := t
  refine ⟨o, its, c, h1, h2, h3, ?_⟩
  have all : ∀ {us : List Value} {ns : List Int}, IntsAre us ns → PySem.ItemsAre (intKind prog w) ns us := by
    intro us ns z
    induction z with
    | nil => exact .nil
    | cons n t _ ih => exact .cons (intKind_is _ _ _ _) ih
  exact all h4
def stO (a : Addr) (n : Nat) : HO := .ext fun h => ∃ o es ep t, h.get? a = some o ∧ o.ExactSet ∧ o.data = .set es ep t ∧ SetTable.fits t es.size = true ∧ es.size = n
theorem tup_itup {P : Program} {w : World} {H : Hp} {h : Heap} {b : Addr} {c : List Int} (ok : HOk P w H h) (e : H b = some (.tup (c.map V.int))) : ITup h c b := by
  obtain ⟨_, its, rv, o, ho, hc, n, hd⟩ := ok b _ e
  exact ⟨o, its.toArray, n, ho, hc, hd, by simpa using intsAre_of rv⟩
theorem call_lenSt {X : Cx} : CallR X (.builtin "len") (fun xs H Q => ∃ a n, xs = [V.ref a] ∧ H a = some (stO a n) ∧ n < 1000 ∧ Q (.int n) H) := by
  intro pins s σ H xs us Q I r h
  obtain ⟨a, n, rfl, ha, hn, q⟩ := h
  obtain ⟨u, rfl, ru⟩ := vals1 r
  cases ru
  obtain ⟨⟨o, es, ep, t, h1, h2, h3, h4, h5⟩, _⟩ := I.hok a _ ha
  subst h5
  exact call_len_set h1 h2 h3 h4 (by omega) ⟨.int es.size, H, I.tok _, ⟨_, rfl⟩, q⟩
end L2
namespace L2
open PySem PySem.Spec PyProof.Rows
structure ClsM (K : PySem.W.Frag) (C : Addr) (m : Str) (f : Addr) : Prop where
  ex : ∃ mc, PySem.W.readsIn K C mc = true ∧ PySem.W.findCls K (.ref C) mc m = some (.val (.ref f))
  hh : PySem.W.handedIn (.ref f) = true
  hg : PySem.W.specialIn K (.ref C) "__getattribute__" = some (some (.builtin "type.__getattribute__"))
  kp : PySem.W.keepIn K (.ref f) = true
structure ClsCallee (P : Program) (w : World) (K : PySem.W.Frag) (mg : Str → Option Value) (base : Heap) (C : Addr) (m : Str) (k : Nat) (ps : List Str) (sp : Sp) : Prop where
  ex : ∃ f fd, FnOk P w K mg base CX0 k f fd ps sp ∧ ClsM K C m f ∧ Binds K fd ps []
section
variable {X : Cx} {C : Addr} {k : Nat} {ps : List Str} {sp : Sp} {m : Str} {pos apos : Pos} {e o : Expr} {es : List Expr} {t : TA}
end
structure FunD (K : PySem.W.Frag) (x qual : Str) (st : Stmt) (f : Addr) (fd : FuncData) : Prop where
  ex : ∃ (oc : Value) (od : Option Addr) (dV kV doc pm : Value) (an : Option Addr) (cdv ct : Value) (osl : Array (Option Value)),
    fd = PySem.W.fnOf x qual (defArgs st) (defBody st) (defScope st) dV kV doc pm an cdv ct ∧ K.lookup f = some ⟨oc, od, .func fd, osl⟩ ∧ PySem.W.codeIn K cdv qual = true
section
variable {P : Program} {w : World} {K : PySem.W.Frag} {mg : Str → Option Value} {base : Heap}
theorem FunD.ok {x qual : Str} {st : Stmt} {f : Addr} {fd : FuncData} {N ps : List Str} {k : Nat} {sp : Sp} (F : FunD K x qual st f fd) (S : FnScope N ps (defScope st)) (len : ∀ vs H Q E, sp vs H Q E → vs.length = ps.length)
    (hbody : ∀ (cdv : Value) (A : Around) (outer : List Env) (s : Shared) (H : Hp) (vs : List V) (Q : VK) (E : XK), Room k (A.deeper (envOfC qual (defScope st) s.heap.objs.size f cdv)) → sp vs H Q E →
      ∃ t, PSs (cxOf CX0 P w K mg base N qual (defScope st) f cdv A outer s H E).nox (defBody st) t ∧ t { nx := fun _ H' => Q .non H', rt := Q } (start N vs) H) : FnOk P w K mg base CX0 (k + 1) f fd ps sp := by
  obtain ⟨oc, od, dV, kV, doc, pm, an, cdv, ct, osl, rfl, lk, hcd⟩ := F.ex
  refine fn_of lk hcd S len fun A outer s H vs Q E hr hsp => ?_
  obtain ⟨t, h, q⟩ := hbody cdv A outer s H vs Q E hr hsp
  exact ⟨t, h.nox, q⟩
end
end L2
namespace L2
open PySem PySem.Spec PyProof.Rows
section
variable {prog : Program} {w : World} {A : Around} {h : Heap} {g : Array GenState} {d : Drawn} {t : Nat} {os : OsState} {a : Addr}
end
end L2
namespace L2
open PySem PySem.Spec PyProof.Rows
section
variable {prog : Program} {w : World} {A : Around} {R : Result → Shared → Prop} {I : Addr} {fp wr : List Addr} {G : Array GenState → Array GenState → Prop} {n : Nat} {P : Nat → Value → Prop} {St : Nat → Shared → Prop} {K : Type} [DecidableEq K]
end
section
variable {prog : Program} {w : World} {A : Around} {E : Value → Shared → Prop} {s : Shared} {K : Type} [DecidableEq K]
end
end L2
namespace L2
open PySem PySem.Spec PyProof.Rows
end L2
namespace L2
open PySem PySem.Spec PyProof.Rows
structure Nx (prog : Program) (w : World) (A : Around) (it src : Addr) (vals : Array Value) (St : Nat → Heap → Prop) : Prop where
  obj : ∀ i h, St i h → ∃ o vs, h.get? it = some o ∧ o.data = .fields vs ∧ o.cls ≠ .type "zip" ∧ ∃ o', h.get? src = some o'
  keep : ∀ i h h', St i h → (∀ o, h.get? it = some o → h'.get? it = some o) → (∀ o, h.get? src = some o → h'.get? src = some o) → St i h'
  item : ∀ (i : Nat) (s : Shared) (Q : Value → Shared → Prop) (E : Value → Shared → Prop) (x : Value), St i s.heap → vals[i]? = some x → (∀ h', St (i + 1) h' → Heap.SameBut it s.heap h' → Q x { s with heap := h' }) → wpAny (model prog w) A (Builtin.SmallTypes.nextOf (.ref it)) Q E s
  done : ∀ (i : Nat) (s : Shared) (Q : Value → Shared → Prop) (E : Value → Shared → Prop), A.handled = none → St i s.heap → vals[i]? = none →
    (∀ h' e, Heap.ExtBut it s.heap h' → (∃ o, h'.get? e = some o ∧ o.cls = .type "StopIteration") → E (.ref e) { s with heap := h' }) → wpAny (model prog w) A (Builtin.SmallTypes.nextOf (.ref it)) Q E s
section
variable {prog : Program} {w : World} {A : Around} {E : Value → Shared → Prop} {s : Shared}
theorem Nx.list {it l : Addr} {items : Array Value} (hne : l ≠ it) : Nx prog w A it l items (fun i h => h.IsListIter it l i ∧ h.IsList l items) where
  obj := fun i h ⟨⟨o, h1, h2, h3⟩, ⟨o', h4, _⟩⟩ => ⟨o, _, h1, h3, by rw [h2]; decide, o', h4⟩
  keep := fun i h h' ⟨x, y⟩ k1 k2 => ⟨x.at k1, y.at k2⟩
  item := fun i s Q E x ⟨h1, h2⟩ hx hQ => wpAny_nextOf_list_item h1 h2 hx fun h' a b => hQ h' ⟨a, h2.at fun o e => b.extBut _ _ hne e⟩ b
  done := fun i s Q E hh ⟨h1, h2⟩ hx hE => wpAny_nextOf_list_end hh h1 h2 hx hE
theorem nx_tup_item {it t : Addr} {i : Nat} {items : Array Value} {x : Value} {Q : Value → Shared → Prop} (hit : IsTupIter s.heap it t i) (ht : IsTup s.heap t items) (hx : items[i]? = some x)
    (hQ : ∀ h', IsTupIter h' it t (i + 1) → Heap.SameBut it s.heap h' → Q x { s with heap := h' }) : wpAny (model prog w) A (Builtin.SmallTypes.nextOf (.ref it)) Q E s := by
  obtain ⟨o, ho, hc, hd⟩ := id hit
  obtain ⟨ol, hol, _, nl, hdl⟩ := ht
  unfold Builtin.SmallTypes.nextOf
  refine wpAny_bind (wpAny_callSpecial?_slot (name := Str.ofString "__next__") hit.typeIs slot_tupleiter_next (wpAny_call_entry slot_tupleiter_next hit.typeIs entry_tupleiter_next ?_ (args_tupleiter_next _)))
  show wpAny _ _ (field (.ref it) 0 >>= _) _ _ s
  refine wpAny_bind (wpAny_field ho hd (x := .ref t) rfl ?_)
  show wpAny _ _ (if (Value.ref t == Value.none) = true then _ else _) _ _ s
  rw [if_neg (show ¬ ((Value.ref t == Value.none) = true) from Bool.false_ne_true)]
  show wpAny _ _ (field (.ref it) 1 >>= _) _ _ s
  refine wpAny_bind (wpAny_field ho hd (x := .int i 0) rfl ?_)
  show wpAny _ _ (seqItems? (.ref t) >>= _) _ _ s
  refine wpAny_bind (wpAny_seqItems hol hdl ?_)
  simp only [Int.toNat_natCast, hx]
  refine wpAny_bind (wpAny_setField ho hd (by simp) (wpAny_pure ⟨x, rfl, wpAny_pure (hQ _ ?_ (Heap.SameBut.update ..))⟩))
  exact ⟨_, Heap.get?_update_self _ ho (Obj.isFreed_of_fields (Obj.data_mapFields hd _)), (Obj.cls_mapFields ..).trans hc, by rw [Obj.data_mapFields hd]; simp [rawInt]⟩
theorem nx_tup_end {it t : Addr} {i : Nat} {items : Array Value} {Q : Value → Shared → Prop} (hh : A.handled = none) (hit : IsTupIter s.heap it t i) (ht : IsTup s.heap t items) (hx : items[i]? = none)
    (hE : ∀ h' e, Heap.ExtBut it s.heap h' → (∃ o, h'.get? e = some o ∧ o.cls = .type "StopIteration") → E (.ref e) { s with heap := h' }) : wpAny (model prog w) A (Builtin.SmallTypes.nextOf (.ref it)) Q E s := by
  obtain ⟨o, ho, hc, hd⟩ := id hit
  obtain ⟨ol, hol, _, nl, hdl⟩ := ht
  unfold Builtin.SmallTypes.nextOf
  refine wpAny_bind (wpAny_callSpecial?_slot (name := Str.ofString "__next__") hit.typeIs slot_tupleiter_next (wpAny_call_entry slot_tupleiter_next hit.typeIs entry_tupleiter_next ?_ (args_tupleiter_next _)))
  show wpAny _ _ (field (.ref it) 0 >>= _) _ _ s
  refine wpAny_bind (wpAny_field ho hd (x := .ref t) rfl ?_)
  show wpAny _ _ (if (Value.ref t == Value.none) = true then _ else _) _ _ s
  rw [if_neg (show ¬ ((Value.ref t == Value.none) = true) from Bool.false_ne_true)]
  show wpAny _ _ (field (.ref it) 1 >>= _) _ _ s
  refine wpAny_bind (wpAny_field ho hd (x := .int i 0) rfl ?_)
  show wpAny _ _ (seqItems? (.ref t) >>= _) _ _ s
  refine wpAny_bind (wpAny_seqItems hol hdl ?_)
  simp only [Int.toNat_natCast, hx]
  refine wpAny_bind (wpAny_rule (wpAny_bind (wpAny_setField ho hd (by simp) ?_)))
  show wpAny _ _ (newExc (.type "StopIteration") [] >>= _) _ _ _
  refine wpAny_bind ?_
  simp only [newExc, newTuple]
  refine wpAny_bind (wpAny_newObj_type ?_ (by size_fits))
  refine wpAny_bind (m := firstArgMember _ _) (wpAny_of_eq (a := Value.none) (by first | rfl | (simp only [firstArgMember]; rfl)) (wpAny_newObj_type ?_ (by size_fits)))
  simp only [raiseNew]
  refine wpAny_bind (wpAny_handled ?_)
  first | rw [show A.in1.handled = none from hh] | rw [hh]
  refine wpAny_bind (wpAny_pure (wpAny_throw ?_))
  exact hE _ _ (((Heap.SameBut.update ..).extBut.push _).push _) ⟨_, Heap.get?_push_size _ rfl, rfl⟩
theorem Nx.tup {it t : Addr} {items : Array Value} (hne : t ≠ it) : Nx prog w A it t items (fun i h => IsTupIter h it t i ∧ IsTup h t items) where
  obj := fun i h ⟨⟨o, h1, h2, h3⟩, ⟨o', h4, _⟩⟩ => ⟨o, _, h1, h3, by rw [h2]; decide, o', h4⟩
  keep := fun i h h' ⟨⟨o, h1, h2⟩, ⟨o', h4, h5⟩⟩ k1 k2 => ⟨⟨o, k1 _ h1, h2⟩, ⟨o', k2 _ h4, h5⟩⟩
  item := fun i s Q E x ⟨h1, h2⟩ hx hQ => nx_tup_item h1 h2 hx fun h' a b => hQ h' ⟨a, h2.extBut b.extBut hne⟩ b
  done := fun i s Q E hh ⟨h1, h2⟩ hx hE => nx_tup_end hh h1 h2 hx hE
structure ZA (z TI TO i1 i2 s1 s2 : Addr) : Prop where
  TIz : TI ≠ z
  TOz : TO ≠ z
  i1z : i1 ≠ z
  i2z : i2 ≠ z
  TITO : TI ≠ TO
  TIi1 : TI ≠ i1
  TIi2 : TI ≠ i2
  TOi1 : TO ≠ i1
  TOi2 : TO ≠ i2
  i12 : i1 ≠ i2
  s1z : s1 ≠ z
  s1TO : s1 ≠ TO
  s1i2 : s1 ≠ i2
  s2z : s2 ≠ z
  s2TO : s2 ≠ TO
  s2i1 : s2 ≠ i1
theorem zn_item {z TI TO i1 i2 s1 s2 : Addr} {xs ys : Array Value} {S1 S2 : Nat → Heap → Prop} {i : Nat} {x y a b : Value} {Q : Value → Shared → Prop} (D : ZA z TI TO i1 i2 s1 s2) (N1 : Nx prog w A i1 s1 xs S1) (N2 : Nx prog w A i2 s2 ys S2)
    (hz : IsZip s.heap z TI TO .none) (hTI : IsPair s.heap TI (.ref i1) (.ref i2)) (hTO : IsPair s.heap TO a b) (h1 : S1 i s.heap) (h2 : S2 i s.heap) (hx : xs[i]? = some x) (hy : ys[i]? = some y)
    (hQ : ∀ h', IsZip h' z TI TO (rawInt s.heap.objs.size) → IsPair h' TO x y → S1 (i + 1) h' → S2 (i + 1) h' → IsPair h' s.heap.objs.size x y → h'.objs.size = s.heap.objs.size + 1 →
      (∀ c o, c ≠ z → c ≠ TO → c ≠ i1 → c ≠ i2 → s.heap.get? c = some o → h'.get? c = some o) → Q (.ref s.heap.objs.size) { s with heap := h' }) :
    wpAny (model prog w) A (Builtin.«zip.__next__» ⟨[.ref z], []⟩) (fun fin s' => ∃ v, fin = .done (.ret v) ∧ Q v s') E s := by
  show wpAny _ _ (field (.ref z) 2 >>= _) _ _ _
  refine wpAny_bind (wpAny_field hz rfl (x := .bool false) rfl ?_)
  show wpAny _ _ (field (.ref z) 3 >>= _) _ _ _
  refine wpAny_bind (wpAny_field hz rfl (x := .ref TI) rfl (wpAny_bind (wpAny_seqItems hTI rfl ?_)))
  show wpAny _ _ (Builtin.SmallTypes.ownedTupleIsFree (.ref z) >>= _) _ _ _
  refine wpAny_bind ?_
  unfold Builtin.SmallTypes.ownedTupleIsFree
  refine wpAny_bind (wpAny_field hz rfl (x := .none) rfl (wpAny_pure ?_))
  simp only [if_true]
  refine wpAny_bind (wpAny_rule (wpAny_bind (wpAny_field hz rfl (x := .ref TO) rfl (wpAny_bind (wpAny_setField_rec hz (by simp) fun g1 z1 k1 => ?_)))))
  replace z1 : IsZip g1 z TI TO .ellipsis := z1
  refine wpAny_bind ?_
  simp only [List.zipIdx_cons, List.zipIdx_nil, List.forIn_cons, List.forIn_nil]
  refine wpAny_bind (wpAny_bind (wpAny_onRaise ?_))
  show wpAny _ _ (Builtin.SmallTypes.nextOf (.ref i1) >>= _) _ _ _
  refine wpAny_bind (N1.item i { s with heap := g1 } _ _ x (N1.keep _ _ _ h1 (fun o e => k1.extBut _ _ D.i1z e) (fun o e => k1.extBut _ _ D.s1z e)) hx fun g2 a1 k2 => wpAny_pure ?_)
  have t2 : IsPair g2 TO a b := k2.extBut _ _ D.TOi1 (k1.extBut _ _ D.TOz hTO)
  refine wpAny_bind (wpAny_seqItems t2 rfl (wpAny_bind (wpAny_updateSeq_pair t2 fun g3 t3 k3 => ?_)))
  replace t3 : IsPair g3 TO x b := t3
  refine wpAny_bind (wpAny_letGo (wpAny_pure ?_))
  refine wpAny_bind (wpAny_bind (wpAny_onRaise ?_))
  show wpAny _ _ (Builtin.SmallTypes.nextOf (.ref i2) >>= _) _ _ _
  refine wpAny_bind (N2.item i { s with heap := g3 } _ _ y (N2.keep _ _ _ h2 (fun o e => k3.extBut _ _ D.TOi2.symm (k2.extBut _ _ D.i12.symm (k1.extBut _ _ D.i2z e))) (fun o e => k3.extBut _ _ D.s2TO (k2.extBut _ _ D.s2i1 (k1.extBut _ _ D.s2z e)))) hy fun g4 a2 k4 => wpAny_pure ?_)
  have t4 : IsPair g4 TO x b := k4.extBut _ _ D.TOi2 t3
  refine wpAny_bind (wpAny_seqItems t4 rfl (wpAny_bind (wpAny_updateSeq_pair t4 fun g5 t5 k5 => ?_)))
  replace t5 : IsPair g5 TO x y := t5
  refine wpAny_bind (wpAny_letGo (wpAny_pure (wpAny_pure ?_)))
  refine wpAny_bind (wpAny_seqItems t5 rfl (wpAny_bind (wpAny_newTuple ?_)))
  have hsz : g5.objs.size = s.heap.objs.size := by rw [k5.1, k4.1, k3.1, k2.1, k1.1]
  have z5 : IsZip g5 z TI TO .ellipsis := k5.extBut _ _ D.TOz.symm (k4.extBut _ _ D.i2z.symm (k3.extBut _ _ D.TOz.symm (k2.extBut _ _ D.i1z.symm z1)))
  have all5 : ∀ c o, c ≠ z → c ≠ TO → c ≠ i1 → c ≠ i2 → s.heap.get? c = some o → g5.get? c = some o := fun c o c1 c2 c3 c4 e => k5.extBut _ _ c2 (k4.extBut _ _ c4 (k3.extBut _ _ c2 (k2.extBut _ _ c3 (k1.extBut _ _ c1 e))))
  have hz5 : z < g5.objs.size := Heap.lt_size z5
  show wpAny _ _ (Builtin.SmallTypes.ownedTupleHandOut (.ref z) (.ref g5.objs.size) >>= _) _ _ _
  refine wpAny_bind ?_
  unfold Builtin.SmallTypes.ownedTupleHandOut
  have z6 : IsZip (g5.push { cls := .type "tuple", data := .seq #[x, y] }) z TI TO .ellipsis := Heap.get?_push_of_some _ z5
  refine wpAny_bind (wpAny_setField_rec z6 (by simp) fun g7 z7 k7 => ?_)
  replace z7 : IsZip g7 z TI TO (rawInt g5.objs.size) := z7
  refine wpAny_setField_rec z7 (by simp) fun g8 z8 k8 => ?_
  replace z8 : IsZip g8 z TI TO (rawInt g5.objs.size) := z8
  have up : ∀ c o, c ≠ z → g5.get? c = some o → g8.get? c = some o := fun c o c1 e => k8.extBut _ _ c1 (k7.extBut _ _ c1 (Heap.get?_push_of_some _ e))
  have hT8 : IsPair g8 g5.objs.size x y := k8.extBut _ _ (Nat.ne_of_gt hz5) (k7.extBut _ _ (Nat.ne_of_gt hz5) (Heap.get?_push_size _ rfl))
  have sz8 : g8.objs.size = g5.objs.size + 1 := by rw [k8.1, k7.1, Heap.size_push]
  rw [hsz] at z8 hT8 sz8
  refine wpAny_pure ⟨_, rfl, ?_⟩
  show Q (.ref g5.objs.size) _
  rw [hsz]
  exact hQ g8 z8 (up _ _ D.TOz t5)
    (N1.keep _ _ _ a1 (fun o e => up _ o D.i1z (k5.extBut _ _ D.TOi1.symm (k4.extBut _ _ D.i12 (k3.extBut _ _ D.TOi1.symm e)))) (fun o e => up _ o D.s1z (k5.extBut _ _ D.s1TO (k4.extBut _ _ D.s1i2 (k3.extBut _ _ D.s1TO e)))))
    (N2.keep _ _ _ a2 (fun o e => up _ o D.i2z (k5.extBut _ _ D.TOi2.symm e)) (fun o e => up _ o D.s2z (k5.extBut _ _ D.s2TO e))) hT8 sz8 fun c o c1 c2 c3 c4 e => up c o c1 (all5 c o c1 c2 c3 c4 e)
theorem zn_end {z TI TO i1 i2 s1 s2 : Addr} {xs ys : Array Value} {S1 S2 : Nat → Heap → Prop} {i : Nat} {a b : Value} {Q : Fin → Shared → Prop} (hh : A.handled = none) (D : ZA z TI TO i1 i2 s1 s2) (N1 : Nx prog w A i1 s1 xs S1) (N2 : Nx prog w A i2 s2 ys S2)
    (hz : IsZip s.heap z TI TO .none) (hTI : IsPair s.heap TI (.ref i1) (.ref i2)) (hTO : IsPair s.heap TO a b) (h1 : S1 i s.heap) (h2 : S2 i s.heap) (hend : xs[i]? = none ∨ ys[i]? = none)
    (hE : ∀ h' e, (∀ c o, c ≠ z → c ≠ TO → c ≠ i1 → c ≠ i2 → s.heap.get? c = some o → h'.get? c = some o) → (∃ o, h'.get? e = some o ∧ o.cls = .type "StopIteration") → E (.ref e) { s with heap := h' }) :
    wpAny (model prog w) A (Builtin.«zip.__next__» ⟨[.ref z], []⟩) Q E s := by
  show wpAny _ _ (field (.ref z) 2 >>= _) _ _ _
  refine wpAny_bind (wpAny_field hz rfl (x := .bool false) rfl ?_)
  show wpAny _ _ (field (.ref z) 3 >>= _) _ _ _
  refine wpAny_bind (wpAny_field hz rfl (x := .ref TI) rfl (wpAny_bind (wpAny_seqItems hTI rfl ?_)))
  show wpAny _ _ (Builtin.SmallTypes.ownedTupleIsFree (.ref z) >>= _) _ _ _
  refine wpAny_bind ?_
  unfold Builtin.SmallTypes.ownedTupleIsFree
  refine wpAny_bind (wpAny_field hz rfl (x := .none) rfl (wpAny_pure ?_))
  simp only [if_true]
  refine wpAny_bind (wpAny_rule (wpAny_bind (wpAny_field hz rfl (x := .ref TO) rfl (wpAny_bind (wpAny_setField_rec hz (by simp) fun g1 z1 k1 => ?_)))))
  replace z1 : IsZip g1 z TI TO .ellipsis := z1
  refine wpAny_bind ?_
  simp only [List.zipIdx_cons, List.zipIdx_nil, List.forIn_cons, List.forIn_nil]
  refine wpAny_bind (wpAny_bind (wpAny_onRaise ?_))
  show wpAny _ _ (Builtin.SmallTypes.nextOf (.ref i1) >>= _) _ _ _
  have st1 := N1.keep _ _ g1 h1 (fun o e => k1.extBut _ _ D.i1z e) (fun o e => k1.extBut _ _ D.s1z e)
  cases hx : xs[i]? with
  | none =>
    refine wpAny_bind (N1.done i { s with heap := g1 } _ _ hh st1 hx fun g2 e k2 he => ?_)
    obtain ⟨oe, hoe, hce⟩ := he
    have z2 : IsZip g2 z TI TO .ellipsis := k2 _ _ D.i1z.symm z1
    have hez : e ≠ z := fun x => by subst x; rw [z2] at hoe; cases hoe; simp at hce
    exact wpAny_setField_rec z2 (by simp) fun g3 _ k3 => hE g3 e (fun c o c1 _ c3 _ x => k3.extBut _ _ c1 (k2 _ _ c3 (k1.extBut _ _ c1 x))) ⟨oe, k3.extBut _ _ hez hoe, hce⟩
  | some x =>
    have hy : ys[i]? = none := by rcases hend with h | h; rw [hx] at h; cases h; exact h
    refine wpAny_bind (N1.item i { s with heap := g1 } _ _ x st1 hx fun g2 a1 k2 => wpAny_pure ?_)
    have t2 : IsPair g2 TO a b := k2.extBut _ _ D.TOi1 (k1.extBut _ _ D.TOz hTO)
    refine wpAny_bind (wpAny_seqItems t2 rfl (wpAny_bind (wpAny_updateSeq_pair t2 fun g3 t3 k3 => ?_)))
    refine wpAny_bind (wpAny_letGo (wpAny_pure ?_))
    refine wpAny_bind (wpAny_bind (wpAny_onRaise ?_))
    show wpAny _ _ (Builtin.SmallTypes.nextOf (.ref i2) >>= _) _ _ _
    refine wpAny_bind (N2.done i { s with heap := g3 } _ _ hh (N2.keep _ _ _ h2 (fun o e => k3.extBut _ _ D.TOi2.symm (k2.extBut _ _ D.i12.symm (k1.extBut _ _ D.i2z e))) (fun o e => k3.extBut _ _ D.s2TO (k2.extBut _ _ D.s2i1 (k1.extBut _ _ D.s2z e)))) hy fun g4 e k4 he => ?_)
    obtain ⟨oe, hoe, hce⟩ := he
    have z4 : IsZip g4 z TI TO .ellipsis := k4 _ _ D.i2z.symm (k3.extBut _ _ D.TOz.symm (k2.extBut _ _ D.i1z.symm z1))
    have hez : e ≠ z := fun x => by subst x; rw [z4] at hoe; cases hoe; simp at hce
    exact wpAny_setField_rec z4 (by simp) fun g5 _ k5 => hE g5 e (fun c o c1 c2 c3 c4 x => k5.extBut _ _ c1 (k4 _ _ c4 (k3.extBut _ _ c2 (k2.extBut _ _ c3 (k1.extBut _ _ c1 x))))) ⟨oe, k5.extBut _ _ hez hoe, hce⟩
end
end L2
namespace L2
open PySem PySem.Spec PyProof.Rows
theorem sqL_ne {X : Cx} {pins : List (Addr × Obj)} {σ : St} {H : Hp} {s : Shared} {t b : Addr} {xs : List V} (I : Inv X pins σ H s) (h : SqL X.K H t xs) (f : FpOk X pins H b) : t ≠ b := fun z => by
  subst z
  obtain ⟨f0, f1, f2, f3, f4, f5⟩ := f
  rcases h with (h | ⟨_, h⟩) | ⟨o, its, n, hk, _⟩
  · rw [f0] at h; cases h
  · rw [f0] at h; cases h
  · have hb := I.ok.mod.kin _ _ hk
    rcases f3 with f3 | f3
    · exact I.ok.noex _ _ hb f3
    · exact absurd (Nat.lt_of_lt_of_le (Heap.lt_size (I.ok.bs _ _ hb).1) f3) (Nat.lt_irrefl _)
def ItzL (K : PySem.W.Frag) (t1 t2 : Addr) : It :=
  ⟨fun i H => ∃ xs ys x y, SqL K H t1 xs ∧ SqL K H t2 ys ∧ xs[i]? = some x ∧ ys[i]? = some y,
    fun i H x H' => ∃ p y1 y2, H p = none ∧ x = .ref p ∧ H' = upd H p (.tup [y1, y2]) ∧ (∀ xs, SqL K H t1 xs → xs[i]? = some y1) ∧ ∀ ys, SqL K H t2 ys → ys[i]? = some y2,
    fun i H => ∃ xs ys, SqL K H t1 xs ∧ SqL K H t2 ys ∧ (xs.length ≤ i ∨ ys.length ≤ i)⟩
def ZstL (z TI TO i1 i2 t1 t2 : Addr) (i : Nat) (h : Heap) : Prop := IsZip h z TI TO .none ∧ IsPair h TI (.ref i1) (.ref i2) ∧ (∃ a b, IsPair h TO a b) ∧ h.IsListIter i1 t1 i ∧ h.IsListIter i2 t2 i
theorem turn_zipL {P : Program} {w : World} {K : PySem.W.Frag} {elts : List Expr} {x1 : Nat} {pos : Pos} (z TI TO i1 i2 t1 t2 : Addr) (D0 : TI ≠ z ∧ TO ≠ z ∧ i1 ≠ z ∧ i2 ≠ z ∧ TI ≠ TO ∧ TI ≠ i1 ∧ TI ≠ i2 ∧ TO ≠ i1 ∧ TO ≠ i2 ∧ i1 ≠ i2) :
    Turn P w K (.Tuple elts x1 pos) (ItzL K t1 t2) [z, TI, TO, i1, i2] z (ZstL z TI TO i1 i2 t1 t2) where
  mem := by simp
  obj := fun i h st b hb => by
    obtain ⟨h1, h2, ⟨a, c, h3⟩, ⟨o4, h4, _, d4⟩, ⟨o5, h5, _, d5⟩⟩ := st
    simp only [List.mem_cons, List.not_mem_nil, or_false] at hb
    rcases hb with rfl | rfl | rfl | rfl | rfl
    · exact ⟨_, h1, fun v e => by have e' : Data.fields _ = Data.cell v := e; cases e'⟩
    · exact ⟨_, h2, fun v e => by have e' : Data.seq _ _ = Data.cell v := e; cases e'⟩
    · exact ⟨_, h3, fun v e => by have e' : Data.seq _ _ = Data.cell v := e; cases e'⟩
    · exact ⟨_, h4, fun v e => by rw [d4] at e; cases e⟩
    · exact ⟨_, h5, fun v e => by rw [d5] at e; cases e⟩
  keep := fun i h h' ⟨h1, h2, ⟨a, c, h3⟩, ⟨o4, h4, c4, d4⟩, ⟨o5, h5, c5, d5⟩⟩ k => ⟨k z (by simp) _ h1, k TI (by simp) _ h2, ⟨a, c, k TO (by simp) _ h3⟩, ⟨o4, k i1 (by simp) _ h4, c4, d4⟩, ⟨o5, k i2 (by simp) _ h5, c5, d5⟩⟩
  item := by
    intro X hP hw hK hc i pins s σ H E I hf st hg
    subst hP hw hK
    obtain ⟨xs, ys, x, y, hq1, hq2, hx, hy⟩ := hg
    obtain ⟨hz, hTI, ⟨a, b, hTO⟩, hi1, hi2⟩ := st
    obtain ⟨its1, r1, p1, _⟩ := I.list hq1
    obtain ⟨its2, r2, p2, _⟩ := I.list hq2
    obtain ⟨u1, hu1, ru1⟩ := r1.get hx
    obtain ⟨u2, hu2, ru2⟩ := r2.get hy
    obtain ⟨d1, d2, d3, d4, d5, d6, d7, d8, d9, d10⟩ := D0
    have ne1 : ∀ b ∈ [z, TI, TO, i1, i2], t1 ≠ b := fun b hb => sqL_ne I hq1 (hf b hb)
    have ne2 : ∀ b ∈ [z, TI, TO, i1, i2], t2 ≠ b := fun b hb => sqL_ne I hq2 (hf b hb)
    have D : ZA z TI TO i1 i2 t1 t2 := ⟨d1, d2, d3, d4, d5, d6, d7, d8, d9, d10, ne1 _ (by simp), ne1 _ (by simp), ne1 _ (by simp), ne2 _ (by simp), ne2 _ (by simp), ne2 _ (by simp)⟩
    have hT : s.TypeIs (.ref z) "zip" := ⟨_, hz, rfl⟩
    have nT : s.heap.get? s.heap.objs.size = none := Heap.get?_none_of_le (Nat.le_refl _)
    have lts : ∀ b ∈ [z, TI, TO, i1, i2], b < s.heap.objs.size := fun b hb => by
      obtain ⟨_, e4, _⟩ := hi1
      obtain ⟨_, e5, _⟩ := hi2
      simp only [List.mem_cons, List.not_mem_nil, or_false] at hb
      rcases hb with rfl | rfl | rfl | rfl | rfl
      · exact Heap.lt_size hz
      · exact Heap.lt_size hTI
      · exact Heap.lt_size hTO
      · exact Heap.lt_size e4
      · exact Heap.lt_size e5
    unfold pyNext
    refine wpAny_bind (wpAny_attempt (wpAny_callSpecial?_slot (name := Str.ofString "__next__") hT F.slot_zip_next (wpAny_call_entry F.slot_zip_next hT F.entry_zip_next
      (zn_item D (Nx.list (items := its1.toArray) (ne1 _ (by simp))) (Nx.list (items := its2.toArray) (ne2 _ (by simp))) hz hTI hTO ⟨hi1, p1.isList⟩ ⟨hi2, p2.isList⟩ (by simpa using hu1) (by simpa using hu2) fun h' a1 a2 a3 a4 a5 a6 hk => wpAny_pure ⟨_, rfl, ?_⟩) (F.args_zip_next_1 _))))
    refine wpAny_letOwnedTupleGo_zip (s := { s with heap := h' }) a1 fun h2 hz2 sb => ?_
    replace sb : Heap.SameBut z h' h2 := sb
    have zlt : z < s.heap.objs.size := lts z (by simp)
    have hT2 : h2.get? s.heap.objs.size = some { cls := .type "tuple", data := .seq #[u1, u2] } := (sb.2 _ (Nat.ne_of_gt zlt)).trans a5
    refine ⟨.ref s.heap.objs.size, upd H s.heap.objs.size (.tup [x, y]), Inv.turnedLaid (s := s) (h' := h2) (fp := [z, TI, TO, i1, i2]) (t' := s.toks) I hf (fun b v hb q => ?_) nT ?_, rfl, ⟨_, x, y, I.hok.none_of nT, rfl, rfl, fun l hl => by rw [I.list_inj hl hq1]; exact hx, fun l hl => by rw [I.list_inj hl hq2]; exact hy⟩,
      ⟨hz2, ?_, ⟨_, _, (sb.2 _ d2).trans a2⟩, ?_, ?_⟩, fun b hb => ?_⟩
    · have hbs : b ≠ z ∧ b ≠ TO ∧ b ≠ i1 ∧ b ≠ i2 := ⟨fun e => hb (by simp [e]), fun e => hb (by simp [e]), fun e => hb (by simp [e]), fun e => hb (by simp [e])⟩
      exact (sb.2 b hbs.1).trans (hk b v hbs.1 hbs.2.1 hbs.2.2.1 hbs.2.2.2 q)
    · exact ⟨by show 2 ≤ sizeLine; decide, _, .cons ru1 (.cons ru2 .nil), _, hT2, rfl, _, rfl⟩
    · exact (sb.2 _ d1).trans (hk _ _ d1 d5 d6 d7 hTI)
    · obtain ⟨o, e, r⟩ := a3.1
      exact ⟨o, (sb.2 _ d3).trans e, r⟩
    · obtain ⟨o, e, r⟩ := a4.1
      exact ⟨o, (sb.2 _ d4).trans e, r⟩
    · rw [upd_ne (Nat.ne_of_lt (lts b hb))]; exact (hf b hb).1
  done := by
    intro X hP hw hK hc i pins s σ H E I hf st hg
    subst hP hw hK
    obtain ⟨xs, ys, hq1, hq2, hend⟩ := hg
    obtain ⟨hz, hTI, ⟨a, b, hTO⟩, hi1, hi2⟩ := st
    obtain ⟨its1, r1, p1, _⟩ := I.list hq1
    obtain ⟨its2, r2, p2, _⟩ := I.list hq2
    have e1 := r1.length
    have e2 := r2.length
    obtain ⟨d1, d2, d3, d4, d5, d6, d7, d8, d9, d10⟩ := D0
    have ne1 : ∀ b ∈ [z, TI, TO, i1, i2], t1 ≠ b := fun b hb => sqL_ne I hq1 (hf b hb)
    have ne2 : ∀ b ∈ [z, TI, TO, i1, i2], t2 ≠ b := fun b hb => sqL_ne I hq2 (hf b hb)
    have D : ZA z TI TO i1 i2 t1 t2 := ⟨d1, d2, d3, d4, d5, d6, d7, d8, d9, d10, ne1 _ (by simp), ne1 _ (by simp), ne1 _ (by simp), ne2 _ (by simp), ne2 _ (by simp), ne2 _ (by simp)⟩
    have hT : s.TypeIs (.ref z) "zip" := ⟨_, hz, rfl⟩
    unfold pyNext
    refine wpAny_bind (wpAny_attempt (wpAny_callSpecial?_slot (name := Str.ofString "__next__") hT F.slot_zip_next (wpAny_call_entry F.slot_zip_next hT F.entry_zip_next
      (zn_end (show X.A.in1.handled = none from I.ok.hd hc) D (Nx.list (items := its1.toArray) (ne1 _ (by simp))) (Nx.list (items := its2.toArray) (ne2 _ (by simp))) hz hTI hTO ⟨hi1, p1.isList⟩ ⟨hi2, p2.isList⟩ ?_ fun h' e hk he => ?_) (F.args_zip_next_1 _))))
    · rcases hend with h | h
      · exact .inl (Array.getElem?_eq_none (by simp; omega))
      · exact .inr (Array.getElem?_eq_none (by simp; omega))
    · obtain ⟨o, ho, hoc⟩ := he
      refine wpAny_bind (wpAny_isInstance (T := "StopIteration") (b := true) ⟨o, ho, hoc⟩ isSubtype_stop ?_)
      refine wpAny_pure ⟨rfl, ?_⟩
      refine I.step (g' := s.gens) (d' := s.drawn) (t' := s.toks) (h' := h') (ch := [z, TI, TO, i1, i2]) (fun b hb => ⟨(hf b hb).2.2.2.1, (hf b hb).2.1, (hf b hb).2.2.2.2.1, (hf b hb).2.2.2.2.2⟩) (fun b u _ _ hc' q _ => ?_) (fun b u _ _ hc' q _ => ⟨u.slots, ?_⟩) (fun b u _ _ n => n) (fun b u hc' q => ⟨u, ?_⟩) (fun b xs q => q) (fun b u xs q => q) (fun b ps q => ⟨#[], by rw [q]; simp⟩) (fun m hm => ?_) (fun b u q => ?_) I.bare
      · exact hk b u (fun e => hc' (by simp [e])) (fun e => hc' (by simp [e])) (fun e => hc' (by simp [e])) (fun e => hc' (by simp [e])) q
      · exact hk b u (fun e => hc' (by simp [e])) (fun e => hc' (by simp [e])) (fun e => hc' (by simp [e])) (fun e => hc' (by simp [e])) q
      · exact hk b u (fun e => hc' (by simp [e])) (fun e => hc' (by simp [e])) (fun e => hc' (by simp [e])) (fun e => hc' (by simp [e])) q
      · obtain ⟨o', es, ep, ho', r⟩ := hm
        have nl : ∀ b ∈ [z, TI, TO, i1, i2], X.env.locals ≠ b := fun b hb => Ne.symm (hf b hb).2.1
        exact ⟨o', es, ep, hk _ o' (nl _ (by simp)) (nl _ (by simp)) (nl _ (by simp)) (nl _ (by simp)) ho', r⟩
      · have trk : ∀ b ∈ [z, TI, TO, i1, i2], ∀ c u, H c = some u → c ≠ b := fun b hb c u e z => by rw [z, (hf b hb).1] at e; cases e
        refine (I.hok b u q).stay (fun c v hc' e => ?_) (fun _ e => e) fun _ _ e => e
        have hcs : ∃ u', H c = some u' := by
          rcases hc' with rfl | hc'
          · exact ⟨_, q⟩
          · exact ⟨_, hc'⟩
        obtain ⟨u', hu'⟩ := hcs
        exact hk c v (trk _ (by simp) c u' hu') (trk _ (by simp) c u' hu') (trk _ (by simp) c u' hu') (trk _ (by simp) c u' hu') e
  self := fun A i s Q E st h => wpAny_pyIter_zip st.1 h
end L2
namespace L2
open PySem PySem.Spec PyProof.Rows
abbrev zq1L (h : Heap) (l1 : Addr) : Heap := h.push { cls := .type "list_iterator", data := .fields #[.ref l1, .int 0 0] }
abbrev zq2L (h : Heap) (l1 l2 : Addr) : Heap := (zq1L h l1).push { cls := .type "list_iterator", data := .fields #[.ref l2, .int 0 0] }
abbrev zq3L (h : Heap) (l1 l2 : Addr) : Heap := (zq2L h l1 l2).push { cls := .type "tuple", data := .seq #[.ref h.objs.size, .ref (zq1L h l1).objs.size] }
abbrev zq4L (h : Heap) (l1 l2 : Addr) : Heap := (zq3L h l1 l2).push { cls := .type "tuple", data := .seq #[.none, .none] }
abbrev zq5L (h : Heap) (l1 l2 : Addr) : Heap := (zq4L h l1 l2).push { cls := .type "zip", data := .fields #[.none, .bool false, .bool false, .ref (zq2L h l1 l2).objs.size, .ref (zq3L h l1 l2).objs.size] }
theorem zip_newL (l1 l2 : Addr) (xs ys : Array Value) : Meets (Builtin.«zip.__new__» ⟨[.type "zip", .ref l1, .ref l2], []⟩) (fun _ R s => Heap.IsList s.heap l1 xs ∧ Heap.IsList s.heap l2 ys ∧ R (.ok (.ret (.ref (zq4L s.heap l1 l2).objs.size))) { s with heap := zq5L s.heap l1 l2 }) :=
  .of_wp fun prog w A R s h => by
    obtain ⟨hp, g, d, tk, os⟩ := s; obtain ⟨a1, a2, h⟩ := h
    have sz := sub_zip
    have b1 : Heap.IsList (Shared.heap ⟨hp, g, d, tk, os⟩) l1 xs := a1
    have b2 : Heap.IsList (Shared.heap ⟨hp.push { cls := .type "list_iterator", data := .fields #[.ref l1, .int 0 0] }, g, d, tk, os⟩) l2 ys := Heap.IsList.push a2 _
    wp_walk using wpAny_pyIter_list b1, wpAny_pyIter_list b2
    exact ⟨_, rfl, h⟩
theorem zip_callL {prog : Program} {w : World} {A : Around} {E : Value → Shared → Prop} {s : Shared} {l1 l2 : Addr} {xs ys : Array Value} {Q : Value → Shared → Prop} (hl1 : Heap.IsList s.heap l1 xs) (hl2 : Heap.IsList s.heap l2 ys)
    (h : ∀ h', ZstL (s.heap.objs.size + 4) (s.heap.objs.size + 2) (s.heap.objs.size + 3) s.heap.objs.size (s.heap.objs.size + 1) l1 l2 0 h' → h'.objs.size = s.heap.objs.size + 5 → (∀ c o, s.heap.get? c = some o → h'.get? c = some o) → Q (.ref (s.heap.objs.size + 4)) { s with heap := h' }) :
    wpAny (model prog w) A (call (.type "zip") [.ref l1, .ref l2]) Q E s := by
  refine callType_new F.called_zip (by decide) (F.typeCall_zip_2 _ _) (F.newCall_zip_2 _ _) (fun obj => F.args_object_init_3 obj _ _) F.entry_zip_new (zip_newL l1 l2 xs ys) ⟨hl1, hl2, ?_⟩
  have z1 : (zq1L s.heap l1).objs.size = s.heap.objs.size + 1 := Heap.size_push ..
  have z2 : (zq2L s.heap l1 l2).objs.size = s.heap.objs.size + 2 := by rw [Heap.size_push, z1]
  have z3 : (zq3L s.heap l1 l2).objs.size = s.heap.objs.size + 3 := by rw [Heap.size_push, z2]
  have z4 : (zq4L s.heap l1 l2).objs.size = s.heap.objs.size + 4 := by rw [Heap.size_push, z3]
  have z5 : (zq5L s.heap l1 l2).objs.size = s.heap.objs.size + 5 := by rw [Heap.size_push, z4]
  have g5 : (zq5L s.heap l1 l2).get? (zq4L s.heap l1 l2).objs.size = some _ := Heap.get?_push_size _ rfl
  have g4 : (zq5L s.heap l1 l2).get? (zq3L s.heap l1 l2).objs.size = some _ := Heap.get?_push_of_some _ (Heap.get?_push_size _ rfl)
  have g3 : (zq5L s.heap l1 l2).get? (zq2L s.heap l1 l2).objs.size = some _ := Heap.get?_push_of_some _ (Heap.get?_push_of_some _ (Heap.get?_push_size _ rfl))
  have g2 : (zq5L s.heap l1 l2).get? (zq1L s.heap l1).objs.size = some _ := Heap.get?_push_of_some _ (Heap.get?_push_of_some _ (Heap.get?_push_of_some _ (Heap.get?_push_size _ rfl)))
  have g1 : (zq5L s.heap l1 l2).get? s.heap.objs.size = some _ := Heap.get?_push_of_some _ (Heap.get?_push_of_some _ (Heap.get?_push_of_some _ (Heap.get?_push_of_some _ (Heap.get?_push_size _ rfl))))
  show _ ∧ _
  rw [z2, z3, z4] at g5
  rw [z1, z2] at g3
  rw [z3] at g4
  rw [z1] at g2
  rw [z4]
  exact ⟨⟨_, g5, rfl⟩, h _ ⟨g5, g3, ⟨_, _, g4⟩, ⟨_, g1, rfl, rfl⟩, ⟨_, g2, rfl, rfl⟩⟩ z5 fun c o x => Heap.get?_push_of_some _ (Heap.get?_push_of_some _ (Heap.get?_push_of_some _ (Heap.get?_push_of_some _ (Heap.get?_push_of_some _ x))))⟩
def iZipL (K : PySem.W.Frag) (ta : TA) : TI := fun σ H R => ta σ H fun vs H1 => ∃ a b, vs = [.ref a, .ref b] ∧ (∃ xs, SqL K H1 a xs) ∧ (∃ ys, SqL K H1 b ys) ∧ R (ItzL K a b) H1
theorem pi_zipL {X : Cx} {a b : Expr} {ta : TA} {elts : List Expr} {x1 : Nat} {p pos pt : Pos} (hg : Gl X "zip") (hm : X.mg "zip" = none) (ha : PA X [a, b] ta) (hs : starEach [a, b] X.env = [(false, eval a X.env), (false, eval b X.env)] := by rfl)
    (he : starEach [a, b] X.env = (false, eval a X.env) :: starEach [b] X.env := by rfl) (hpl : (backTo pos (starEach [b] X.env)).any (·.1) = false := by rfl) :
    PI X (.Tuple elts x1 pt) (.Call (.Name "zip" p) [a, b] [] pos) (iZipL X.K ta) := by
  intro pins s σ H R I h
  refine wpAny_Call_Name_kw (ld_blt I hg hm bt_zip ?_ (by decide) (by decide))
  refine PyProof.Rows.callWith_type1 (thn (ha pos pins s σ H _ I h) fun us s1 ⟨vs, H1, I1, r1, l1, l2, ev, ⟨xs, hq1⟩, ⟨ys, hq2⟩, q⟩ => ?_) he hpl
  subst ev
  obtain ⟨u1, u2, rfl, ru1, ru2⟩ := vals2 r1
  cases (show u1 = Value.ref l1 from ru1)
  cases (show u2 = Value.ref l2 from ru2)
  obtain ⟨its1, r1', p1, _⟩ := I1.list hq1
  obtain ⟨its2, r2', p2, _⟩ := I1.list hq2
  refine zip_callL p1.isList p2.isList fun h' st sz kk => ?_
  refine wpAny_pyIter_zip (s := { s1 with heap := h' }) st.1 ?_
  refine ⟨s1.heap.objs.size + 4, [s1.heap.objs.size + 4, s1.heap.objs.size + 2, s1.heap.objs.size + 3, s1.heap.objs.size, s1.heap.objs.size + 1], _, _, H1, rfl, I1.kept (t' := s1.toks) kk, turn_zipL _ _ _ _ _ l1 l2 ?_, st, fun b hb => ?_, q⟩
  · generalize s1.heap.objs.size = n
    refine ⟨?_, ?_, ?_, ?_, ?_, ?_, ?_, ?_, ?_, ?_⟩ <;> (intro z; have z' : (_ : Nat) = _ := z; omega)
  · have hb' : s1.heap.objs.size ≤ b := by
      simp only [List.mem_cons, List.not_mem_nil, or_false] at hb
      rcases hb with rfl | rfl | rfl | rfl | rfl
      · exact Nat.le_add_right _ _
      · exact Nat.le_add_right _ _
      · exact Nat.le_add_right _ _
      · exact Nat.le_refl _
      · exact Nat.le_add_right _ _
    exact I1.fpOk hb' (I1.hok.fresh hb')
end L2
namespace L2
open PySem PySem.Spec PyProof.Rows
section
variable {prog : Program} {w : World} {A : Around} {E : Value → Shared → Prop} {s : Shared} {d it v : Addr} {o : Obj} {es : Array DictEntry} {i ep : Nat}
end
structure KCalleeN (P : Program) (w : World) (K : PySem.W.Frag) (mg : Str → Option Value) (base : Heap) (C : Addr) (x : Str) (k : Nat) (ps : List Str) (sp : Sp) : Prop where
  ex : ∃ f fd, FnOk P w K mg base CX0 k f fd ps sp ∧ Mk K C f ∧ mg x = some (.ref C) ∧ Binds K fd ps [Value.none]
end L2
namespace L2
open PySem PySem.Spec PyProof.Rows
section
variable {X : Cx}
theorem map_int_inj : ∀ {c d : List Int}, c.map V.int = d.map V.int → c = d
  | [], [], _ => rfl
  | [], _ :: _, h => by simp at h
  | _ :: _, [], h => by simp at h
  | a :: c, b :: d, h => by
    rw [List.map_cons, List.map_cons] at h
    injection h with h1 h2
    injection h1 with h1
    rw [h1, map_int_inj h2]
noncomputable def isT (H : Hp) (c : List Int) (u : Value) : Bool := match u with
  | .ref a => @decide (H a = some (.tup (c.map V.int))) (Classical.propDecidable _)
  | _ => false
theorem isT_of {H : Hp} {c d : List Int} {a : Addr} (h : H a = some (.tup (d.map V.int))) : isT H c (.ref a) = decide (d = c) := by
  show @decide (H a = some (.tup (c.map V.int))) (Classical.propDecidable _) = decide (d = c)
  by_cases e : d = c
  · subst e
    rw [decide_eq_true (rfl : d = d)]
    exact @decide_eq_true _ (Classical.propDecidable _) h
  · rw [decide_eq_false e]
    refine @decide_eq_false _ (Classical.propDecidable _) fun z => e ?_
    rw [h] at z
    injection z with z
    injection z with z
    exact map_int_inj z
def rInT (K : PySem.W.Frag) (neg : Bool) : R2 := fun x y H Q => ∃ (b p : Addr) (as : List Addr) (c : List Int) (cs : List (List Int)), x = .ref b ∧ y = .ref p ∧ H b = some (.tup (c.map V.int)) ∧ SqL K H p (as.map V.ref) ∧ Tups H as cs ∧ Q (.bl (if neg then !decide (c ∈ cs) else decide (c ∈ cs))) H
theorem any_isT {H : Hp} {c : List Int} : ∀ {as : List Addr} {cs : List (List Int)}, Tups H as cs → (as.map Value.ref).any (isT H c) = decide (c ∈ cs)
  | _, _, .nil => by simp
  | a :: as, d :: cs, .cons r t => by
    rw [List.map_cons, List.any_cons, isT_of r, any_isT t]
    by_cases h : d = c
    · subst h; simp
    · have : ¬ c = d := fun z => h z.symm
      simp [h, this]
theorem mem_isT {k : Nat} (hr : Room k X.A) {pins : List (Addr × Obj)} {σ : St} {H : Hp} {s : Shared} (I : Inv X pins σ H s) {b : Addr} {c : List Int} (hb : H b = some (.tup (c.map V.int))) :
    ∀ {as : List Addr} {cs : List (List Int)}, Tups H as cs → ∀ u ∈ as.map Value.ref, SeqAt.EqAt X.A.in1 s u (.ref b) (isT H c u)
  | _, _, .nil => fun u hu => by simp at hu
  | a :: as, d :: cs, .cons r t => fun u hu => by
    rw [List.map_cons] at hu
    rcases List.mem_cons.mp hu with rfl | hu
    · obtain ⟨x1, r1⟩ := (Dp.ints (K := X.K) (ns := d) (SqT.of r)).reads I (u := .ref a) rfl
      obtain ⟨x2, r2⟩ := (Dp.ints (K := X.K) (ns := c) (SqT.of hb)).reads I (u := .ref b) rfl
      have := hr.units
      have h1 := depth_tints d
      rw [isT_of r, ← eqv_tints]
      exact SeqAt.eqAt_reads _ _ _ _ _ _ _ _ r1 r2 (Dp.ints (K := X.K) (H := H) (SqT.of r)).lay (Dp.ints (K := X.K) (H := H) (SqT.of hb)).lay (by show X.A.units + 1 + _ < _; omega)
    · exact mem_isT hr I hb t u hu
theorem op_inT {k : Nat} (hr : Room k X.A) : OpR X (compareOp .In) (rInT X.K false) := by
  intro pins s σ H x y v u Q I rx ry h
  obtain ⟨b, p, as, c, cs, rfl, rfl, hb, hp, ht, q⟩ := h
  cases rx
  cases ry
  obtain ⟨its, rv, pl, hz⟩ := I.list hp
  cases vals_refs rv
  refine SeqAt.in_listAt (isT H c) pl.isList (fun w hw => mem_isT hr I hb ht w (by simpa using hw)) ⟨.bl _, H, I, rfl, ?_⟩
  rw [show (as.map Value.ref).toArray.any (isT H c) = (as.map Value.ref).any (isT H c) by simp, any_isT ht]
  exact q
theorem op_notinT {k : Nat} (hr : Room k X.A) : OpR X (compareOp .NotIn) (rInT X.K true) := by
  intro pins s σ H x y v u Q I rx ry h
  obtain ⟨b, p, as, c, cs, rfl, rfl, hb, hp, ht, q⟩ := h
  cases rx
  cases ry
  obtain ⟨its, rv, pl, hz⟩ := I.list hp
  cases vals_refs rv
  refine SeqAt.notIn_listAt (isT H c) pl.isList (fun w hw => mem_isT hr I hb ht w (by simpa using hw)) ⟨.bl _, H, I, rfl, ?_⟩
  rw [show (as.map Value.ref).toArray.any (isT H c) = (as.map Value.ref).any (isT H c) by simp, any_isT ht]
  exact q
theorem ev_notinT {ta tb : TE} {σ : St} {H : Hp} {K : PySem.W.Frag} {b p : Addr} {as : List Addr} {c : List Int} {cs : List (List Int)} (ha : Ev ta σ H (.ref b)) (hb : Ev tb σ H (.ref p)) (h1 : H b = some (.tup (c.map V.int))) (h2 : SqL K H p (as.map V.ref)) (h3 : Tups H as cs) : Ev (tOp (rInT K true) ta tb) σ H (.bl (!decide (c ∈ cs))) :=
  fun _ q => ha _ (hb _ ⟨b, p, as, c, cs, rfl, rfl, h1, h2, h3, q⟩)
end
end L2
namespace L2
open PySem PySem.Spec PyProof.Rows
section
variable {prog : Program} {w : World} {d : Addr} {es : Array DictEntry} {ep : Nat}
end
section
variable {X : Cx}
end
end L2
namespace L2
open PySem PySem.Spec PyProof.Rows
section
variable {X : Cx}
theorem kV_ints : ∀ c : List Int, (c.map Sum.inl : List Key).map kV = c.map V.int
  | [] => rfl
  | a :: c => by rw [List.map_cons, List.map_cons, List.map_cons, kV_ints c]; rfl
end
end L2
namespace L2
open PySem PySem.Spec PyProof.Rows
section
variable {prog : Program} {w : World} {κ : Type} [DecidableEq κ] {knd : HeapKind prog w κ} {A : Around} {E : Value → Shared → Prop} {s : Shared}
end
section
variable {X : Cx}
end
theorem op_notinTK {X : Cx} {K : PySem.W.Frag} {k : Nat} (e : X.K = K) (hr : Room k X.A) : OpR X (compareOp .NotIn) (rInT K true) := by subst e; exact op_notinT hr
theorem lc_keys {d : Addr} {o : Obj} {u : HO} {σ0 : St} {g : TG} {tt : TT} {te : TE} {H1 : Hp} {D : Addr} {Q : Hp → Prop} (Pv : Nat → St → Hp → Prop) (h0 : Pv 0 σ0 (upd H1 D (.lst []))) (hl : ∀ i τ H, i ≤ szU u → Pv i τ H → H d = some (.frz o u))
    (hs : ∀ i x v τ H, KeyAt H u i x v → i < szU u → Pv i τ H → g x τ H fun τ2 H2 => tt τ2 H2 fun b H3 => if b = true then te τ2 H3 fun v H4 => ∃ acc, H4 D = some (.lst acc) ∧ acc.length < sizeLine ∧ Pv (i + 1) τ2 (upd H4 D (.lst (acc ++ [v]))) else Pv (i + 1) τ2 H3)
    (hd : ∀ τ H, Pv (szU u) τ H → Q H) : lcW σ0 g tt te (Itk d o u) H1 D Q := by
  refine ⟨fun i m τ H => m = szU u - i ∧ i ≤ szU u ∧ Pv i τ H, ⟨szU u, by simp, Nat.zero_le _, h0⟩, ?_⟩
  rintro i m τ H ⟨rfl, hi, p⟩
  have q := hl i τ H hi p
  by_cases hlt : i < szU u
  · refine .inr ⟨⟨q, hlt⟩, Pv (i + 1), fun τ' H' p' => ⟨szU u - (i + 1), by omega, rfl, hlt, p'⟩, fun x H' y => ?_⟩
    obtain ⟨e, v, k⟩ := y
    subst e
    exact hs i x v τ _ k hlt p
  · have e : i = szU u := by omega
    subst e
    exact .inl ⟨⟨q, Nat.le_refl _⟩, hd τ H p⟩
section
open PySem.SeqAt
open PySem.AutoSeq1 (wpAny_loadPart')
open PySem.MeetsSeq PySem.MeetsSeq2 PySem.MeetsSeq3
end
section
variable {prog : Program} {w : World} {A : Around} {E : Value → Shared → Prop} {s : Shared}
end
end L2
namespace L2
open PySem PySem.Spec PyProof.Rows
section
variable {prog : Program} {w : World} {A : Around} {R : Result → Shared → Prop} {it : Addr} {fp wr : List Addr} {P : Nat → Value → Prop} {St : Nat → Heap → Prop}
end
section
variable {prog : Program} {w : World} {A : Around} {E : Value → Shared → Prop} {s : Shared}
end
section
variable {X : Cx}
end
section
variable {prog : Program} {w : World} {A : Around} {R : Result → Shared → Prop} {it : Addr} {fp wr : List Addr} {P : Nat → Value → Prop} {St : Nat → Heap → Prop}
end
section
variable {prog : Program} {w : World} {A : Around} {E : Value → Shared → Prop} {s : Shared}
end
section
variable {X : Cx}
end
end L2
namespace L2
open PySem PySem.Spec PyProof.Rows
abbrev IPr := List Int × List Int
abbrev Prs2 (H : Hp) (as : List Addr) (ls : List IPr) : Prop := Paired (fun a (e : IPr) => ∃ x y, H a = some (.tup [.ref x, .ref y]) ∧ H x = some (.tup (e.1.map V.int)) ∧ H y = some (.tup (e.2.map V.int))) as ls
theorem Prs2.at {H : Hp} : ∀ {as : List Addr} {cs : List IPr} {i : Nat} {a : Addr}, Prs2 H as cs → as[i]? = some a → ∃ c x y, cs[i]? = some c ∧ H a = some (.tup [.ref x, .ref y]) ∧ H x = some (.tup (c.1.map V.int)) ∧ H y = some (.tup (c.2.map V.int))
  | _, _, 0, _, .cons (b := c) h t, e => by cases e; obtain ⟨x, y, h1, h2, h3⟩ := h; exact ⟨c, x, y, rfl, h1, h2, h3⟩
  | _, _, i + 1, _, .cons h t, e => Prs2.at (i := i) t e
  | _, _, _, _, .nil, e => by simp at e
theorem Prs2.same {H H' : Hp} {as : List Addr} {cs : List IPr} (h : Prs2 H as cs) (e : Same H H') : Prs2 H' as cs := Paired.mapP h fun _ _ ⟨x, y, h1, h2, h3⟩ => ⟨x, y, e _ _ h1, e _ _ h2, e _ _ h3⟩
theorem Prs2.tups {H H' : Hp} {as : List Addr} {cs : List IPr} (h : Prs2 H as cs) (e : ∀ b xs, H b = some (.tup xs) → H' b = some (.tup xs)) : Prs2 H' as cs := Paired.mapP h fun _ _ ⟨x, y, h1, h2, h3⟩ => ⟨x, y, e _ _ h1, e _ _ h2, e _ _ h3⟩
def dtE (e : IPr) : PyData := .tuple [.tuple (e.1.map PyData.int), .tuple (e.2.map PyData.int)]
theorem Prs2.dp {K : PySem.W.Frag} {H : Hp} {a x y : Addr} {e : IPr} (h1 : H a = some (.tup [.ref x, .ref y])) (h2 : H x = some (.tup (e.1.map V.int))) (h3 : H y = some (.tup (e.2.map V.int))) : Dp K H (.ref a) (dtE e) :=
  .tup (SqT.of h1) (.cons (Dp.ints (SqT.of h2)) (.cons (Dp.ints (SqT.of h3)) .nil))
theorem Prs2.dps {K : PySem.W.Frag} {H : Hp} : ∀ {as : List Addr} {cs : List IPr}, Prs2 H as cs → Dps K H (as.map V.ref) (cs.map dtE)
  | _, _, .nil => .nil
  | _, _, .cons ⟨_, _, h1, h2, h3⟩ t => .cons (Prs2.dp h1 h2 h3) (Prs2.dps t)
section
variable {X : Cx}
end
end L2
namespace L2
open PySem PySem.Spec PyProof.Rows
end L2
namespace L2
open PySem PySem.Spec PyProof.Rows
def exO (a : Addr) (o : Obj) : HO := .ext fun h => h.get? a = some o
theorem exO_ok {P : Program} {w : World} {H : Hp} {h : Heap} {a : Addr} {o : Obj} (e : h.get? a = some o) : ObjOk P w H h a (exO a o) := ⟨e, ⟨o, e⟩, fun _ _ e1 k => k _ e1⟩
end L2
namespace L2
open PySem PySem.Spec PyProof.Rows
structure LamScope (ps : List Str) (clos : List (Str × Addr)) (scope : Scope) : Prop where
  kind : scope.kind = .function
  co : scope.isCoroutine = false
  gen : scope.isGenerator = false
  nocell : ∀ x ∈ scope.names, x.2 ≠ .cell
  par : ∀ x ∈ ps, scope.names.lookup x = some .local
  free : ∀ x, scope.names.lookup x = some .free → ∃ c, clos.lookup x = some c
  fr : ∀ x ∈ clos.map (·.1), scope.names.lookup x = some .free
  nd : (ps ++ clos.map (·.1)).Nodup
  inj : ∀ x y c, clos.lookup x = some c → clos.lookup y = some c → x = y
end L2
namespace L2
open PySem PySem.Spec PyProof.Rows
end L2
namespace L2
open PySem PySem.Spec PyProof.Rows
theorem hok_own {P : Program} {w : World} {H : Hp} {h : Heap} {c : Addr} {o : Obj} (ok : HOk P w H h) (hc : H c = none) (ho : h.get? c = some o) : HOk P w (upd H c (exO c o)) h := fun a u e => by
  by_cases ha : a = c
  · subst ha
    rw [upd_same] at e; cases e
    exact exO_ok ho
  · rw [upd_ne ha] at e
    exact (ok a u e).stay (fun _ _ _ z => z) (fun b z => by rw [upd_ne (ne_of_none z hc)]; exact z) (fun b xs z => by rw [upd_ne (ne_of_none z hc)]; exact z)
theorem Env0.own {P : Program} {w : World} {K : PySem.W.Frag} {mg : Str → Option Value} {base : Heap} {A : Around} {outer : List Env} {s : Shared} {H : Hp} {c : Addr} {o : Obj} (e : Env0 P w K mg base A outer s H) (hc : H c = none) (ho : s.heap.get? c = some o) (nb : base.get? c = none) (nf : c ∉ frs outer) :
    Env0 P w K mg base A outer s (upd H c (exO c o)) :=
  ⟨e.frames, e.mod, fun b ob z => ⟨(e.bs b ob z).1, by rw [upd_ne (fun q => by rw [q, nb] at z; cases z)]; exact (e.bs b ob z).2⟩, e.bsz, e.funs, fun b hb => by rw [upd_ne (fun (q : b = c) => nf (by rw [← q]; exact hb))]; exact e.frf b hb, hok_own e.hok hc ho, e.bare⟩
section
variable {X : Cx} {pins : List (Addr × Obj)} {σ : St} {H : Hp} {s : Shared}
end
section
variable {M : Model} {A : Around} {E : Value → Shared → Prop} {s : Shared} {env : Env} {pos : Pos} {f : Addr} {Q : Value → Shared → Prop}
end
section
variable {X : Cx}
end
end L2
namespace L2
open PySem PySem.Spec PyProof.Rows
section
variable {X : Cx}
end
end L2
namespace L2
open PySem PySem.Spec PyProof.Rows
section
variable {P : Program} {w : World} {K : PySem.W.Frag} {mg : Str → Option Value} {base : Heap}
end
end L2
namespace L2
open PySem PySem.Spec PyProof.Rows
end L2
namespace L2
open PySem PySem.Spec PyProof.Rows
namespace TabA
open SetTable
variable (t : SetTable) (hashAt : Nat → Int) (h : Int)
def lp (p : Probe) : Probe := { p with j := (leap t.mask p.i p.perturb).1, more := runEnd t.mask (leap t.mask p.i p.perturb).1 - (leap t.mask p.i p.perturb).1, i := (leap t.mask p.i p.perturb).1, perturb := (leap t.mask p.i p.perturb).2 }
def Good (N : Nat) (p : Probe) : Prop := ∀ f, N ≤ f → ∃ j, probe.go t hashAt h f p = some (.empty j none)
variable {t hashAt h}
theorem Good.mono {N M : Nat} {p : Probe} (g : Good t hashAt h N p) (l : N ≤ M) : Good t hashAt h M p := fun f hf => g f (Nat.le_trans l hf)
theorem slot_live {j i : Nat} (e : t.slot j = .live i) : i < t.place.size := by
  unfold slot at e
  dsimp only at e
  split at e
  · rename_i q
    injection e with e
    subst e
    have q' := beq_iff_eq.mp q
    exact (Array.getElem?_eq_some_iff.mp q').1
  · split at e <;> cases e
theorem slot_nodummy {j : Nat} (hd : t.dummies = #[]) : t.slot j ≠ .dummy := by
  unfold slot
  dsimp only
  split
  · intro z; cases z
  · rw [hd]
    split
    · rename_i q
      unfold has at q
      simp at q
    · intro z; cases z
theorem slot_free {j : Nat} (hd : t.dummies = #[]) (hj : j ∉ t.place) : t.slot j = .empty := by
  cases e : t.slot j with
  | empty => rfl
  | dummy => exact (slot_nodummy hd e).elim
  | live i =>
    unfold slot at e
    dsimp only at e
    split at e
    · rename_i q
      have q' := beq_iff_eq.mp q
      exact (hj (Array.mem_of_getElem? q')).elim
    · split at e <;> cases e
theorem good_empty {p : Probe} (hp : p.dummy = none) (e : t.slot p.j = .empty) : Good t hashAt h 1 p := by
  intro f hf
  obtain ⟨f, rfl⟩ : ∃ g, f = g + 1 := ⟨f - 1, by omega⟩
  refine ⟨p.j, ?_⟩
  unfold probe.go
  rw [e]
  dsimp only
  rw [hp]
theorem good_step {N : Nat} {p : Probe} (hd : t.dummies = #[]) (hne : ∀ i, i < t.place.size → hashAt i ≠ h) (hp : p.dummy = none) (g : Good t hashAt h N (t.advance p)) : Good t hashAt h (N + 1) p := by
  intro f hf
  obtain ⟨f, rfl⟩ : ∃ g, f = g + 1 := ⟨f - 1, by omega⟩
  unfold probe.go
  cases e : t.slot p.j with
  | empty => exact ⟨p.j, by dsimp only; rw [hp]⟩
  | dummy => exact (slot_nodummy hd e).elim
  | live i =>
    dsimp only
    rw [if_neg (by simpa using hne i (slot_live e))]
    exact g f (by omega)
theorem good_run (hd : t.dummies = #[]) (hne : ∀ i, i < t.place.size → hashAt i ≠ h) : ∀ (m N : Nat) (p : Probe), p.more = m → p.dummy = none → Good t hashAt h N (lp t p) → Good t hashAt h (N + (m + 1)) p := by
  intro m
  induction m with
  | zero =>
    intro N p hm hp g
    refine good_step hd hne hp ?_
    have e : t.advance p = lp t p := by unfold advance; rw [if_neg (by omega)]; rfl
    rw [e]; exact g
  | succ m ih =>
    intro N p hm hp g
    have e : t.advance p = { p with j := p.j + 1, more := m } := by unfold advance; rw [if_pos (by omega), hm]; rfl
    refine good_step (N := N + (m + 1)) hd hne hp ?_
    rw [e]
    exact ih N _ rfl hp g
theorem run_le (m i : Nat) : runEnd m i - i ≤ 9 := by unfold runEnd; split <;> omega
def nth (t : SetTable) (h : Int) : Nat → Probe
  | 0 => t.probeStart h
  | n + 1 => lp t (nth t h n)
theorem nth_dummy : ∀ n, (nth t h n).dummy = none
  | 0 => rfl
  | n + 1 => nth_dummy n
theorem nth_more : ∀ n, (nth t h n).more ≤ 9
  | 0 => run_le _ _
  | _ + 1 => run_le _ _
theorem nth_j : ∀ n, (nth t h n).j = (nth t h n).i
  | 0 => rfl
  | _ + 1 => rfl
theorem good_nth (hd : t.dummies = #[]) (hne : ∀ i, i < t.place.size → hashAt i ≠ h) : ∀ (n k : Nat), t.slot (nth t h (k + n)).j = .empty → Good t hashAt h (1 + 10 * n) (nth t h k)
  | 0, k, e => good_empty (nth_dummy k) e
  | n + 1, k, e => by
    have g : Good t hashAt h (1 + 10 * n) (nth t h (k + 1)) := good_nth hd hne n (k + 1) (by rw [show k + 1 + n = k + (n + 1) by omega]; exact e)
    have := good_run hd hne _ _ (nth t h k) rfl (nth_dummy k) g
    exact this.mono (by have := nth_more (t := t) (h := h) k; omega)
theorem bits_lt (h : Int) : bits h < 2 ^ 64 := by unfold bits; omega
theorem nth_pert : ∀ n, (nth t h n).perturb = bits h / 32 ^ n
  | 0 => by show bits h = _; simp
  | n + 1 => by
    show (nth t h n).perturb / 32 = _
    rw [nth_pert n, Nat.div_div_eq_div_mul, Nat.pow_succ]
theorem nth_i (n : Nat) : (nth t h (n + 1)).i = ((nth t h n).i * 5 + 1 + bits h / 32 ^ (n + 1)) % (t.mask + 1) := by
  show ((nth t h n).i * 5 + 1 + (nth t h n).perturb / 32) % (t.mask + 1) = _
  rw [nth_pert n, Nat.div_div_eq_div_mul, Nat.pow_succ]
theorem pert0 {n : Nat} (hn : 13 ≤ n) : bits h / 32 ^ n = 0 := by
  refine Nat.div_eq_of_lt (Nat.lt_of_lt_of_le (bits_lt h) ?_)
  exact Nat.le_trans (by decide : 2 ^ 64 ≤ 32 ^ 13) (Nat.pow_le_pow_right (by decide) hn)
def it (M : Nat) : Nat → Nat → Nat
  | 0, a => a
  | k + 1, a => (it M k a * 5 + 1) % M
theorem nth_it : ∀ k, (nth t h (12 + k)).i = it (t.mask + 1) k (nth t h 12).i
  | 0 => rfl
  | k + 1 => by
    show (nth t h (12 + k + 1)).i = _
    rw [nth_i, pert0 (by omega), nth_it k]
    rfl
theorem it8 : ∀ a < 8, ∀ j < 8, ∃ k, k < 8 ∧ it 8 k a = j := by decide +kernel
theorem it32 : ∀ a < 32, ∀ j < 32, ∃ k, k < 32 ∧ it 32 k a = j := by decide +kernel
theorem nth_lt : ∀ n, (nth t h n).i < t.mask + 1
  | 0 => Nat.mod_lt _ (Nat.succ_pos _)
  | n + 1 => by rw [nth_i]; exact Nat.mod_lt _ (Nat.succ_pos _)
theorem all_met (hm : t.mask = 7 ∨ t.mask = 31) {j : Nat} (hj : j < t.mask + 1) : ∃ n, n < 13 + t.mask ∧ (nth t h n).i = j := by
  have l := nth_lt (t := t) (h := h) 12
  rcases hm with e | e
  · rw [e] at hj l ⊢
    obtain ⟨k, hk, q⟩ := it8 _ l j hj
    exact ⟨12 + k, by omega, by rw [nth_it, e]; exact q⟩
  · rw [e] at hj l ⊢
    obtain ⟨k, hk, q⟩ := it32 _ l j hj
    exact ⟨12 + k, by omega, by rw [nth_it, e]; exact q⟩
theorem nodup_le : ∀ {l m : List Nat}, l.Nodup → (∀ x ∈ l, x ∈ m) → l.length ≤ m.length
  | [], m, _, _ => Nat.zero_le _
  | a :: l, m, hn, hs => by
    have ha := hs a List.mem_cons_self
    have := nodup_le (l := l) (m := m.erase a) (List.nodup_cons.mp hn).2 fun x hx => (List.mem_erase_of_ne (fun (e : x = a) => (List.nodup_cons.mp hn).1 (e ▸ hx))).mpr (hs x (List.mem_cons_of_mem _ hx))
    rw [List.length_erase_of_mem ha] at this
    have := List.length_pos_of_mem ha
    simp only [List.length_cons]
    omega
theorem some_free (_hd : t.dummies = #[]) (hs : t.place.size ≤ t.mask) : ∃ j, j < t.mask + 1 ∧ j ∉ t.place := by
  by_cases q : ∀ j, j < t.mask + 1 → j ∈ t.place
  · exfalso
    have := nodup_le (l := List.range (t.mask + 1)) (m := t.place.toList) List.nodup_range fun j hj => Array.mem_toList_iff.mpr (q j (List.mem_range.mp hj))
    simp at this
    omega
  · simp only [Classical.not_forall] at q
    obtain ⟨j, h1, h2⟩ := q
    exact ⟨j, h1, h2⟩
theorem probe_new (hm : t.mask = 7 ∨ t.mask = 31) (hd : t.dummies = #[]) (hs : t.place.size ≤ t.mask) (hne : ∀ i, i < t.place.size → hashAt i ≠ h) : ∃ j, t.probe hashAt h (t.probeStart h) = some (.empty j none) := by
  obtain ⟨j, hj, fr⟩ := some_free hd hs
  obtain ⟨n, hn, e⟩ := all_met (h := h) hm hj
  have := good_nth (h := h) hd hne n 0 (by rw [Nat.zero_add, nth_j, e]; exact slot_free hd fr)
  exact this _ (by unfold turns; omega)
def cnt (o : Array (Option Nat)) : Nat := o.toList.countP Option.isSome
structure Ow (o : Array (Option Nat)) (k : Nat) : Prop where
  sz : o.size = 32
  ct : cnt o = k
  lt : ∀ (j v : Nat), o[j]? = some (some v) → v < k
theorem ow_free {o : Array (Option Nat)} {k : Nat} (w : Ow o k) (hk : k < 32) : ∃ j, j < 32 ∧ o.getD j (some 0) = none := by
  by_cases q : ∀ j, j < 32 → o.getD j (some 0) ≠ none
  · exfalso
    have : o.toList.countP Option.isSome = o.toList.length := by
      refine List.countP_eq_length.mpr fun v hv => ?_
      obtain ⟨j, hj, e⟩ := List.mem_iff_getElem.mp hv
      have hj' : j < o.size := by simpa using hj
      have := q j (by rw [← w.sz]; exact hj')
      rw [Array.getD_eq_getD_getElem?, Array.getElem?_eq_getElem hj'] at this
      have e' : o[j] = v := by simpa using e
      rw [e'] at this
      cases v with
      | none => exact (this rfl).elim
      | some _ => rfl
    have h1 := w.ct
    unfold cnt at h1
    rw [this, Array.length_toList, w.sz] at h1
    omega
  · simp only [Classical.not_forall, Classical.not_not] at q
    obtain ⟨j, h1, h2⟩ := q
    exact ⟨j, h1, h2⟩
theorem free_some {o : Array (Option Nat)} : ∀ (f i p : Nat), (∃ n, n < f ∧ ∃ j, o.getD j (some 0) = none ∧ j = (Nat.rec (motive := fun _ => Nat × Nat) (i, p) (fun _ q => leap 31 q.1 q.2) n).1) → ∃ j, layClean.free 31 o f i p = some j ∧ o.getD j (some 0) = none := by
  intro f
  induction f with
  | zero => intro i p ⟨n, hn, _⟩; omega
  | succ f ih =>
    intro i p ⟨n, hn, j, hj, e⟩
    unfold layClean.free
    cases q : (List.range (runEnd 31 i + 1 - i)).find? fun k => (o.getD (i + k) (some 0)).isNone with
    | some k =>
      exact ⟨i + k, rfl, by have := List.find?_some q; simpa using this⟩
    | none =>
      dsimp only
      cases n with
      | zero =>
        exfalso
        have e : j = i := e
        have := List.find?_eq_none.mp q 0 (List.mem_range.mpr (by unfold runEnd; split <;> omega))
        rw [Nat.add_zero, ← e, hj] at this
        exact this rfl
      | succ n =>
        refine ih _ _ ⟨n, by omega, j, hj, e.trans ?_⟩
        have aux : ∀ n, (Nat.rec (motive := fun _ => Nat × Nat) (i, p) (fun _ q => leap 31 q.1 q.2) (n + 1) : Nat × Nat) = Nat.rec (motive := fun _ => Nat × Nat) ((leap 31 i p).1, (leap 31 i p).2) (fun _ q => leap 31 q.1 q.2) n := by
          intro n
          induction n with
          | zero => rfl
          | succ n ih => show leap 31 _ _ = leap 31 _ _; rw [← ih]
        rw [aux]
def t31 : SetTable := { mask := 31, place := #[], dummies := #[], finger := 0, led := true, moves := 0, plain := true }
theorem rec_nth (h : Int) : ∀ n, (Nat.rec (motive := fun _ => Nat × Nat) (bits h % 32, bits h) (fun _ q => leap 31 q.1 q.2) n : Nat × Nat) = ((nth t31 h n).i, (nth t31 h n).perturb)
  | 0 => rfl
  | n + 1 => by show leap 31 _ _ = _; rw [rec_nth h n]; rfl
theorem free_new {o : Array (Option Nat)} {k : Nat} (w : Ow o k) (hk : k < 32) (h : Int) : ∃ j, layClean.free 31 o (turns 31) (bits h % (31 + 1)) (bits h) = some j ∧ j < 32 ∧ o[j]? = some none := by
  obtain ⟨j, hj, e⟩ := ow_free w hk
  obtain ⟨n, hn, q⟩ := all_met (t := t31) (h := h) (.inr rfl) (j := j) hj
  obtain ⟨j', h1, h2⟩ := free_some (o := o) (turns 31) (bits h % 32) (bits h) ⟨n, by unfold turns; have : t31.mask = 31 := rfl; omega, j, e, by rw [rec_nth]; exact q.symm⟩
  refine ⟨j', h1, ?_⟩
  rw [Array.getD_eq_getD_getElem?] at h2
  cases z : o[j']? with
  | none => rw [z] at h2; cases h2
  | some v =>
    rw [z] at h2
    have lt := (Array.getElem?_eq_some_iff.mp z).1
    rw [w.sz] at lt
    exact ⟨lt, congrArg some h2⟩
theorem ow_put {o : Array (Option Nat)} {k j : Nat} (w : Ow o k) (hj : j < 32) (e : o[j]? = some none) : Ow (o.setIfInBounds j (some k)) (k + 1) where
  sz := by simpa using w.sz
  ct := by
    have h1 := w.ct
    unfold cnt at h1 ⊢
    obtain ⟨l, e'⟩ := Array.getElem?_eq_some_iff.mp e
    rw [Array.toList_setIfInBounds, List.countP_set (by simpa using l), h1]
    simp [e']
  lt := fun i v q => by
    rw [Array.getElem?_setIfInBounds] at q
    split at q
    · split at q
      · injection q with q; injection q with q; omega
      · cases q
    · have := w.lt i v q; omega
theorem lay_fold : ∀ (hs : List Int) (o : Array (Option Nat)) (k : Nat), Ow o k → k + hs.length ≤ 32 → ∃ o', (hs.foldl (init := some (o, k)) fun acc h => do
    let (owner, k) ← acc
    let j ← layClean.free 31 owner (turns 31) (bits h % (31 + 1)) (bits h)
    pure (owner.setIfInBounds j (some k), k + 1)) = some (o', k + hs.length) ∧ Ow o' (k + hs.length)
  | [], o, k, w, _ => ⟨o, rfl, w⟩
  | h :: hs, o, k, w, l => by
    simp only [List.length_cons] at l
    obtain ⟨j, e, hj, f⟩ := free_new w (by omega) h
    obtain ⟨o', h1, h2⟩ := lay_fold hs _ _ (ow_put w hj f) (by omega)
    refine ⟨o', ?_, by rw [List.length_cons, show k + (hs.length + 1) = k + 1 + hs.length by omega]; exact h2⟩
    rw [List.foldl_cons, List.length_cons, show k + (hs.length + 1) = k + 1 + hs.length by omega, ← h1]
    congr 1
    show (layClean.free 31 o (turns 31) (bits h % (31 + 1)) (bits h) >>= _) = _
    rw [e]
    rfl
theorem laid_some (finger moves : Nat) (led plain : Bool) (hs : Array Int) (hl : hs.size ≤ 32) : ∃ t order, laid 31 finger moves led plain hs = some (t, order) ∧ t.mask = 31 ∧ t.dummies = #[] ∧ t.place.size = hs.size ∧ order.size = hs.size ∧ ∀ k ∈ order, k < hs.size := by
  obtain ⟨o, h1, w⟩ := lay_fold hs.toList (Array.replicate 32 none) 0 ⟨by simp, by decide +kernel, fun j v e => by
    rw [Array.getElem?_replicate] at e
    split at e <;> simp at e⟩ (by simpa using hl)
  have ec : layClean 31 hs = some o := by
    unfold layClean
    rw [← Array.foldl_toList]
    rw [show (31 : Nat) + 1 = 32 from rfl] at h1 ⊢
    rw [h1]
    rfl
  have cl : ((List.range (31 + 1)).filterMap fun j => (o.getD j none).map (j, ·)).length = hs.size := by
    rw [List.length_filterMap_eq_countP]
    have e1 : o.toList = (List.range 32).map (fun j => o.getD j none) := by
      refine List.ext_getElem? fun j => ?_
      rw [List.getElem?_map, Array.getElem?_toList]
      by_cases hj : j < 32
      · rw [List.getElem?_range hj]
        have : j < o.size := by rw [w.sz]; exact hj
        simp [Array.getElem?_eq_getElem this]
      · have : ¬ j < o.size := by rw [w.sz]; exact hj
        rw [Array.getElem?_eq_none (by omega)]
        rw [List.getElem?_eq_none (by simpa using hj)]
        rfl
    have h2 := w.ct
    unfold cnt at h2
    rw [e1, List.countP_map] at h2
    simp only [Nat.zero_add, Array.length_toList] at h2
    rw [← h2]
    congr 1
    funext j
    simp
  refine ⟨_, _, by unfold laid; rw [ec]; rfl, rfl, rfl, ?_, ?_, ?_⟩
  · simpa using cl
  · simpa using cl
  · intro k hk
    simp only [List.mem_toArray, List.mem_map, List.mem_filterMap] at hk
    obtain ⟨⟨j, k'⟩, ⟨j', hj', e⟩, rfl⟩ := hk
    cases q : o.getD j' none with
    | none => rw [q] at e; cases e
    | some v =>
      rw [q] at e
      simp at e
      obtain ⟨rfl, rfl⟩ := e
      rw [Array.getD_eq_getD_getElem?] at q
      have : o[j']? = some (some v) := by
        cases z : o[j']? with
        | none => rw [z] at q; cases q
        | some u => rw [z] at q; exact congrArg some q
      have := w.lt _ _ this
      simpa using this
end TabA
def addT2 (t : SetTable) (es : Array (Int × Value)) (h : Int) (x : Value) : Option (SetTable × Array (Int × Value)) :=
  if t.gaveWay = true then none else
  match t.probe (hAt es) h (t.probeStart h) with
  | some (.empty j none) => if (t.put j).1.fits (SetTable.insertAt es (t.put j).2 (h, x)).size = true then
      (if (t.put j).1.tooFull = true then
        (match (t.put j).1.relaid ((SetTable.insertAt es (t.put j).2 (h, x)).map (·.1)) (SetTable.grown (es.size + 1)) with
        | some (t2, order) => if (order.filterMap ((SetTable.insertAt es (t.put j).2 (h, x))[·]?)).size = (SetTable.insertAt es (t.put j).2 (h, x)).size then some (t2, order.filterMap ((SetTable.insertAt es (t.put j).2 (h, x))[·]?)) else none
        | none => none)
      else some ((t.put j).1, SetTable.insertAt es (t.put j).2 (h, x))) else none
  | _ => none
section
variable {prog : Program} {w : World} {A : Around} {E : Value → Shared → Prop} {s : Shared}
theorem relay_of {a : Addr} {o : Obj} {es : Array (Int × Value)} {ep wanted : Nat} {t t2 : SetTable} {order : Array Nat} {Q : Unit → Shared → Prop} (ho : s.heap.get? a = some o) (hd : o.data = .set es ep t) (hf : t.fits es.size = true) (hw : SetTable.sizeAbove wanted ≤ sizeLine)
    (e : t.relaid (es.map (·.1)) wanted = some (t2, order)) (hz : (order.filterMap (es[·]?)).size = es.size) (hs : es.size < 1000) (h : Q () { s with heap := s.heap.update a (Obj.putSet (order.filterMap (es[·]?)) t2) }) :
    wpAny (model prog w) A (setRelay a wanted) Q E s := by
  unfold setRelay
  refine wpAny_bind (wpAny_setState_of ho hd hf ?_)
  dsimp only
  rw [if_neg (by omega), e]
  refine wpAny_bind ?_
  show wpAny _ _ (if ((order.filterMap (es[·]?)).size != es.size) = true then _ else _) _ _ _
  rw [if_neg (by simp [hz])]
  refine wpAny_pure ?_
  dsimp only
  exact wpAny_storeSet_of ho hd h (by have : sizeLine = 2 ^ 24 := rfl; omega)
theorem setAdd_free2 {K : Type} [DecidableEq K] {knd : HeapKind prog w K} {a b : Addr} {k : K} {o : Obj} {es es' : Array (Int × Value)} {ep : Nat} {t t' : SetTable} {Q : Bool → Shared → Prop} (hr : knd.room A) (hk : knd.is s.heap k b) (ho : s.heap.get? a = some o) (hd : o.data = .set es ep t) (hf : t.fits es.size = true) (hz : es'.size < 1000) (hsz : es.size < 999)
    (hv : ∀ (tk : Nat) (Q' : Bool → Shared → Prop), Q' true { s with toks := tk } → wpAny (model prog w) A (hashByValue 8 (.ref b)) Q' E { s with toks := tk })
    (e : addT2 t es (knd.hash k) (.ref b) = some (t', es')) (hsa : SetTable.sizeAbove (SetTable.grown (es.size + 1)) ≤ sizeLine)
    (h : ∀ h' ep', Heap.SameBut a s.heap h' → h'.get? a = some { o with data := .set es' ep' t' } → Q true { s with heap := h', toks := s.toks + knd.draws k }) :
    wpAny (model prog w) A (setAdd a (.ref b)) Q E s := by
  unfold addT2 at e
  split at e
  · cases e
  · rename_i hg
    split at e
    · rename_i j hp
      split at e
      · rename_i hfit
        have hiz : (SetTable.insertAt es (t.put j).2 (knd.hash k, Value.ref b)).size = es.size + 1 := by
          have := (SetTable.insertAt_perm es (t.put j).2 (knd.hash k, Value.ref b)).length_eq
          simpa using this
        unfold setAdd
        refine wpAny_holding (wpAny_bind (knd.pyHash hr hk ?_))
        unfold setAddHashed
        refine wpAny_holding ?_
        show wpAny _ _ (setAddHashedIn a (.ref b) (knd.hash k) (99999 + 1)) _ _ _
        unfold setAddHashedIn
        refine wpAny_bind (wpAny_setState_of (s := { s with toks := s.toks + knd.draws k }) ho hd hf ?_)
        dsimp only
        rw [if_neg (show ¬ byScan (.ref b) es = true by simp [byScan, Value.scannable])]
        refine wpAny_bind ?_
        unfold setSearch
        show wpAny _ _ (setSearchFrom a (.ref b) (knd.hash k) true (99999 + 1) none) _ _ _
        unfold setSearchFrom
        refine wpAny_bind (wpAny_setState_of (s := { s with toks := s.toks + knd.draws k }) ho hd hf ?_)
        dsimp only
        rw [if_neg hg]
        split
        · rename_i met hm
          have em : met = .empty j none := Option.some.inj (hm.symm.trans hp)
          subst em
          dsimp only
          refine wpAny_pure ?_
          dsimp only
          refine wpAny_bind (wpAny_setState_of (s := { s with toks := s.toks + knd.draws k }) ho hd hf ?_)
          dsimp only
          have tail : wpAny (model prog w) A (storeSet a (SetTable.insertAt es (t.put j).2 (knd.hash k, .ref b)) (t.put j).1 >>= fun _ => if (!false && (t.put j).1.tooFull) = true then (setRelay a (SetTable.grown (es.size + 1)) >>= fun _ => pure true) else pure true) Q E { s with toks := s.toks + knd.draws k } := by
            refine wpAny_bind (wpAny_storeSet_of (s := { s with toks := s.toks + knd.draws k }) ho hd ?_ (by have : sizeLine = 2 ^ 24 := rfl; omega))
            have g1 := Heap.get?_update_self (Obj.putSet (SetTable.insertAt es (t.put j).2 (knd.hash k, .ref b)) (t.put j).1) ho (by rw [putSet_of _ _ hd]; rfl)
            rw [putSet_of _ _ hd] at g1
            split at e
            · rename_i hfull
              rw [if_pos (by simpa using hfull)]
              split at e
              · rename_i t2 order hrl
                split at e
                · rename_i hq
                  injection e with e
                  injection e with e1 e2
                  subst e1 e2
                  refine wpAny_bind (relay_of (s := { s with heap := _, toks := s.toks + knd.draws k }) g1 rfl hfit hsa hrl hq (by omega) ?_)
                  refine wpAny_pure (h _ (ep + 1 + 1) ((Heap.SameBut.update ..).trans (Heap.SameBut.update ..)) ?_)
                  have := Heap.get?_update_self (Obj.putSet (order.filterMap ((SetTable.insertAt es (t.put j).2 (knd.hash k, Value.ref b))[·]?)) t2) g1 (by rw [putSet_of _ _ rfl]; rfl)
                  rw [putSet_of _ _ rfl] at this
                  exact this
                · cases e
              · cases e
            · rename_i hfull
              injection e with e
              injection e with e1 e2
              subst e1 e2
              rw [if_neg (by simpa using hfull)]
              exact wpAny_pure (h _ _ (Heap.SameBut.update ..) g1)
          split
          · refine wpAny_bind (hv _ _ ?_)
            rw [if_pos (rfl : true = true)]
            exact tail
          · refine wpAny_bind (wpAny_pure ?_)
            rw [if_pos (rfl : true = true)]
            exact tail
        · rename_i hm
          exact (hm _ hp).elim
      · cases e
    · cases e
end
section
variable {prog : Program} {w : World} {A : Around} {R : Result → Shared → Prop} {I : Addr} {fp wr : List Addr} {G : Array GenState → Array GenState → Prop} {n : Nat} {P : Nat → Value → Prop} {St : Nat → Shared → Prop}
theorem loop_tups2 (W : WalksS prog w A.in1 I fp wr G n P St) (S : Addr) (hSf : S ∉ fp) (knd : HeapKind prog w (List Int)) (hroom : knd.room A.in1) (his : ∀ h k b, ITup h k b → knd.is h k b) (ad : Nat → Addr) (key : Nat → List Int) (hval : ∀ i v, P i v → v = .ref (ad i))
    (had : ∀ i, i < n → ad i ≠ S ∧ ad i ∉ wr) (T : Nat → SetTable) (Es : Nat → Array (Int × Value)) (hadd : ∀ i, i < n → addT2 (T i) (Es i) (knd.hash (key i)) (.ref (ad i)) = some (T (i + 1), Es (i + 1))) (hfit : ∀ i, i ≤ n → (T i).fits (Es i).size = true ∧ (Es i).size < 1000 ∧ SetTable.sizeAbove (SetTable.grown ((Es i).size + 1)) ≤ sizeLine ∧ (Es i).size < 999) :
    ∀ (k i : Nat) (s : Shared), n - i = k → i ≤ n → St i s → (∀ j, j < n → ITup s.heap (key j) (ad j)) → (∃ o ep, s.heap.get? S = some o ∧ o.ExactSet ∧ o.data = .set (Es i) ep (T i)) →
      (∀ s', Moved (S :: wr) G s s' → (∃ o ep, s'.heap.get? S = some o ∧ o.ExactSet ∧ o.data = .set (Es n) ep (T n)) → R (.ok (.ret .none)) s') →
      codeAny (model prog w) A (.builtin "set.update.loop" ⟨[.ref S, .ref I], []⟩) R s := by
  have hSw : S ∉ wr := fun h => hSf (W.sub _ h)
  have more : ∀ b ∈ wr, b ∈ S :: wr := fun b hb => List.mem_cons_of_mem _ hb
  have it_kept : ∀ {h h' : Heap} {k b}, ITup h k b → (∀ o, h.get? b = some o → h'.get? b = some o) → ITup h' k b := fun ⟨o, its, c, h1, h2⟩ f => ⟨o, its, c, f o h1, h2⟩
  intro k
  induction k with
  | zero =>
    intro i s hk hi hst ht hS hR
    obtain rfl : i = n := by omega
    refine codeAny_builtin F.entry_set_update_loop ?_
    rw [Around.under_plainId F.plain_set_update_loop _]
    show wpAny _ A.in1 (pyNext (.ref I) >>= _) _ _ s
    refine wpAny_bind (W.done s _ _ hst fun s' hm => wpAny_pure (hR s' (hm.mono more) ?_))
    obtain ⟨o, ep, h1, h2⟩ := hS
    exact ⟨o, ep, hm.heap S _ hSw h1, h2⟩
  | succ k ih =>
    intro i s hk hi hst ht hS hR
    have hlt : i < n := by omega
    refine codeAny_builtin F.entry_set_update_loop ?_
    rw [Around.under_plainId F.plain_set_update_loop _]
    show wpAny _ A.in1 (pyNext (.ref I) >>= _) _ _ s
    refine wpAny_bind (W.item i s _ _ hlt hst fun v s' hP hst' hm => ?_)
    obtain rfl := hval i v hP
    obtain ⟨o, ep, h1, h2, h3⟩ := hS
    have ht' : ∀ j, j < n → ITup s'.heap (key j) (ad j) := fun j hj => it_kept (ht j hj) fun o q => hm.heap _ o (had j hj).2 q
    obtain ⟨ob, its, c, g1, g2, g3, g4⟩ := id (ht' i hlt)
    show wpAny _ A.in1 (holding [Value.ref (ad i)] (setAdd S (.ref (ad i))) >>= _) _ _ s'
    refine wpAny_bind (wpAny_holding ?_)
    refine setAdd_free2 (knd := knd) (s := s') hroom (his _ _ _ (ht' i hlt)) (hm.heap S _ hSw h1) h3 (hfit i hi).1 (hfit (i + 1) hlt).2.1 (hfit i hi).2.2.2 (fun tk Q' q => hbv_ints (s := { s' with toks := tk }) g1 g2 g3 (fun v hv => ?_) q) (hadd i hlt) (hfit i hi).2.2.1 fun h' ep' sb hg => ?_
    · exact g4.allInts v (by simpa using hv)
    · refine wpAny_pure ⟨plainId_quiet F.plain_set_update_loop _, ih (i + 1) _ (by omega) hlt (W.frame _ s' _ _ hst' (Nat.le_add_right _ _) fun b hb o e => ?_) (fun j hj => it_kept (ht' j hj) fun o q => ?_) ⟨_, _, hg, h2, rfl⟩ fun s'' hm'' hS'' => ?_⟩
      · rw [sb.2 b (fun z => hSf (z ▸ hb))]; exact e
      · rw [sb.2 _ (had j hj).1]; exact q
      · refine hR s'' (Moved.trans W.gtrans ((hm.mono more).then_heap (Nat.le_add_right _ _) fun b o hb e => ?_) hm'') hS''
        rw [sb.2 b (fun z => hb (by rw [z]; exact List.mem_cons_self))]; exact e
end
set_option maxHeartbeats 3200000 in
theorem call_set_tups2 {prog : Program} {w : World} {A : Around} {E : Value → Shared → Prop} {s : Shared} {l : Addr} {as : List Addr} {Q : Value → Shared → Prop} (hh : A.handled = none) (hl : s.heap.IsList l (as.map Value.ref).toArray)
    (knd : HeapKind prog w (List Int)) (hroom : knd.room A.in1.in1.in1) (his : ∀ h k b, ITup h k b → knd.is h k b) (key : Nat → List Int) (htup : ∀ j, j < as.length → ITup s.heap (key j) (as.getD j 0))
    (T : Bool → Nat → SetTable) (Es : Bool → Nat → Array (Int × Value)) (h0 : ∀ led, T led 0 = .fresh 0 0 led ∧ Es led 0 = #[]) (hadd : ∀ led i, i < as.length → addT2 (T led i) (Es led i) (knd.hash (key i)) (.ref (as.getD i 0)) = some (T led (i + 1), Es led (i + 1)))
    (hfit : ∀ led i, i ≤ as.length → (T led i).fits (Es led i).size = true ∧ (Es led i).size < 1000 ∧ SetTable.sizeAbove (SetTable.grown ((Es led i).size + 1)) ≤ sizeLine ∧ (Es led i).size < 999)
    (h : ∀ (led : Bool) (h' : Heap) (tk : Nat), (∃ o ep, h'.get? s.heap.objs.size = some o ∧ o.ExactSet ∧ o.data = .set (Es led as.length) ep (T led as.length)) → (∀ b o, b < s.heap.objs.size → s.heap.get? b = some o → h'.get? b = some o) →
      Q (.ref s.heap.objs.size) { s with heap := h', toks := tk }) : wpAny (model prog w) A (call (.type "set") [.ref l]) Q E s := by
  obtain ⟨c0, tl0, hmro⟩ := F.called_set.mro
  have made := F.called_set.made
  have sub := F.called_set.sub
  have nt := F.called_set.notType
  have cc := F.called_set.canCreate
  have ck := F.typeCall_set_1 (.ref l)
  refine wpAny_call (codeAny_of_tree ?_)
  show wpAny _ _ (callAny (.type "set") ⟨[.ref l], []⟩) _ _ _
  refine wpAny_pure ⟨Code.quiet_builtin _ (by decide +kernel), codeAny_builtin F.entry_type_call ?_⟩
  rw [Around.under_plain (weight_type_call_type "set" [.ref l] []) rfl]
  repeat (any_goals (first | assumption | wp_step))
  refine codeAny_mono (code_set_new_1 (.ref l) (E := E) (Q₁ := fun v s₁ => ∃ led : Bool, v = .ref s.heap.objs.size ∧ s₁ = { s with heap := s.heap.push (set0 led) }) fun led => ⟨led, rfl, rfl⟩) fun r s₁ hr => ?_
  match r, hr with
  | .error e, hr => exact hr
  | .ok (.ret v), ⟨led, ev, es⟩ =>
    subst ev es
    have hS : (s.heap.push (set0 led)).get? s.heap.objs.size = some (set0 led) := Heap.get?_push_size _ rfl
    have hT : Shared.TypeIs { s with heap := s.heap.push (set0 led) } (.ref s.heap.objs.size) "set" := ⟨_, hS, rfl⟩
    have li := F.called_set.init.lookup
    have bi := F.called_set.init.bind (.ref s.heap.objs.size)
    repeat (any_goals (first | assumption | wp_step))
    refine codeAny_mono (codeAny_call_builtin (R := wants (fun r s₂ => r = .none ∧ ∃ h' tk, s₂ = { s with heap := h', toks := tk } ∧ (∃ o ep, h'.get? s.heap.objs.size = some o ∧ o.ExactSet ∧ o.data = .set (Es led as.length) ep (T led as.length)) ∧
      ∀ b o, b < s.heap.objs.size → s.heap.get? b = some o → h'.get? b = some o) E) F.called_set.init.plain F.entry_set_init (check_set_init_1 hT ?_)) fun r₂ s₂ hr₂ => ?_
    · have lt : l < s.heap.objs.size := by obtain ⟨o, ho, _⟩ := hl; exact Heap.lt_size ho
      obtain ⟨⟨oc, od, odt, osl⟩, hol, hcl, nl, hdl⟩ := id hl
      simp only at hcl hdl
      subst hcl hdl
      have hol' : (s.heap.push (set0 led)).get? l = some ⟨.type "list", od, .seq (as.map Value.ref).toArray nl, osl⟩ := Heap.get?_push_of_some _ hol
      have n1 := F.sub_list_set
      have n2 := F.sub_list_frozenset
      have n3 : (Value.type "list" == Value.type "dict") = false := by decide
      have hl1 : (s.heap.push (set0 led)).IsList l (as.map Value.ref).toArray := ⟨_, hol', rfl, nl, rfl⟩
      unfold Builtin.«set.__init__» noKeywords Builtin.Frozenset.updateFrom
      generalize ePI : pyIter = PI
      wp_walk
      subst ePI
      refine wpAny_pyIter_list hl1 (wpAny_bind (wpAny_runValue ?_))
      have sz1 : (s.heap.push (set0 led)).objs.size = s.heap.objs.size + 1 := Heap.size_push ..
      have hd3 : A.in1.in1.in1.handled = none := by simp [hh]
      have neI : l ≠ (s.heap.push (set0 led)).objs.size := by rw [sz1]; exact Nat.ne_of_lt (Nat.lt_succ_of_lt lt)
      have nS : s.heap.objs.size ∉ [(s.heap.push (set0 led)).objs.size, l] := by
        rw [sz1]
        intro z
        rcases List.mem_cons.mp z with z | z
        · exact absurd z (Nat.ne_of_lt (Nat.lt_succ_self _))
        · exact absurd (List.mem_singleton.mp z) (Nat.ne_of_gt lt)
      have hld : ∀ j, j < as.length → as.getD j 0 < s.heap.objs.size := fun j hj => by obtain ⟨o, _, _, h1, _⟩ := htup j hj; exact Heap.lt_size h1
      refine loop_tups2 ((Walks.list hd3 _ l neI (as.map Value.ref).toArray).toS) s.heap.objs.size nS knd hroom his (fun i => as.getD i 0) key (fun i v hv => ?_) (fun i hi => ?_) (T led) (Es led) (fun i hi => hadd led i (by simpa using hi)) (fun i hi => hfit led i (by simpa using hi))
        ((as.map Value.ref).toArray.size - 0) 0 _ (by omega) (Nat.zero_le _) ⟨⟨_, Heap.get?_push_size _ rfl, rfl, rfl⟩, (hl1.push _)⟩ (fun j hj => ?_) ?_ fun s' hm hS' => ?_
      · have hv' : (as.map Value.ref).toArray[i]? = some v := hv
        rw [List.getElem?_toArray, List.getElem?_map] at hv'
        obtain ⟨x, hx, rfl⟩ := Option.map_eq_some_iff.mp hv'
        show _ = Value.ref (as.getD i 0)
        rw [List.getD_eq_getElem?_getD, hx]; rfl
      · have hi' : i < as.length := by simpa using hi
        have := hld i hi'
        refine ⟨Nat.ne_of_lt this, fun z => ?_⟩
        have z' := List.mem_singleton.mp z
        rw [sz1] at z'
        exact absurd z' (Nat.ne_of_lt (Nat.lt_succ_of_lt this))
      · obtain ⟨o, its, c, q1, q2⟩ := htup j (by simpa using hj)
        exact ⟨o, its, c, Heap.get?_push_of_some _ (Heap.get?_push_of_some _ q1), q2⟩
      · refine ⟨_, 0, Heap.get?_push_of_some _ hS, ⟨rfl, rfl, rfl⟩, ?_⟩
        rw [(h0 led).1, (h0 led).2]
      · obtain ⟨h', g', d', tk', os'⟩ := s'
        obtain rfl : g' = s.gens := hm.gens
        obtain rfl : d' = s.drawn := hm.drawn
        obtain rfl : os' = s.os := hm.os
        refine wpAny_pure ?_
        show wpAny _ _ (ret Value.none) _ _ _
        refine wpAny_pure ⟨rfl, h', tk', rfl, by simpa using hS', fun b o hb e => hm.heap b o (fun z => ?_) (Heap.get?_push_of_some _ (Heap.get?_push_of_some _ e))⟩
        rcases List.mem_cons.mp z with z | z
        · exact absurd z (Nat.ne_of_lt hb)
        · have z' := List.mem_singleton.mp z
          rw [sz1] at z'
          exact absurd z' (Nat.ne_of_lt (Nat.lt_succ_of_lt hb))
    · match r₂, hr₂ with
      | .error e, z => exact z
      | .ok (.ret v), ⟨e1, h', tk, e2, z1, z2⟩ =>
        subst e1 e2
        repeat (any_goals (first | assumption | wp_step))
        exact h led h' tk z1 z2
      | .ok .next, z => exact z.elim
      | .ok .brk, z => exact z.elim
      | .ok .cont, z => exact z.elim
  | .ok .next, hr => exact hr.elim
  | .ok .brk, hr => exact hr.elim
  | .ok .cont, hr => exact hr.elim
structure SI (t : SetTable) (es : Array (Int × Value)) (n : Nat) (hs : List Int) : Prop where
  dm : t.dummies = #[]
  ms : t.mask = 7 ∧ n < 5 ∨ t.mask = 31 ∧ n ≤ 18
  pl : t.place.size = n
  sz : es.size = n
  hm : ∀ e ∈ es, e.1 ∈ hs
theorem insert_size {α : Type} (xs : Array α) (p : Nat) (x : α) : (SetTable.insertAt xs p x).size = xs.size + 1 := by
  have := (SetTable.insertAt_perm xs p x).length_eq
  simpa using this
theorem mem_insert {α : Type} {xs : Array α} {p : Nat} {x y : α} (h : y ∈ SetTable.insertAt xs p x) : y = x ∨ y ∈ xs := by
  have := (SetTable.insertAt_perm xs p x).mem_iff.mp (Array.mem_toList_iff.mpr h)
  rw [Array.toList_push] at this
  rcases List.mem_append.mp this with z | z
  · exact .inr (Array.mem_toList_iff.mp z)
  · exact .inl (List.mem_singleton.mp z)
theorem SI.add {t : SetTable} {es : Array (Int × Value)} {n : Nat} {hs : List Int} {h : Int} {x : Value} (I : SI t es n hs) (hn : n < 18) (hh : h ∉ hs) : ∃ t' es', addT2 t es h x = some (t', es') ∧ SI t' es' (n + 1) (h :: hs) := by
  have hm : t.mask = 7 ∨ t.mask = 31 := I.ms.imp (·.1) (·.1)
  obtain ⟨j, hp⟩ := TabA.probe_new (t := t) (hashAt := hAt es) (h := h) hm I.dm (by rw [I.pl]; rcases I.ms with q | q <;> omega) (fun i hi e => by
    rw [I.pl, ← I.sz] at hi
    unfold hAt at e
    rw [Array.getElem?_eq_getElem hi] at e
    exact hh (e ▸ I.hm _ (Array.getElem_mem hi)))
  have hg : ¬ t.gaveWay = true := by unfold SetTable.gaveWay; rcases hm with q | q <;> simp [q]
  have d1 : (t.put j).1.dummies = #[] := by
    unfold SetTable.put
    dsimp only
    rw [I.dm]
    split
    · rename_i q; unfold SetTable.has at q; simp at q
    · rfl
  have m1 : (t.put j).1.mask = t.mask := rfl
  have p1 : (t.put j).1.place.size = n + 1 := by
    show (SetTable.insertAt t.place _ j).size = _
    rw [insert_size, I.pl]
  have f1 : (t.put j).1.fill = n + 1 := by unfold SetTable.fill; rw [p1, d1]; rfl
  have fit : (t.put j).1.fits (SetTable.insertAt es (t.put j).2 (h, x)).size = true := by
    unfold SetTable.fits
    rw [insert_size, p1, f1, m1, I.sz]
    simp
    rcases I.ms with q | q <;> omega
  have mem1 : ∀ e ∈ SetTable.insertAt es (t.put j).2 (h, x), e.1 ∈ h :: hs := fun e he => by
    rcases mem_insert he with rfl | z
    · exact List.mem_cons_self
    · exact List.mem_cons_of_mem _ (I.hm _ z)
  unfold addT2
  rw [if_neg hg, hp]
  dsimp only
  rw [if_pos fit]
  by_cases hf : (t.put j).1.tooFull = true
  · rw [if_pos hf]
    have hn4 : t.mask = 7 ∧ n = 4 := by
      unfold SetTable.tooFull at hf
      rw [f1, m1] at hf
      simp only [ge_iff_le, decide_eq_true_eq] at hf
      rcases I.ms with q | q
      · exact ⟨q.1, by rw [q.1] at hf; omega⟩
      · rw [q.1] at hf; omega
    obtain ⟨t2, order, e2, a1, a2, a3, a4, a5⟩ := TabA.laid_some (t.put j).1.finger ((t.put j).1.movedTo 31) (t.put j).1.led (t.put j).1.plain ((SetTable.insertAt es (t.put j).2 (h, x)).map (·.1)) (by rw [Array.size_map, insert_size, I.sz]; omega)
    have er : (t.put j).1.relaid ((SetTable.insertAt es (t.put j).2 (h, x)).map (·.1)) (SetTable.grown (es.size + 1)) = some (t2, order) := by
      unfold SetTable.relaid
      rw [I.sz, hn4.2]
      exact e2
    rw [er]
    dsimp only
    rw [Array.size_map, insert_size, I.sz] at a3 a4 a5
    have ez : (order.filterMap ((SetTable.insertAt es (t.put j).2 (h, x))[·]?)).size = (SetTable.insertAt es (t.put j).2 (h, x)).size := by
      rw [← Array.length_toList, Array.toList_filterMap, List.length_filterMap_eq_countP, insert_size, I.sz]
      rw [List.countP_eq_length.mpr, Array.length_toList, a4]
      intro k hk
      have := a5 k (Array.mem_toList_iff.mp hk)
      rw [Array.getElem?_eq_getElem (by rw [insert_size, I.sz]; exact this)]
      rfl
    rw [if_pos ez]
    refine ⟨_, _, rfl, a2, .inr ⟨a1, by omega⟩, a3, by rw [ez, insert_size, I.sz], fun e he => ?_⟩
    obtain ⟨k, hk, q⟩ := Array.mem_filterMap.mp he
    exact mem1 _ (Array.mem_of_getElem? q)
  · rw [if_neg hf]
    refine ⟨_, _, rfl, d1, ?_, p1, by rw [insert_size, I.sz], mem1⟩
    rw [m1]
    rcases I.ms with q | q
    · refine .inl ⟨q.1, ?_⟩
      unfold SetTable.tooFull at hf
      rw [f1, m1, q.1] at hf
      simp only [ge_iff_le, decide_eq_true_eq] at hf
      omega
    · exact .inr ⟨q.1, by omega⟩
theorem SI.fits {t : SetTable} {es : Array (Int × Value)} {n : Nat} {hs : List Int} (I : SI t es n hs) : t.fits es.size = true := by
  unfold SetTable.fits SetTable.fill
  rw [I.pl, I.sz, I.dm]
  simp
  rcases I.ms with q | q <;> omega
theorem states2 (r : Nat → Int × Value) (t0 : SetTable) (N : Nat) (h0 : SI t0 #[] 0 []) (hN : N ≤ 18) (hd : ((List.range N).map fun i => (r i).1).Nodup) : ∃ (T : Nat → SetTable) (Es : Nat → Array (Int × Value)), T 0 = t0 ∧ Es 0 = #[] ∧
    (∀ i, i < N → addT2 (T i) (Es i) (r i).1 (r i).2 = some (T (i + 1), Es (i + 1))) ∧ ∀ i, i ≤ N → SI (T i) (Es i) i ((List.range i).map fun i => (r i).1).reverse := by
  let S : Nat → SetTable × Array (Int × Value) := fun i => Nat.rec (t0, #[]) (fun i q => (addT2 q.1 q.2 (r i).1 (r i).2).getD q) i
  have key : ∀ i, i ≤ N → SI (S i).1 (S i).2 i ((List.range i).map fun i => (r i).1).reverse := by
    intro i
    induction i with
    | zero => intro _; exact h0
    | succ i ih =>
      intro hi
      have I := ih (by omega)
      have nn : (r i).1 ∉ ((List.range i).map fun i => (r i).1).reverse := by
        rw [List.mem_reverse]
        have h1 : ((List.range (i + 1)).map fun i => (r i).1).Nodup := by
          refine hd.sublist (List.Sublist.map _ ?_)
          exact List.range_sublist.mpr hi
        rw [List.range_succ, List.map_append, List.nodup_append] at h1
        intro z
        exact h1.2.2 _ z _ (List.mem_singleton.mpr rfl) rfl
      obtain ⟨t', es', e, I'⟩ := I.add (x := (r i).2) (by omega) nn
      have es : S (i + 1) = (t', es') := by show (addT2 (S i).1 (S i).2 (r i).1 (r i).2).getD (S i) = _; rw [e]; rfl
      rw [es, List.range_succ, List.map_append, List.reverse_append]
      exact I'
  refine ⟨fun i => (S i).1, fun i => (S i).2, rfl, rfl, fun i hi => ?_, key⟩
  have I := key i (by omega)
  have nn : (r i).1 ∉ ((List.range i).map fun i => (r i).1).reverse := by
    rw [List.mem_reverse]
    have h1 : ((List.range (i + 1)).map fun i => (r i).1).Nodup := by
      refine hd.sublist (List.Sublist.map _ ?_)
      exact List.range_sublist.mpr hi
    rw [List.range_succ, List.map_append, List.nodup_append] at h1
    intro z
    exact h1.2.2 _ z _ (List.mem_singleton.mpr rfl) rfl
  obtain ⟨t', es', e, I'⟩ := I.add (x := (r i).2) (by omega) nn
  have es : S (i + 1) = (t', es') := by show (addT2 (S i).1 (S i).2 (r i).1 (r i).2).getD (S i) = _; rw [e]; rfl
  show addT2 (S i).1 (S i).2 _ _ = some ((S (i + 1)).1, (S (i + 1)).2)
  rw [e, es]
theorem call_setN {X : Cx} (hc : X.calm = true) {k : Nat} (hr : Room k X.A) : CallR X (.type "set") (fun xs H Q => ∃ (l : Addr) (as : List Addr) (cs : List (List Int)), xs = [.ref l] ∧ SqL X.K H l (as.map V.ref) ∧ Tups H as cs ∧ cs.length ≤ 18 ∧ (cs.map hashT).Nodup ∧ ∀ p, H p = none → Q (.ref p) (upd H p (stO p cs.length))) := by
  intro pins s σ H xs us Q I r h
  obtain ⟨l, as, cs, rfl, hl, ht, hcl, hok, q⟩ := h
  obtain ⟨u, rfl, ru⟩ := vals1 r
  cases ru
  obtain ⟨its, rv, pl, hz⟩ := I.list hl
  obtain rfl := vals_refs rv
  have hu := hr.units
  have len : as.length = cs.length := Paired.length ht
  have hat : ∀ j, j < as.length → ITup s.heap (cs.getD j []) (as.getD j 0) := fun j hj => by
    obtain ⟨c, h1, h2⟩ := ht.at (i := j) (a := as.getD j 0) (by rw [List.getD_eq_getElem?_getD, List.getElem?_eq_getElem hj]; rfl)
    rw [List.getD_eq_getElem?_getD, h1]
    exact tup_itup I.hok h2
  have e1 : ((List.range as.length).map fun j => (hashT (cs.getD j []), Value.ref (as.getD j 0)).1) = cs.map hashT := by
    refine List.ext_getElem? fun j => ?_
    rw [List.getElem?_map, List.getElem?_map]
    by_cases hj : j < as.length
    · rw [List.getElem?_range hj, List.getElem?_eq_getElem (show j < cs.length by omega)]
      show some (hashT (cs.getD j [])) = some (hashT cs[j])
      rw [List.getD_eq_getElem?_getD, List.getElem?_eq_getElem (show j < cs.length by omega)]; rfl
    · rw [List.getElem?_eq_none (by simpa using hj), List.getElem?_eq_none (by omega)]; rfl
  have st : ∀ led : Bool, ∃ (T : Nat → SetTable) (Es : Nat → Array (Int × Value)), T 0 = .fresh 0 0 led ∧ Es 0 = #[] ∧ (∀ i, i < as.length → addT2 (T i) (Es i) (hashT (cs.getD i [])) (.ref (as.getD i 0)) = some (T (i + 1), Es (i + 1))) ∧
      ∀ i, i ≤ as.length → SI (T i) (Es i) i ((List.range i).map fun j => (hashT (cs.getD j []), Value.ref (as.getD j 0)).1).reverse := fun led =>
    states2 (fun j => (hashT (cs.getD j []), Value.ref (as.getD j 0))) (.fresh 0 0 led) as.length ⟨rfl, .inl ⟨rfl, by decide⟩, rfl, rfl, fun e he => by simp at he⟩ (by omega) (by rw [e1]; exact hok)
  have sa : ∀ n, n ≤ 18 → SetTable.sizeAbove (SetTable.grown (n + 1)) ≤ sizeLine := by
    have : ∀ n, n < 19 → SetTable.sizeAbove (SetTable.grown (n + 1)) ≤ 2 ^ 24 := by decide +kernel
    exact fun n hn => this n (by omega)
  refine call_set_tups2 (I.ok.hd hc) pl.isList (tupleKind (intKind X.prog X.w)) (show X.A.units + 1 + 1 + 1 < cLine by omega) (fun h k b t => itup_is t) (fun i => cs.getD i []) hat (fun led => Classical.choose (st led)) (fun led => Classical.choose (Classical.choose_spec (st led)))
    (fun led => ⟨(Classical.choose_spec (Classical.choose_spec (st led))).1, (Classical.choose_spec (Classical.choose_spec (st led))).2.1⟩) (fun led => (Classical.choose_spec (Classical.choose_spec (st led))).2.2.1) (fun led i hi => ?_) fun led h' tk hS hk => ?_
  · have z := (Classical.choose_spec (Classical.choose_spec (st led))).2.2.2 i hi
    exact ⟨z.fits, by rw [z.sz]; omega, by rw [z.sz]; exact sa i (by omega), by rw [z.sz]; omega⟩
  have z := (Classical.choose_spec (Classical.choose_spec (st led))).2.2.2 _ (Nat.le_refl _)
  obtain ⟨o, ep, h1, h2, h3⟩ := hS
  refine ⟨.ref s.heap.objs.size, _, I.laid (a := s.heap.objs.size) (o := stO s.heap.objs.size cs.length) (t' := tk) (fun b u e => hk b u (Heap.lt_size e) e) (Nat.le_refl _) ⟨⟨o, _, ep, _, h1, h2, h3, z.fits, z.sz.trans len⟩, ⟨o, h1⟩, ?_⟩, rfl, q _ (I.hok.fresh (Nat.le_refl _))⟩
  rintro g1 g2 ⟨o', es, ep', t, e1, e2⟩ k'
  exact ⟨o', es, ep', t, k' _ e1, e2⟩
end L2
namespace L2
open PySem PySem.Spec PyProof.Rows
def delA {κ : Type} [DecidableEq κ] (zs : List (κ × Addr × Value)) (k : κ) : List (κ × Addr × Value) := zs.filter fun x => decide (x.1 ≠ k)
def delK {κ : Type} [DecidableEq κ] (kvs : List (κ × V)) (k : κ) : List (κ × V) := kvs.filter fun x => decide (x.1 ≠ k)
theorem erase_del {κ : Type} [DecidableEq κ] {k : κ} {p : Addr × Value} : ∀ {zs : List (κ × Addr × Value)} {j : Nat}, (zs.map (·.1)).Nodup → zs[j]? = some (k, p) → zs.eraseIdx j = delA zs k
  | [], _, _, h => by simp at h
  | x :: zs, 0, hn, h => by
    simp only [List.getElem?_cons_zero, Option.some.injEq] at h
    subst h
    rw [List.map_cons, List.nodup_cons] at hn
    rw [List.eraseIdx_cons_zero, delA, List.filter_cons_of_neg (by simp)]
    symm
    refine List.filter_eq_self.mpr fun y hy => ?_
    refine decide_eq_true fun e => hn.1 ?_
    rw [← e]
    exact List.mem_map.mpr ⟨y, hy, rfl⟩
  | x :: zs, j + 1, hn, h => by
    simp only [List.getElem?_cons_succ] at h
    rw [List.map_cons, List.nodup_cons] at hn
    have hm : k ∈ zs.map (·.1) := List.mem_map.mpr ⟨(k, p), List.mem_of_getElem? h, rfl⟩
    rw [List.eraseIdx_cons_succ, erase_del hn.2 h, delA, delA, List.filter_cons_of_pos (by simpa using fun e : x.1 = k => hn.1 (e ▸ hm))]
theorem map_eraseIdx {α β : Type} (f : α → β) : ∀ (l : List α) (j : Nat), (l.map f).eraseIdx j = (l.eraseIdx j).map f
  | [], _ => by simp
  | _ :: _, 0 => by simp
  | a :: l, j + 1 => by rw [List.map_cons, List.eraseIdx_cons_succ, List.eraseIdx_cons_succ, List.map_cons, map_eraseIdx f l j]
section
variable {prog : Program} {w : World} {κ : Type} [DecidableEq κ] {knd : HeapKind prog w κ} {A : Around} {E : Value → Shared → Prop} {s : Shared}
theorem takeOut_heap {d b : Addr} {zs : List (κ × Addr × Value)} {k : κ} {p : Addr × Value} {Q : Option DictEntry → Shared → Prop} (hu : knd.room A) (hk : knd.is s.heap k b) (hm : s.heap.DictOfH knd d zs) (hp : atKey zs k = some p)
    (h : ∀ h' e, e.val = p.2 → h'.DictOfH knd d (delA zs k) → Heap.SameBut d s.heap h' → Q (some e) { s with heap := h', toks := s.toks + knd.draws k })
    (hsz : zs.length ≤ sizeLine) : wpAny (model prog w) A (Builtin.Dict.takeOut d (.ref b)) Q E s := by
  obtain ⟨ob, en, ep, ho, hc, hd, he, his, hn⟩ := hm
  unfold Builtin.Dict.takeOut
  try with_reducible refine wpAny_holding ?_
  refine wpAny_bind (knd.pyHash hu hk ?_)
  refine wpAny_bind (wpAny_dictFind_heap (s := { s with toks := s.toks + knd.draws k }) hu hk ho hd he his hn (fun hno => ?_) fun j q hj => ?_)
  · rw [atKey_none_of_get hno] at hp; cases hp
  · have hz := atKey_of_get hn hj
    rw [hz] at hp
    obtain rfl := Option.some.inj hp
    refine wpAny_bind (wpAny_dictEntries (s := { s with toks := s.toks + knd.draws k }) ho hd ?_)
    rw [entry_at he j, hj]
    refine wpAny_bind (wpAny_updateDictKeys (hz := by have e := size_of_entries he; omega) (s := { s with toks := s.toks + knd.draws k }) ho hd
      (wpAny_pure (h _ _ rfl ⟨_, _, ep + 1, Heap.get?_update_self _ ho (Obj.isFreed_of_dict (Obj.data_mapDictKeys hd _)), hc.mapDictKeys _, Obj.data_mapDictKeys hd _, ?_, ?_, ?_⟩ (Heap.SameBut.update ..))))
    · rw [Array.toList_eraseIdxIfInBounds, he, map_eraseIdx, erase_del hn hj]
    · intro x hx
      exact knd.keeps (his x (List.mem_filter.mp hx |>.1)) ho hd (Heap.SameBut.update ..)
    · exact hn.sublist (List.Sublist.map _ List.filter_sublist)
end
theorem KT.del {H : Hp} {k : List Key} : ∀ {kvs : List (List Key × V)} {xs : List (List Key × Addr × Value)}, KT H kvs xs → KT H (delK kvs k) (delA xs k)
  | _, _, .nil => .nil
  | p :: kvs, q :: xs, .cons r t => by
    unfold delK delA
    by_cases e : p.1 = k
    · rw [List.filter_cons_of_neg (by simpa using e), List.filter_cons_of_neg (by simpa [← r.1] using e)]
      exact KT.del t
    · rw [List.filter_cons_of_pos (by simpa using e), List.filter_cons_of_pos (by simpa [← r.1] using e)]
      exact .cons r (KT.del t)
section
variable {X : Cx}
def rPopT : V → List V → Hp → VK → Prop := fun x vs H Q => ∃ a b kvs k v, x = .ref a ∧ vs = [.ref b] ∧ H a = some (.dT kvs) ∧ H b = some (.tup (k.map kV)) ∧ valV kvs k = some v ∧ Q v (upd H a (.dT (delK kvs k)))
theorem mt_popT {j : Nat} (hr : Room j X.A) : MtR X "dict.pop" rPopT := by
  intro pins s σ H x vs v us Q I rx rv h
  obtain ⟨a, b, kvs, k, y, rfl, rfl, ea, eb, hv, q⟩ := h
  cases rx
  obtain ⟨u1, rfl, r1⟩ := vals1 rv
  cases r1
  obtain ⟨z, hd, xs, rel, dd⟩ := dt_of I.hok ea
  have hz : xs.length ≤ sizeLine := by rw [← Paired.length rel]; exact z
  have hl : (delK kvs k).length ≤ sizeLine := Nat.le_trans (List.length_filter_le ..) z
  have hu : X.A.units + 1 < cLine := Room.one hr
  have rvl := rel.val k
  rw [hv] at rvl
  cases ep : atKey xs k with
  | none => rw [ep] at rvl; exact rvl.elim
  | some p =>
    rw [ep] at rvl
    refine wpAny_call_entry PySem.F.slot_dict_pop dd.typeIs PySem.F.entry_dict_pop ?_ (PySem.F.args_dict_pop_2 _ _)
    unfold Builtin.«dict.pop»
    refine wpAny_bind ?_
    unfold Builtin.Dict.keyAndDefault
    refine wpAny_bind (wpAny_notOrdered_dict dd.typeIs ?_)
    show wpAny _ _ (pure (a, Value.ref b, none)) _ _ s
    refine wpAny_pure ?_
    obtain ⟨od, es, epo, go, gc, gd, ge, gi, gn⟩ := id dd
    have ne : es.isEmpty = false := by
      cases q : es.isEmpty with
      | false => rfl
      | true =>
        have : es = #[] := by simpa using q
        rw [this] at ge
        have : xs = [] := by
          cases xs with
          | nil => rfl
          | cons _ _ => cases ge
        rw [this] at ep
        cases ep
    refine wpAny_bind (wpAny_dictEntries go gd (wpAny_bind (wpAny_pure ?_)))
    rw [ne]
    simp only [Bool.false_eq_true, if_false]
    refine wpAny_bind (takeOut_heap (tupleKind_room_in1 hu) (key_of I.hok eb) dd ep (fun h' e hev dd' hs => ?_) hz)
    simp only [Option.isNone_some, Bool.false_eq_true, if_false]
    refine wpAny_bind (wpAny_letGo (wpAny_pure ⟨e.val, rfl, ?_⟩))
    obtain ⟨q', es', ep', hq, g2, g3, g4, _, g5⟩ := dd'
    refine ⟨y, _, d_write (ob := .dT (delK kvs k)) I (by rw [ea]; exact True.intro) hs ⟨q', hq⟩ ⟨hl, hd, _, (KT.del (k := k) rel).keeps fun c ys ec => ?_, q', es', ep', hq, g2, g3, g4, g5⟩, ?_, q⟩
    · rw [upd_ne (ne_of ec ea (fun z => nomatch z))]
      exact ec
    · rw [hev]; exact rvl
end
end L2
namespace L2
open PySem PySem.Spec PyProof.Rows
section
variable {prog : Program} {w : World}
abbrev TI2 (prog : Program) (w : World) : HeapKind prog w (List Int) := tupleKind (intKind prog w)
def hashP (k : List Int × List Int) : Int := reduceHash (Builtin.Tuple.tupleHashOf [hashT k.1, hashT k.2])
def IsPK (prog : Program) (w : World) (h : Heap) (k : List Int × List Int) (b : Addr) : Prop := ∃ o n x y, h.get? b = some o ∧ o.cls = .type "tuple" ∧ o.data = .seq #[.ref x, .ref y] n ∧ (TI2 prog w).is h k.1 x ∧ (TI2 prog w).is h k.2 y
variable {A : Around} {E : Value → Shared → Prop} {s : Shared}
theorem IsPK.typeIs {k : List Int × List Int} {b : Addr} (x : IsPK prog w s.heap k b) : s.TypeIs (.ref b) "tuple" := let ⟨o, _, _, _, ho, hc, _⟩ := x; ⟨o, ho, hc⟩
theorem IsPK.inj {h : Heap} {a : Addr} {x y : List Int × List Int} (hx : IsPK prog w h x a) (hy : IsPK prog w h y a) : x = y := by
  obtain ⟨o, n, b, c, ho, _, hd, h1, h2⟩ := hx
  obtain ⟨o', n', b', c', ho', _, hd', h1', h2'⟩ := hy
  obtain rfl : o = o' := Option.some.inj (ho.symm.trans ho')
  rw [hd] at hd'
  injection hd' with e _
  simp at e
  obtain ⟨rfl, rfl⟩ := e
  exact Prod.ext (IsTupleKey.inj h1 h1') (IsTupleKey.inj h2 h2')
theorem IsPK.keeps {h h' : Heap} {k : List Int × List Int} {a d : Addr} {o : Obj} {es ep} (x : IsPK prog w h k a) (ho : h.get? d = some o) (hd : o.data = .dict es ep) (hs : Heap.SameBut d h h') : IsPK prog w h' k a := by
  obtain ⟨o', n, b, c, ho', hc, hd', h1, h2⟩ := x
  have hne : a ≠ d := by
    rintro rfl
    obtain rfl : o' = o := Option.some.inj (ho'.symm.trans ho)
    rw [hd] at hd'; exact nomatch hd'
  exact ⟨o', n, b, c, (hs.2 a hne).trans ho', hc, hd', h1.keeps ho hd hs, h2.keeps ho hd hs⟩
theorem pyHash_pk {k : List Int × List Int} {a : Addr} {Q : Int → Shared → Prop} (hu : A.units + 1 < cLine) (hk : IsPK prog w s.heap k a) (h : Q (hashP k) { s with toks := s.toks + (k.1.length + 1 + (k.2.length + 1) + 1) }) :
    wpAny (model prog w) A (pyHash (.ref a)) Q E s := by
  have hT := hk.typeIs
  obtain ⟨o, n, x, y, ho, _, hd, h1, h2⟩ := hk
  unfold pyHash
  first | unfold pyHashByItsType | skip
  first | refine wpAny_bind (wpAny_cRoomFor_or (.inr (by omega)) ?_) | skip
  refine wpAny_bind (wpAny_specialOf hT F.slot_tuple_hash.lookup ?_)
  show wpAny _ _ (if (some (Value.builtin "tuple.__hash__") == some Value.none) = true then _ else _) Q E s
  rw [if_neg (by rw [beq_builtin_none]; exact Bool.false_ne_true)]
  refine wpAny_bind (wpAny_specialOf hT F.slot_tuple_hash.lookup ?_)
  show wpAny _ _ (callSpecialIfBoundUnlessNone? (.ref a) "__hash__" _ >>= _) Q E s
  refine wpAny_bind (wpAny_callSpecialIfBoundUnlessNone?_slot hT F.slot_tuple_hash (wpAny_call_entry F.slot_tuple_hash hT F.entry_tuple_hash ?_ (F.args_tuple_hash_1 _)))
  show wpAny _ _ (Builtin.Tuple.tupleItemsOf (.ref a) >>= _) _ _ s
  refine wpAny_bind (wpAny_tupleItemsOf ho hd ?_)
  refine wpAny_bind ?_
  have r1 : (TI2 prog w).room A.in1 := show A.units + 1 < cLine from hu
  rw [← Array.forIn_toList]
  refine wpAny_forIn_list _
    (fun rest (b : Array Int) s' => (rest = [.ref x, .ref y] ∧ b = #[] ∧ s' = s) ∨ (rest = [.ref y] ∧ b = #[hashT k.1] ∧ s' = { s with toks := s.toks + (k.1.length + 1) }) ∨ (rest = [] ∧ b = #[hashT k.1, hashT k.2] ∧ s' = { s with toks := s.toks + (k.1.length + 1) + (k.2.length + 1) }))
    _ ?_ ?_ _ _ (.inl ⟨rfl, rfl, rfl⟩)
  · rintro v rest b s' (⟨e, rfl, rfl⟩ | ⟨e, rfl, rfl⟩ | ⟨e, _, _⟩)
    · injection e with e1 e2
      subst e1 e2
      refine wpAny_bind ((TI2 prog w).pyHash r1 h1 ?_)
      first
        | exact wpAny_pure (.inr (.inl ⟨rfl, rfl, rfl⟩))
        | exact wpAny_bind (wpAny_pure (wpAny_pure (.inr (.inl ⟨rfl, rfl, rfl⟩))))
    · injection e with e1 e2
      subst e1 e2
      refine wpAny_bind ((TI2 prog w).pyHash (s := { s with toks := s.toks + (k.1.length + 1) }) r1 h2 ?_)
      first
        | exact wpAny_pure (.inr (.inr ⟨rfl, rfl, rfl⟩))
        | exact wpAny_bind (wpAny_pure (wpAny_pure (.inr (.inr ⟨rfl, rfl, rfl⟩))))
    · cases e
  · rintro b s' (⟨e, _, _⟩ | ⟨e, _, _⟩ | ⟨_, rfl, rfl⟩)
    · cases e
    · cases e
    · show wpAny _ _ (retInt (Builtin.Tuple.tupleHashOf [hashT k.1, hashT k.2])) _ _ _
      refine wpAny_ret_mkInt ?_
      show wpAny _ _ (if (decide (-(2 : Int) ^ 63 ≤ Builtin.Tuple.tupleHashOf [hashT k.1, hashT k.2]) && decide (Builtin.Tuple.tupleHashOf [hashT k.1, hashT k.2] < 2 ^ 63)) = true then _ else _) Q E _
      unfold hashP reduceHash at h
      by_cases hr : (decide (-(2 : Int) ^ 63 ≤ Builtin.Tuple.tupleHashOf [hashT k.1, hashT k.2]) && decide (Builtin.Tuple.tupleHashOf [hashT k.1, hashT k.2] < 2 ^ 63)) = true
      · rw [if_pos hr]
        rw [if_pos hr] at h
        exact wpAny_pure (by simpa [Nat.add_assoc] using h)
      · rw [if_neg hr]
        rw [if_neg hr] at h
        exact wpAny_bind (wpAny_rule (wpAny_pure (by simpa [Nat.add_assoc] using h)))
theorem pk_eq_tree {p q : List Int × List Int} {a b : Addr} {P : Fin → Shared → Prop} (hu : A.units < cLine) (hx : IsPK prog w s.heap p a) (hy : IsPK prog w s.heap q b) (h : P (.done (.ret (.bool (decide (p = q))))) s) :
    wpAny (model prog w) A (Builtin.«tuple.__eq__» ⟨[.ref a, .ref b], []⟩) P E s := by
  have hTb := hy.typeIs
  obtain ⟨oa, na, x, y, hoa, _, hda, h1, h2⟩ := hx
  obtain ⟨ob, nb, x', y', hob, _, hdb, h1', h2'⟩ := hy
  show wpAny _ _ (isInstance (.ref b) (.type "tuple") >>= _) _ _ s
  refine wpAny_bind (wpAny_isInstance hTb isSubtype_tuple_tuple ?_)
  simp only [Bool.not_true, Bool.false_eq_true, if_false]
  refine wpAny_bind (wpAny_tupleItemsOf hoa hda ?_)
  refine wpAny_bind (wpAny_tupleItemsOf hob hdb ?_)
  refine wpAny_bind ?_
  have r1 : (TI2 prog w).room A := hu
  refine wpAny_forIn_list _
    (fun rest r s' => r.1 = none ∧ s' = s ∧ ((rest = [(Value.ref x, Value.ref x'), (Value.ref y, Value.ref y')]) ∨ (rest = [(Value.ref y, Value.ref y')] ∧ p.1 = q.1) ∨ (rest = [] ∧ p = q)))
    _ ?_ ?_ _ _ ⟨rfl, rfl, .inl rfl⟩
  · rintro ⟨u, v⟩ rest r s' ⟨hr, rfl, e | ⟨e, e'⟩ | ⟨e, _⟩⟩
    · injection e with e1 e2
      injection e1 with e1 e3
      subst e1 e2 e3
      refine wpAny_bind ((TI2 prog w).eqBool r1 h1 h1' ?_)
      by_cases hk : p.1 = q.1
      · rw [decide_eq_true hk]
        simp only [Bool.not_true, Bool.false_eq_true, if_false]
        exact wpAny_pure ⟨rfl, rfl, .inr (.inl ⟨trivial, hk⟩)⟩
      · rw [decide_eq_false hk]
        simp only [Bool.not_false, if_true]
        have hf : decide (p = q) = false := decide_eq_false fun z => hk (by rw [z])
        rw [hf] at h
        exact wpAny_bind (wpAny_pure (wpAny_pure (wpAny_pure h)))
    · injection e with e1 e2
      injection e1 with e1 e3
      subst e1 e2 e3
      refine wpAny_bind ((TI2 prog w).eqBool r1 h2 h2' ?_)
      by_cases hk : p.2 = q.2
      · rw [decide_eq_true hk]
        simp only [Bool.not_true, Bool.false_eq_true, if_false]
        exact wpAny_pure ⟨rfl, rfl, .inr (.inr ⟨trivial, Prod.ext e' hk⟩)⟩
      · rw [decide_eq_false hk]
        simp only [Bool.not_false, if_true]
        have hf : decide (p = q) = false := decide_eq_false fun z => hk (by rw [z])
        rw [hf] at h
        exact wpAny_bind (wpAny_pure (wpAny_pure (wpAny_pure h)))
    · cases e
  · rintro ⟨r1, r2⟩ s' ⟨hr, rfl, e | ⟨e, _⟩ | ⟨_, e⟩⟩
    · cases e
    · cases e
    · simp only at hr
      subst hr
      refine wpAny_pure ?_
      show P (.done (.ret (.bool true))) s'
      rw [decide_eq_true e] at h
      exact h
theorem eqBool_pk {p q : List Int × List Int} {a b : Addr} {Q : Bool → Shared → Prop} (hu : A.units + 1 < cLine) (hx : IsPK prog w s.heap p a) (hy : IsPK prog w s.heap q b) (h : Q (decide (p = q)) s) :
    wpAny (model prog w) A (eqBool (.ref a) (.ref b)) Q E s := by
  unfold eqBool
  try with_reducible refine wpAny_holding ?_
  show wpAny _ _ (if (Value.ref a == Value.ref b) = true then _ else _) Q E s
  by_cases hab : (Value.ref a == Value.ref b) = true
  · rw [if_pos hab]
    have e : a = b := by have := eq_of_beq hab; injection this
    subst e
    obtain rfl := hx.inj hy
    exact wpAny_bind (wpAny_rule (wpAny_pure (by simpa using h)))
  · rw [if_neg hab]
    exact wpAny_bind (wpAny_richCompare_same_room (op := .Eq) hx.typeIs hy.typeIs F.slot_tuple_eq
      (wpAny_call_entry F.slot_tuple_eq hx.typeIs F.entry_tuple_eq (pk_eq_tree (A := A.in1) hu hx hy ⟨_, rfl, (fun e => nomatch e), wpAny_truthy_bool h⟩) (F.args_tuple_eq_2 _ _)) (by omega))
theorem quiet_tupN {K : Type} [DecidableEq K] {knd : KeyKind prog w K} {ks : List K} {a : Addr} (n : Nat) {Q : Bool → Shared → Prop} (hk : IsTupleKey knd s.heap ks a) (h : Q true s) : wpAny (model prog w) A (eqIsQuiet (n + 1) (.ref a)) Q E s := by
  have hT := hk.typeIs
  obtain ⟨o, items, m, ho, _, hd, hi⟩ := hk
  unfold eqIsQuiet
  refine wpAny_bind (wpAny_specialOf hT F.slot_tuple_eq.lookup ?_)
  show wpAny _ _ (isInstance (.ref a) (.type "tuple") >>= _) _ _ s
  refine wpAny_bind (wpAny_isInstance hT isSubtype_tuple_tuple ?_)
  simp only [Bool.not_true, Bool.false_eq_true, if_false]
  refine wpAny_bind (wpAny_seqItems ho hd ?_)
  refine wpAny_bind ?_
  show wpAny _ _ (forIn items _ _) _ _ s
  rw [← Array.forIn_toList]
  refine wpAny_forIn_list _ (fun rest r s' => r.1 = none ∧ s' = s ∧ ∀ v ∈ rest, carriedByValue v = true) _ ?_ ?_ _ _ ⟨rfl, rfl, hi.byValue⟩
  · rintro v rest r s' ⟨hr, rfl, hall⟩
    rw [eqIsQuiet_byValue _ (hall v List.mem_cons_self)]
    refine wpAny_bind (wpAny_pure ?_)
    simp only [Bool.not_true, Bool.false_eq_true, if_false]
    exact wpAny_pure ⟨rfl, rfl, fun u hu' => hall u (List.mem_cons_of_mem _ hu')⟩
  · rintro ⟨r1, r2⟩ s' ⟨hr, rfl, _⟩
    simp only at hr
    subst hr
    exact wpAny_pure h
theorem quiet_pk {k : List Int × List Int} {a : Addr} {Q : Bool → Shared → Prop} (hk : IsPK prog w s.heap k a) (h : Q true s) : wpAny (model prog w) A (eqIsQuiet 8 (.ref a)) Q E s := by
  have hT := hk.typeIs
  obtain ⟨o, n, x, y, ho, _, hd, h1, h2⟩ := hk
  unfold eqIsQuiet
  refine wpAny_bind (wpAny_specialOf hT F.slot_tuple_eq.lookup ?_)
  show wpAny _ _ (isInstance (.ref a) (.type "tuple") >>= _) _ _ s
  refine wpAny_bind (wpAny_isInstance hT isSubtype_tuple_tuple ?_)
  simp only [Bool.not_true, Bool.false_eq_true, if_false]
  refine wpAny_bind (wpAny_seqItems ho hd ?_)
  refine wpAny_bind ?_
  show wpAny _ _ (forIn (#[Value.ref x, Value.ref y] : Array Value) _ _) _ _ s
  rw [← Array.forIn_toList]
  refine wpAny_forIn_list _ (fun rest r s' => r.1 = none ∧ s' = s ∧ ∀ v ∈ rest, ∃ c z, v = Value.ref z ∧ (TI2 prog w).is s.heap c z) _ ?_ ?_ _ _ ⟨rfl, rfl, fun v hv => ?_⟩
  · rintro v rest r s' ⟨hr, rfl, hall⟩
    obtain ⟨c, z, rfl, hz⟩ := hall v List.mem_cons_self
    refine wpAny_bind (quiet_tupN 6 hz ?_)
    simp only [Bool.not_true, Bool.false_eq_true, if_false]
    exact wpAny_pure ⟨rfl, rfl, fun u hu' => hall u (List.mem_cons_of_mem _ hu')⟩
  · rintro ⟨r1, r2⟩ s' ⟨hr, rfl, _⟩
    simp only at hr
    subst hr
    exact wpAny_pure h
  · simp at hv
    rcases hv with rfl | rfl
    · exact ⟨_, _, rfl, h1⟩
    · exact ⟨_, _, rfl, h2⟩
def pairKind (prog : Program) (w : World) : HeapKind prog w (List Int × List Int) where
  is := IsPK prog w
  hash := hashP
  draws := fun k => k.1.length + 1 + (k.2.length + 1) + 1
  room := fun A => A.units + 1 < cLine
  inj := fun hx hy => hx.inj hy
  keeps := fun x ho hd hs => x.keeps ho hd hs
  pyHash := fun hu hk h => pyHash_pk hu hk h
  eqBool := fun hu hx hy h => eqBool_pk hu hx hy h
  quiet := fun hk h => quiet_pk hk h
end
end L2
namespace L2
open PySem PySem.Spec PyProof.Rows
abbrev PKey := (List Int × List Int) × Addr
def entP (x : PKey) : DictEntry := ⟨hashP x.1, .ref x.2, .bool true⟩
def dP (a : Addr) (xs : List PKey) : HO := .ext fun h => (a == sysModules) = false ∧ ∃ o es ep, h.get? a = some o ∧ o.ExactDict ∧ o.data = .dict es ep ∧ es.toList = xs.map entP
def PkAt (H : Hp) (k : List Int × List Int) (b : Addr) : Prop := ∃ c d, H b = some (.tup [.ref c, .ref d]) ∧ H c = some (.tup (k.1.map V.int)) ∧ H d = some (.tup (k.2.map V.int))
def PKs (H : Hp) (xs : List PKey) : Prop := xs.length ≤ 1000 ∧ (xs.map (·.1)).Nodup ∧ ∀ x ∈ xs, PkAt H x.1 x.2
def addP (xs : List PKey) (k : List Int × List Int) (b : Addr) : List PKey := if k ∈ xs.map (·.1) then xs else xs ++ [(k, b)]
def delP (xs : List PKey) (k : List Int × List Int) : List PKey := xs.filter fun x => decide (x.1 ≠ k)
abbrev upP (x : PKey) : (List Int × List Int) × Addr × Value := (x.1, x.2, .bool true)
theorem pk_is {P : Program} {w : World} {H : Hp} {h : Heap} {k : List Int × List Int} {b : Addr} (ok : HOk P w H h) (pk : PkAt H k b) : IsPK P w h k b := by
  obtain ⟨c, d, h1, h2, h3⟩ := pk
  obtain ⟨_, its, rv, o, ho, hc, n, hd⟩ := ok b _ h1
  obtain ⟨u1, u2, rfl, r1, r2⟩ := vals2 rv
  cases r1; cases r2
  exact ⟨o, n, c, d, ho, hc, hd, itup_is (tup_itup ok h2), itup_is (tup_itup ok h3)⟩
theorem ext_dP {P : Program} {w : World} {H : Hp} {h : Heap} {a : Addr} {xs : List PKey} (hs : (a == sysModules) = false) (e : ∃ o es ep, h.get? a = some o ∧ o.ExactDict ∧ o.data = .dict es ep ∧ es.toList = xs.map entP) : ObjOk P w H h a (dP a xs) := by
  obtain ⟨o, es, ep, h1, h2, h3, h4⟩ := e
  refine ⟨⟨hs, o, es, ep, h1, h2, h3, h4⟩, ⟨o, h1⟩, ?_⟩
  rintro g1 g2 ⟨hs, o', es, ep, e1, e2⟩ k
  exact ⟨hs, o', es, ep, k _ e1, e2⟩
theorem dP_of {P : Program} {w : World} {H : Hp} {h : Heap} {a : Addr} {xs : List PKey} (ok : HOk P w H h) (e : H a = some (dP a xs)) (pk : PKs H xs) : (a == sysModules) = false ∧ h.DictOfH (pairKind P w) a (xs.map upP) := by
  obtain ⟨⟨hs, o, es, ep, h1, h2, h3, h4⟩, _, _⟩ := ok a _ e
  refine ⟨hs, o, es, ep, h1, h2, h3, ?_, ?_, ?_⟩
  · rw [h4, List.map_map]; rfl
  · intro x hx
    obtain ⟨y, hy, rfl⟩ := List.mem_map.mp hx
    exact pk_is ok (pk.2.2 y hy)
  · rw [List.map_map]; exact pk.2.1
theorem at_upP {xs : List PKey} {k : List Int × List Int} : (atKey (xs.map upP) k).isSome = decide (k ∈ xs.map (·.1)) := by
  induction xs with
  | nil => rfl
  | cons x xs ih =>
    unfold atKey at ih ⊢
    rw [List.map_cons, List.find?_cons]
    by_cases e : x.1 = k
    · simp [e]
    · rw [show (decide ((upP x).1 = k)) = false from decide_eq_false e]
      simp only
      rw [ih]
      simp [Ne.symm e]
theorem stored_upP {xs : List PKey} {k : List Int × List Int} {b : Addr} : storedH (xs.map upP) k b (.bool true) = (addP xs k b).map upP := by
  unfold storedH addP
  rw [at_upP]
  by_cases e : k ∈ xs.map (·.1)
  · rw [if_pos e, if_pos (by simpa using e), List.map_map]
    refine List.map_congr_left fun x _ => ?_
    show putAt k (.bool true) (upP x) = upP x
    unfold putAt
    split <;> rfl
  · rw [if_neg e, if_neg (by simpa using e), List.map_append]; rfl
theorem del_upP {xs : List PKey} {k : List Int × List Int} : delA (xs.map upP) k = (delP xs k).map upP := by
  unfold delA delP
  rw [List.filter_map]
  rfl
theorem ent_upP {P : Program} {w : World} {xs : List PKey} : (xs.map upP).map (entryOfKey (pairKind P w)) = xs.map entP := by rw [List.map_map]; rfl
section
variable {X : Cx}
def tBMP (r : V → List V → Hp → VK → Prop) (to : TE) (t : TA) : TE := fun σ H Q => to σ H fun x H1 => (∃ a xs, x = .ref a ∧ H1 a = some (dP a xs)) ∧ t σ H1 fun xs H2 => r x xs H2 Q
theorem pe_bmP {o e : Expr} {es : List Expr} {to : TE} {t : TA} {name : Str} {apos cpos : Pos} {id : String} {r : V → List V → Hp → VK → Prop} (pa : PlainAttrs "dict") (slot : Slot "dict" name id) (hty : typeOf (.builtin id) = pure (.type "method_descriptor")) (hm : MtR X id r) (ho : PE X o to) (ha : PA X (e :: es) t)
    (hbase : attributeBase o name X.env (eval o X.env) = eval o X.env := by rfl)
    (hfew : ((backTo cpos (starEach (e :: es) X.env)).all (fun x => !x.1) && (backToKw cpos (keywordEach [] X.env)).all (fun x => x.1.isSome)
      && decide ((e :: es).length + ([] : List Keyword).length + (if ([] : List Keyword).isEmpty then 0 else 1) < 30)) = true := by rfl)
    (hline : (apos.endLine == cpos.line) = true := by rfl) (hs : starEach (e :: es) X.env = (false, eval e X.env) :: starEach es X.env := by rfl) (hplain : (backTo cpos (starEach es X.env)).any (·.1) = false := by rfl) :
    PE X (.Call (.Attribute o name apos) (e :: es) [] cpos) (tBMP r to t) := by
  intro pins s σ H Q I h
  refine wpAny_Call_method_late hbase hfew hline rfl (thn (ho pins s σ H _ I h) fun v s1 ⟨x, H1, I1, r1, ⟨a, xs, ex, ea⟩, q1⟩ => ?_)
  subst ex
  obtain rfl : v = Value.ref a := r1
  obtain ⟨⟨_, ob, _, _, g1, g2, _, _⟩, _, _⟩ := I1.hok a _ ea
  refine ⟨"dict", id, pa, slot, hty, ⟨ob, g1, g2.1⟩, (fun a' e' => by cases e'; exact ⟨ob, g1, g2.2.1⟩), ?_⟩
  have hA := ha cpos pins s1 σ H1 _ I1 q1
  rw [hs] at hA ⊢
  refine Calls.callWith_builtin (by show (false || (backTo cpos (starEach es X.env)).any (·.1)) = false; rw [hplain] <;> rfl) (Calls.evalArgs_plain ?_)
  exact thn hA fun us s2 ⟨vs, H2, I2, r2, q2⟩ => hm pins s2 σ H2 (.ref a) vs (.ref a) us Q I2 rfl r2 q2
def tDNewP : TE := fun _ H Q => ∀ p, H p = none → Q (.ref p) (upd H p (dP p []))
theorem pe_dnewP {pos : Pos} : PE X (.Dict [] [] pos) tDNewP := fun pins s σ H Q I h => by
  have q := h _ (I.hok.fresh (Nat.le_refl _))
  exact wpAny_Dict_empty ⟨.ref s.heap.objs.size, _, I.laid (a := s.heap.objs.size) (o := dP s.heap.objs.size []) (t' := s.toks) (fun _ _ q => Heap.get?_push_of_some _ q) (Nat.le_refl _)
    (ext_dP (beq_eq_false_iff_ne.mpr (Ne.symm (Nat.ne_of_lt I.big))) ⟨_, #[], 0, Heap.get?_push_size _ rfl, ⟨rfl, rfl, rfl⟩, rfl, rfl⟩), rfl, q⟩
def sDPutP (td ty tv : TE) : TS := fun D σ H => tv σ H fun v H1 => td σ H1 fun x H2 => ty σ H2 fun y H3 => ∃ a b k xs, v = .bl true ∧ x = .ref a ∧ y = .ref b ∧ H3 a = some (dP a xs) ∧ PKs H3 xs ∧ PkAt H3 k b ∧ D.nx σ (upd H3 a (dP a (addP xs k b)))
theorem ps_dputP {o i value : Expr} {td ty tv : TE} {pos pos' : Pos} (hu : X.A.units + 2 < cLine) (ho : PE X o td) (hi : PE X i ty) (hv : PE X value tv) (hs : swapsWith value (some (.Subscript o i pos')) pos.line X.env = pure false) :
    PS X (.Assign [.Subscript o i pos'] value pos) (sDPutP td ty tv) := by
  intro pins s σ H D I h
  refine wpAny_Assign_Subscript (thn (hv pins s σ H _ I h) fun r s1 ⟨v, H1, I1, rv, q1⟩ => thn (ho pins s1 σ H1 _ I1 q1) fun u s2 ⟨x, H2, I2, rx, q2⟩ => thn (hi pins s2 σ H2 _ I2 q2) fun iv s3 ⟨y, H3, I3, ry, a, b, k, xs, ev, ex, ey, ea, pk, kb, q3⟩ => ?_) hs
  subst ev ex ey
  obtain rfl : u = Value.ref a := rx
  obtain rfl : iv = Value.ref b := ry
  obtain rfl : r = Value.bool true := rv
  obtain ⟨hs, dd⟩ := dP_of I3.hok ea pk
  refine wpAny_setItem_heap (hsz := by have := pk.1; have : sizeLine = 2 ^ 24 := rfl; simp; omega) (show X.A.units + 1 + 1 < cLine by omega) (pk_is I3.hok kb) dd fun h' dd' hs' => ⟨σ, _, ?_, q3⟩
  obtain ⟨q, es, ep, hq, h2, h3, h4, _, h5⟩ := dd'
  rw [stored_upP, ent_upP] at h4
  exact d_write I3 (by rw [ea]; exact True.intro) hs' ⟨q, hq⟩ (ext_dP hs ⟨q, es, ep, hq, h2, h3, h4⟩)
def rPopP : V → List V → Hp → VK → Prop := fun x vs H Q => ∃ a b k xs, x = .ref a ∧ vs = [.ref b] ∧ H a = some (dP a xs) ∧ PKs H xs ∧ PkAt H k b ∧ k ∈ xs.map (·.1) ∧ Q (.bl true) (upd H a (dP a (delP xs k)))
theorem mt_popP {j : Nat} (hr : Room j X.A) : MtR X "dict.pop" rPopP := by
  intro pins s σ H x vs v us Q I rx rv h
  obtain ⟨a, b, k, xs, rfl, rfl, ea, pk, kb, hm, q⟩ := h
  cases rx
  obtain ⟨u1, rfl, r1⟩ := vals1 rv
  cases r1
  obtain ⟨hd, dd⟩ := dP_of I.hok ea pk
  have hz : (xs.map upP).length ≤ sizeLine := by have := pk.1; have : sizeLine = 2 ^ 24 := rfl; simp; omega
  have hu := hr.units
  have hs := at_upP (xs := xs) (k := k)
  rw [decide_eq_true hm] at hs
  obtain ⟨p, ep⟩ := Option.isSome_iff_exists.mp hs
  have pv : p.2 = .bool true := by
    unfold atKey at ep
    obtain ⟨y, hy, rfl⟩ := Option.map_eq_some_iff.mp ep
    obtain ⟨z, _, rfl⟩ := List.mem_map.mp (List.mem_of_find?_eq_some hy)
    rfl
  refine wpAny_call_entry PySem.F.slot_dict_pop dd.typeIs PySem.F.entry_dict_pop ?_ (PySem.F.args_dict_pop_2 _ _)
  unfold Builtin.«dict.pop»
  refine wpAny_bind ?_
  unfold Builtin.Dict.keyAndDefault
  refine wpAny_bind (wpAny_notOrdered_dict dd.typeIs ?_)
  show wpAny _ _ (pure (a, Value.ref b, none)) _ _ s
  refine wpAny_pure ?_
  obtain ⟨od, es, epo, go, gc, gd, ge, gi, gn⟩ := id dd
  have ne : es.isEmpty = false := by
    cases q : es.isEmpty with
    | false => rfl
    | true =>
      have : es = #[] := by simpa using q
      rw [this] at ge
      cases xs with
      | nil => cases hm
      | cons _ _ => cases ge
  refine wpAny_bind (wpAny_dictEntries go gd (wpAny_bind (wpAny_pure ?_)))
  rw [ne]
  simp only [Bool.false_eq_true, if_false]
  refine wpAny_bind (takeOut_heap (knd := pairKind X.prog X.w) (show X.A.units + 1 + 1 < cLine by omega) (pk_is I.hok kb) dd ep (fun h' e hev dd' hs' => ?_) hz)
  simp only [Option.isNone_some, Bool.false_eq_true, if_false]
  refine wpAny_bind (wpAny_letGo (wpAny_pure ⟨e.val, rfl, ?_⟩))
  obtain ⟨q', es', ep', hq, g2, g3, g4, _, g5⟩ := dd'
  rw [del_upP, ent_upP] at g4
  exact ⟨.bl true, _, d_write I (by rw [ea]; exact True.intro) hs' ⟨q', hq⟩ (ext_dP hd ⟨q', es', ep', hq, g2, g3, g4⟩), by rw [hev, pv]; rfl, q⟩
end
theorem pks_add {H : Hp} {xs : List PKey} {k : List Int × List Int} {b : Addr} (p : PKs H xs) (hl : xs.length < 1000) (kb : PkAt H k b) : PKs H (addP xs k b) := by
  unfold addP
  split
  · exact p
  · rename_i e
    refine ⟨by simp; omega, ?_, fun x hx => ?_⟩
    · rw [List.map_append, List.nodup_append]
      refine ⟨p.2.1, by simp, fun a ha c hc => ?_⟩
      cases List.mem_singleton.mp hc
      exact fun (z : a = k) => e (z ▸ ha)
    · rcases List.mem_append.mp hx with hx | hx
      · exact p.2.2 x hx
      · cases List.mem_singleton.mp hx; exact kb
theorem pks_del {H : Hp} {xs : List PKey} {k : List Int × List Int} (p : PKs H xs) : PKs H (delP xs k) :=
  ⟨Nat.le_trans (List.length_filter_le ..) p.1, p.2.1.sublist (List.Sublist.map _ List.filter_sublist), fun x hx => p.2.2 x (List.mem_filter.mp hx).1⟩
theorem PkAt.keeps {H H' : Hp} {k : List Int × List Int} {b : Addr} (p : PkAt H k b) (ht : ∀ b ys, H b = some (.tup ys) → H' b = some (.tup ys)) : PkAt H' k b := let ⟨c, d, h1, h2, h3⟩ := p; ⟨c, d, ht _ _ h1, ht _ _ h2, ht _ _ h3⟩
theorem PKs.keeps {H H' : Hp} {xs : List PKey} (p : PKs H xs) (ht : ∀ b ys, H b = some (.tup ys) → H' b = some (.tup ys)) : PKs H' xs := ⟨p.1, p.2.1, fun x hx => (p.2.2 x hx).keeps ht⟩
theorem addP_keys {xs : List PKey} {k j : List Int × List Int} {b : Addr} : j ∈ (addP xs k b).map (·.1) ↔ j ∈ xs.map (·.1) ∨ j = k := by
  unfold addP
  split
  · rename_i e
    exact ⟨.inl, fun z => z.elim id fun z => z ▸ e⟩
  · simp
theorem delP_keys {xs : List PKey} {k j : List Int × List Int} : j ∈ (delP xs k).map (·.1) ↔ j ∈ xs.map (·.1) ∧ j ≠ k := by
  unfold delP
  constructor
  · intro h
    obtain ⟨x, hx, rfl⟩ := List.mem_map.mp h
    obtain ⟨h1, h2⟩ := List.mem_filter.mp hx
    exact ⟨List.mem_map.mpr ⟨x, h1, rfl⟩, of_decide_eq_true h2⟩
  · rintro ⟨h, ne⟩
    obtain ⟨x, hx, rfl⟩ := List.mem_map.mp h
    exact List.mem_map.mpr ⟨x, List.mem_filter.mpr ⟨hx, decide_eq_true ne⟩, rfl⟩
theorem rawP_of {P : Program} {w : World} {H : Hp} {h : Heap} {d : Addr} {o : Obj} {xs : List PKey} (ok : HOk P w H h) (e : H d = some (.frz o (dP d xs))) : (d == sysModules) = false ∧ h.get? d = some o ∧ o.ExactDict ∧ ∃ es ep, o.data = .dict es ep ∧ es.toList = xs.map entP := by
  obtain ⟨ho, ⟨hs, o', es, ep, h1, h2, h3, h4⟩, _⟩ := ok d _ e
  rw [ho] at h1
  cases h1
  exact ⟨hs, ho, h2, es, ep, h3, h4⟩
def ItP (d : Addr) (o : Obj) (xs : List PKey) : It :=
  ⟨fun i H => H d = some (.frz o (dP d xs)) ∧ i < xs.length, fun i H x H' => H' = H ∧ ∃ q, xs[i]? = some q ∧ x = .ref q.2, fun i H => H d = some (.frz o (dP d xs)) ∧ xs.length ≤ i⟩
theorem turn_keysP {P : Program} {w : World} {K : PySem.W.Frag} {tg : Expr} (d it : Addr) (o : Obj) (xs : List PKey) (es : Array DictEntry) (ep : Nat) (hd : o.data = .dict es ep) :
    Turn P w K tg (ItP d o xs) [it] it (fun i h => h.IsKeyIter it d i es.size ep) where
  mem := by simp
  obj := fun i h st b hb => by
    rw [List.mem_singleton.mp hb]
    obtain ⟨oi, e, c, q⟩ := st
    exact ⟨oi, e, fun v z => by rw [q] at z; cases z⟩
  keep := fun i h h' st k => keyiter_at st fun oi e => k it (by simp) oi e
  item := by
    intro X hP hw hK hc i pins s σ H E I hf st hg
    subst hP hw hK
    obtain ⟨hH, hi⟩ := hg
    obtain ⟨_, hod, _, es', ep', hd', hz⟩ := rawP_of I.hok hH
    rw [hd] at hd'; cases hd'
    obtain ⟨f0, f1, f2, f3, f4, f5⟩ := hf it (by simp)
    have sz : es.size = xs.length := by rw [← Array.length_toList, hz, List.length_map]
    have hi' : i < es.size := by omega
    have ee : es[i] = entP xs[i] := by
      have : es.toList[i]? = (xs.map entP)[i]? := by rw [hz]
      rw [Array.getElem?_toList, Array.getElem?_eq_getElem hi', List.getElem?_map, List.getElem?_eq_getElem hi] at this
      exact Option.some.inj this
    refine rk_next st hod hd hi' fun h' st' sb => ?_
    have I1 : Inv X pins σ H { s with heap := h' } := I.turned (t' := s.toks) (fun b ob hb e => (sb.2 b hb).trans e) f0 f1 f3 f4 f5
    obtain ⟨oi, e, c, q⟩ := id st'
    exact ⟨_, rfl, go_of (s := { s with heap := h' }) e c q (by decide) ⟨.ref xs[i].2, H, I1, by rw [ee]; rfl, ⟨rfl, xs[i], List.getElem?_eq_getElem hi, rfl⟩, st', fun b hb => (hf b hb).1⟩⟩
  done := by
    intro X hP hw hK hc i pins s σ H E I hf st hg
    subst hP hw hK
    obtain ⟨hH, hi⟩ := hg
    obtain ⟨_, hod, _, es', ep', hd', hz⟩ := rawP_of I.hok hH
    rw [hd] at hd'; cases hd'
    have sz : es.size = xs.length := by rw [← Array.length_toList, hz, List.length_map]
    obtain ⟨f0, f1, f2, f3, f4, f5⟩ := hf it (by simp)
    exact rk_end (I.ok.hd hc) st hod hd (by omega) fun h' eb => ⟨rfl, I.turned (t' := s.toks) (fun b ob hb e => eb b ob hb e) f0 f1 f3 f4 f5⟩
  self := fun A i s Q E st h => by
    refine wpAny_pyIter_slot st.typeIs F.slot_dict_keyiterator_iter (wpAny_call_entry F.slot_dict_keyiterator_iter st.typeIs F.entry_dict_keyiterator_iter ?_ (F.args_dict_keyiterator_iter_1 _))
    show wpAny _ _ (ret (.ref it)) _ _ s
    exact wpAny_pure ⟨_, rfl, "dict_keyiterator", _, st.typeIs, F.slot_dict_keyiterator_next.lookup, h⟩
def iKeysP (te : TE) : TI := fun σ H R => te σ H fun x H1 => ∃ d o xs, x = .ref d ∧ H1 d = some (.frz o (dP d xs)) ∧ R (ItP d o xs) H1
theorem pi_keysP {X : Cx} {tg e : Expr} {te : TE} (he : PE X e te) : PI X tg e (iKeysP te) := by
  intro pins s σ H R I h
  refine thn (he pins s σ H _ I h) fun v s1 ⟨x, H1, I1, r, d, o, xs, ex, hd, q⟩ => ?_
  subst ex
  cases (show v = Value.ref d from r)
  obtain ⟨hS, hod, hc, es, ep, hdd, hz⟩ := rawP_of I1.hok hd
  refine rk_iter hS hod hc hdd ?_
  have kk : ∀ b ob, s1.heap.get? b = some ob → (s1.heap.push { cls := .type "dict_keyiterator", data := .fields #[.ref d, .int 0 0, .int es.size 0, .int ep 0] }).get? b = some ob := fun b ob z => Heap.get?_push_of_some _ z
  refine ⟨s1.heap.objs.size, [s1.heap.objs.size], _, _, H1, rfl, I1.kept (t' := s1.toks) kk, turn_keysP d _ o xs es ep hdd, ⟨_, Heap.get?_push_size _ rfl, rfl, rfl⟩, fun b hb => ?_, q⟩
  rw [List.mem_singleton.mp hb]
  exact I1.fpOk (Nat.le_refl _) (I1.hok.fresh (Nat.le_refl _))
theorem for_keysP {d : Addr} {o : Obj} {xs : List PKey} {g : TG} {tb : TS} {D : Ends} {σ : St} {H : Hp} (Pv : Nat → St → Hp → Prop) (h0 : Pv 0 σ H) (hl : ∀ i σ H, i ≤ xs.length → Pv i σ H → H d = some (.frz o (dP d xs)))
    (hs : ∀ i q σ H, xs[i]? = some q → i < xs.length → Pv i σ H → g (.ref q.2) σ H fun σ2 H2 => tb { D with nx := Pv (i + 1), ct := Pv (i + 1), bk := D.nx } σ2 H2) (hd : ∀ σ H, Pv xs.length σ H → D.nx σ H) :
    ∃ W : Nat → Nat → St → Hp → Prop, (∃ m, W 0 m σ H) ∧ ∀ i m σ H, W i m σ H →
      ((ItP d o xs).stop i H ∧ D.nx σ H) ∨ ((ItP d o xs).go i H ∧ ∃ N : St → Hp → Prop, (∀ σ' H', N σ' H' → ∃ m', m' < m ∧ W (i + 1) m' σ' H') ∧ ∀ x H', (ItP d o xs).yld i H x H' → g x σ H' fun σ2 H2 => tb { D with nx := N, ct := N, bk := D.nx } σ2 H2) := by
  refine ⟨fun i m σ H => m = xs.length - i ∧ i ≤ xs.length ∧ Pv i σ H, ⟨xs.length, by simp, Nat.zero_le _, h0⟩, ?_⟩
  rintro i m σ H ⟨rfl, hi, p⟩
  have q := hl i σ H hi p
  by_cases hlt : i < xs.length
  · refine .inr ⟨⟨q, hlt⟩, Pv (i + 1), fun σ' H' p' => ⟨xs.length - (i + 1), by omega, rfl, hlt, p'⟩, fun x H' y => ?_⟩
    obtain ⟨e, v, k, ev⟩ := y
    subst e ev
    exact hs i v σ _ k hlt p
  · have e : i = xs.length := by omega
    subst e
    exact .inl ⟨⟨q, Nat.le_refl _⟩, hd σ H p⟩
theorem op_catTK {X : Cx} {K : PySem.W.Frag} (hK : X.K = K) : OpR X (binaryOp .Add) (rCatT K) := by subst hK; exact op_catT
theorem Room.two {k : Nat} {A : Around} (r : Room k A) : A.units + 2 < cLine := by have := r.un; omega
end L2
namespace L2
open PySem PySem.Spec PyProof.Rows
def rotL (x : Nat) : Nat := (x * 2147483648) % 18446744073709551616 + x / 8589934592
def rotR (x : Nat) : Nat := x / 2147483648 + (x % 2147483648) * 8589934592
def lane (acc h : Nat) : Nat := rotL ((acc + h * 14029467366897019727) % 18446744073709551616) * 11400714785074694791 % 18446744073709551616
def unmix (y : Nat) : Nat := rotR (y * 614540362697595703 % 18446744073709551616)
theorem rot_lt {x : Nat} (h : x < 18446744073709551616) : rotL x < 18446744073709551616 := by unfold rotL; omega
theorem rotR_rotL {x : Nat} (h : x < 18446744073709551616) : rotR (rotL x) = x := by
  obtain ⟨g, l, rfl, h1, h2⟩ : ∃ g l, x = 8589934592 * g + l ∧ l < 8589934592 ∧ g < 2147483648 := ⟨x / 8589934592, x % 8589934592, by omega, by omega, by omega⟩
  have e : rotL (8589934592 * g + l) = l * 2147483648 + g := by unfold rotL; omega
  rw [e]
  unfold rotR
  omega
theorem mul_inv1 {x : Nat} (h : x < 18446744073709551616) : x * 11400714785074694791 % 18446744073709551616 * 614540362697595703 % 18446744073709551616 = x := by omega
theorem mul_inv2 {x : Nat} (h : x < 18446744073709551616) : x * 14029467366897019727 % 18446744073709551616 * 839798700976720815 % 18446744073709551616 = x := by omega
theorem lane_lt (acc h : Nat) : lane acc h < 18446744073709551616 := by unfold lane; exact Nat.mod_lt _ (by decide)
theorem unmix_lane (acc h : Nat) : unmix (lane acc h) = (acc + h * 14029467366897019727) % 18446744073709551616 := by
  have hx : (acc + h * 14029467366897019727) % 18446744073709551616 < 18446744073709551616 := Nat.mod_lt _ (by decide)
  unfold unmix lane
  rw [mul_inv1 (rot_lt hx), rotR_rotL hx]
theorem hashInt_small {a : Nat} (h : a < 2000000000000000000) : hashInt (a : Int) = a := by
  have e : rawHash (a : Int) = a := by
    unfold rawHash
    have hn : ¬ ((a : Int) < 0) := by omega
    have e1 : ((a : Int).natAbs : Int) % ((2 ^ 61 - 1 : Nat) : Int) = a := by
      rw [Int.natAbs_natCast]
      exact Int.emod_eq_of_lt (by omega) (by omega)
    simp only [hn, if_false]
    first | rw [e1] | simp only [Int.natAbs_natCast]
    rw [if_neg (by intro z; have := eq_of_beq z; omega)]
  unfold hashInt
  rw [e, if_neg (by intro z; have := eq_of_beq z; omega)]
theorem lane_step (acc : Nat) (h : Nat) : ((acc + h * 14029467366897019727) % 2 ^ 64 * 2 ^ 31 % 2 ^ 64 + (acc + h * 14029467366897019727) % 2 ^ 64 / 2 ^ 33) * 11400714785074694791 % 2 ^ 64 = lane acc h := by
  have p64 : (2 : Nat) ^ 64 = 18446744073709551616 := by decide
  have p31 : (2 : Nat) ^ 31 = 2147483648 := by decide
  have p33 : (2 : Nat) ^ 33 = 8589934592 := by decide
  unfold lane rotL
  rw [p64, p31, p33]
def hFin (n acc : Nat) : Int := if ((acc + (n ^^^ (2870177450012600261 ^^^ 3527539))) % 2 ^ 64 == 2 ^ 64 - 1) = true then 1546275796 else
  if (acc + (n ^^^ (2870177450012600261 ^^^ 3527539))) % 2 ^ 64 < 2 ^ 63 then (((acc + (n ^^^ (2870177450012600261 ^^^ 3527539))) % 2 ^ 64 : Nat) : Int) else (((acc + (n ^^^ (2870177450012600261 ^^^ 3527539))) % 2 ^ 64 : Nat) : Int) - ((2 ^ 64 : Nat) : Int)
theorem th_eq (hs : List Int) : Builtin.Tuple.tupleHashOf hs = hFin hs.length (hs.foldl (fun acc h => lane acc (h % ((2 ^ 64 : Nat) : Int)).toNat) 2870177450012600261) := by
  unfold Builtin.Tuple.tupleHashOf
  simp only [lane_step]
  rfl
theorem hFin_of {n c acc : Nat} (hc : n ^^^ (2870177450012600261 ^^^ 3527539) = c) (hne : (acc + c) % 18446744073709551616 ≠ 18446744073709551615) :
    reduceHash (hFin n acc) = if (acc + c) % 18446744073709551616 < 9223372036854775808 then (((acc + c) % 18446744073709551616 : Nat) : Int) else (((acc + c) % 18446744073709551616 : Nat) : Int) - 18446744073709551616 := by
  have hlt : (acc + c) % 18446744073709551616 < 18446744073709551616 := Nat.mod_lt _ (by decide)
  have e : hFin n acc = if (acc + c) % 18446744073709551616 < 9223372036854775808 then (((acc + c) % 18446744073709551616 : Nat) : Int) else (((acc + c) % 18446744073709551616 : Nat) : Int) - 18446744073709551616 := by
    unfold hFin
    rw [hc, show (2 : Nat) ^ 64 = 18446744073709551616 from by decide, show (2 : Nat) ^ 63 = 9223372036854775808 from by decide, if_neg (by intro z; exact hne (by simpa using z))]
    rfl
  rw [e]
  generalize (acc + c) % 18446744073709551616 = f at *
  unfold reduceHash
  split <;> (rw [if_pos (by simp; omega)]; rw [if_neg (by intro z; have := eq_of_beq z; omega)])
end L2
namespace L2
open PySem PySem.Spec PyProof.Rows
def A37 : Nat := lane (lane 2870177450012600261 3) 7
def l3 (a b c : Nat) : Nat := lane (lane (lane 2870177450012600261 a) b) c
def un3 (A u : Nat) : Nat := (u + (18446744073709551616 - A)) * 839798700976720815 % 18446744073709551616
theorem un3_of {A n u : Nat} (hA : A < 18446744073709551616) (hn : n < 18446744073709551616) (e : (A + n * 14029467366897019727) % 18446744073709551616 = u) : n = un3 A u := by
  subst e
  unfold un3
  rw [Nat.mul_mod, Nat.mod_add_mod]
  have : A + n * 14029467366897019727 + (18446744073709551616 - A) = n * 14029467366897019727 + 18446744073709551616 := by
    generalize n * 14029467366897019727 = q
    omega
  rw [this, Nat.add_mod_right, ← Nat.mul_mod]
  have h := mul_inv2 hn
  rw [Nat.mod_mul_mod] at h
  exact h.symm
theorem far3 : ∀ a < 2, ∀ b < 3, ∀ c < 2, 10000000000 ≤ un3 A37 ((lane (lane 2870177450012600261 a) b + c * 14029467366897019727) % 18446744073709551616) := by decide +kernel
theorem far3_ne {a b c n : Nat} (ha : a < 2) (hb : b < 3) (hc : c < 2) (hn : n < 10000000000) : l3 3 7 n ≠ l3 a b c := by
  intro e
  have e1 := congrArg unmix e
  unfold l3 at e1
  rw [unmix_lane, unmix_lane] at e1
  have := un3_of (A := A37) (n := n) (lane_lt _ _) (by omega) e1
  have z := far3 a ha b hb c hc
  rw [← this] at z
  omega
theorem fin3_all : 10000000000 ≤ un3 A37 (unmix ((18446744073709551615 + (18446744073709551616 - 2870177450013471925)) % 18446744073709551616)) := by decide +kernel
theorem fin3_far {n : Nat} (hn : n < 10000000000) : (l3 3 7 n + 2870177450013471925) % 18446744073709551616 ≠ 18446744073709551615 := by
  intro e
  have hl : l3 3 7 n < 18446744073709551616 := lane_lt _ _
  have e' : l3 3 7 n = (18446744073709551615 + (18446744073709551616 - 2870177450013471925)) % 18446744073709551616 := by
    generalize l3 3 7 n = y at *
    omega
  have e1 := congrArg unmix e'
  unfold l3 at e1
  rw [unmix_lane] at e1
  have := un3_of (A := A37) (n := n) (lane_lt _ _) (by omega) e1
  have z := fin3_all
  rw [← this] at z
  omega
theorem fin3_small : ∀ a < 2, ∀ b < 3, ∀ c < 2, (l3 a b c + 2870177450013471925) % 18446744073709551616 ≠ 18446744073709551615 := by decide +kernel
theorem small3i : ∀ i < 12, ∀ j < 12, l3 (i % 2) (i / 2 % 3) (i / 6) = l3 (j % 2) (j / 2 % 3) (j / 6) → i = j := by decide +kernel
theorem small3 (a : Nat) (ha : a < 2) (b : Nat) (hb : b < 3) (c : Nat) (hc : c < 2) (d : Nat) (hd : d < 2) (e : Nat) (he : e < 3) (f : Nat) (hf : f < 2) (q : l3 a b c = l3 d e f) : a = d ∧ b = e ∧ c = f := by
  have := small3i (a + 2 * b + 6 * c) (by omega) (d + 2 * e + 6 * f) (by omega) (by
    rw [show (a + 2 * b + 6 * c) % 2 = a by omega, show (a + 2 * b + 6 * c) / 2 % 3 = b by omega, show (a + 2 * b + 6 * c) / 6 = c by omega, show (d + 2 * e + 6 * f) % 2 = d by omega, show (d + 2 * e + 6 * f) / 2 % 3 = e by omega, show (d + 2 * e + 6 * f) / 6 = f by omega]
    exact q)
  omega
theorem tupHash3 {a b c : Nat} (ha : a < 10000000000) (hb : b < 10000000000) (hc : c < 10000000000) (hne : (l3 a b c + 2870177450013471925) % 18446744073709551616 ≠ 18446744073709551615) :
    hashT [(a : Int), (b : Int), (c : Int)] = if (l3 a b c + 2870177450013471925) % 18446744073709551616 < 9223372036854775808 then (((l3 a b c + 2870177450013471925) % 18446744073709551616 : Nat) : Int) else (((l3 a b c + 2870177450013471925) % 18446744073709551616 : Nat) : Int) - 18446744073709551616 := by
  have hx : 3 ^^^ (2870177450012600261 ^^^ 3527539) = 2870177450013471925 := by decide
  have l : ∀ a : Nat, a < 10000000000 → (((a : Int) % ((2 ^ 64 : Nat) : Int)).toNat) = a := fun a ha => by omega
  unfold hashT
  rw [List.map_cons, List.map_cons, List.map_cons, List.map_nil, hashInt_small (by omega), hashInt_small (by omega), hashInt_small (by omega), th_eq]
  have e : ([(a : Int), (b : Int), (c : Int)].foldl (fun acc h => lane acc (h % ((2 ^ 64 : Nat) : Int)).toNat) 2870177450012600261) = l3 a b c := by
    rw [List.foldl_cons, List.foldl_cons, List.foldl_cons, List.foldl_nil, l a ha, l b hb, l c hc]
    rfl
  rw [e]
  exact hFin_of hx hne
theorem l3_of {x y : Nat} (hx : x < 18446744073709551616) (hy : y < 18446744073709551616) (e : (if (x + 2870177450013471925) % 18446744073709551616 < 9223372036854775808 then (((x + 2870177450013471925) % 18446744073709551616 : Nat) : Int) else (((x + 2870177450013471925) % 18446744073709551616 : Nat) : Int) - 18446744073709551616) =
    if (y + 2870177450013471925) % 18446744073709551616 < 9223372036854775808 then (((y + 2870177450013471925) % 18446744073709551616 : Nat) : Int) else (((y + 2870177450013471925) % 18446744073709551616 : Nat) : Int) - 18446744073709551616) : x = y := by
  split at e <;> split at e <;> omega
inductive SpotN (n : Nat) : List Int → Prop
  | small (a b c : Nat) : a < 2 → b < 3 → c < 2 → SpotN n [(a : Int), (b : Int), (c : Int)]
  | far : SpotN n [3, 7, (n : Int)]
theorem spot_hash {n : Nat} (hn : n < 10000000000) {x y : List Int} (hx : SpotN n x) (hy : SpotN n y) (e : hashT x = hashT y) : x = y := by
  have key : ∀ {x : List Int}, SpotN n x → ∃ a b c : Nat, x = [(a : Int), (b : Int), (c : Int)] ∧ a < 10000000000 ∧ b < 10000000000 ∧ c < 10000000000 ∧ (l3 a b c + 2870177450013471925) % 18446744073709551616 ≠ 18446744073709551615 ∧ ((a < 2 ∧ b < 3 ∧ c < 2) ∨ (a = 3 ∧ b = 7 ∧ c = n)) := by
    intro x hx
    cases hx with
    | small a b c h1 h2 h3 => exact ⟨a, b, c, rfl, by omega, by omega, by omega, fin3_small a h1 b h2 c h3, .inl ⟨h1, h2, h3⟩⟩
    | far => exact ⟨3, 7, n, rfl, by omega, by omega, hn, fin3_far hn, .inr ⟨rfl, rfl, rfl⟩⟩
  obtain ⟨a, b, c, rfl, a1, a2, a3, a4, a5⟩ := key hx
  obtain ⟨d, f, g, rfl, b1, b2, b3, b4, b5⟩ := key hy
  rw [tupHash3 a1 a2 a3 a4, tupHash3 b1 b2 b3 b4] at e
  have el := l3_of (lane_lt _ _) (lane_lt _ _) e
  rcases a5 with ⟨p1, p2, p3⟩ | ⟨rfl, rfl, rfl⟩ <;> rcases b5 with ⟨q1, q2, q3⟩ | ⟨rfl, rfl, rfl⟩
  · obtain ⟨rfl, rfl, rfl⟩ := small3 a p1 b p2 c p3 d q1 f q2 g q3 el
    rfl
  · exact (far3_ne p1 p2 p3 hn el.symm).elim
  · exact (far3_ne q1 q2 q3 hn el).elim
  · rfl
theorem nodup_hash {n : Nat} (hn : n < 10000000000) : ∀ {cs : List (List Int)}, (∀ c ∈ cs, SpotN n c) → cs.Nodup → (cs.map hashT).Nodup
  | [], _, _ => .nil
  | c :: cs, h, nd => by
    rw [List.nodup_cons] at nd
    rw [List.map_cons, List.nodup_cons]
    refine ⟨fun hm => ?_, nodup_hash hn (fun d hd => h d (List.mem_cons_of_mem _ hd)) nd.2⟩
    obtain ⟨d, hd, e⟩ := List.mem_map.mp hm
    have := spot_hash hn (h d (List.mem_cons_of_mem _ hd)) (h c List.mem_cons_self) e
    exact nd.1 (this ▸ hd)
end L2
namespace K33
section
variable {S : Type} [DecidableEq S]
abbrev Cm (S : Type) := S → Option (Option S)
def Led (C : Cm S) (a b : S × Bool) : Prop :=
  (a.2 = true ∧ b.2 = false ∧ (a.1 ≠ b.1 ∨ (C a.1).isSome = true)) ∨ (a.2 = false ∧ b.2 = true ∧ ((C a.1 = none ∧ b.1 = a.1) ∨ (C a.1 = some (some b.1) ∧ b.1 ≠ a.1)))
structure Legal (C : Cm S) (r : Nat → S × Bool) (n : Nat) (s0 : S) : Prop where
  h0 : r 0 = (s0, false)
  c0 : C s0 = none
  pos : 0 < n
  last : (r (n - 1)).2 = true
  nd : ∀ i j, i < n → j < n → r i = r j → i = j
  led : ∀ i, i + 1 < n → Led C (r i) (r (i + 1))
  inj : ∀ x x' y, C x = some (some y) → C x' = some (some y) → x = x'
  dom : ∀ x y, C x = some (some y) → (C y).isSome = true
variable (C : Cm S) (r : Nat → S × Bool) (s0 : S)
def T : Nat → Cm S
  | 0 => fun x => if x = s0 then some none else C x
  | i + 1 => fun x => if (r i).2 = true then (if x = (r (i + 1)).1 then (if (r i).1 = (r (i + 1)).1 then none else some (some (r i).1)) else T i x) else T i x
def On : Nat → S → Prop
  | 0 => fun x => (C x).isSome = true
  | i + 1 => fun x => if (r i).1 = (r (i + 1)).1 then (if (r i).2 = true then On i x ∧ x ≠ (r i).1 else On i x ∨ x = (r i).1) else On i x
def Ld : Nat → S → S → Prop
  | 0 => fun y x => C x = some (some y)
  | i + 1 => fun y x => if (r i).1 = (r (i + 1)).1 then Ld i y x else if (r i).2 = true then Ld i y x ∨ (y = (r i).1 ∧ x = (r (i + 1)).1) else Ld i y x ∧ ¬ (y = (r (i + 1)).1 ∧ x = (r i).1)
def Unt (i : Nat) (x : S) : Prop := T C r s0 i x = C x ∧ (On C r i x ↔ (C x).isSome = true) ∧ ∀ y, Ld C r i y x ↔ C x = some (some y)
def Sett (i : Nat) (x : S) : Prop :=
  (x = s0 ∧ T C r s0 i x = some none ∧ On C r i x ∧ ∀ y, ¬ Ld C r i y x) ∨ (x ≠ s0 ∧ T C r s0 i x = none ∧ ¬ On C r i x ∧ ∀ y, ¬ Ld C r i y x) ∨
  (∃ y j, x ≠ s0 ∧ j + 1 ≤ i ∧ r j = (y, true) ∧ r (j + 1) = (x, false) ∧ T C r s0 i x = some (some y) ∧ ∀ z, Ld C r i z x ↔ z = y)
def Mid (i : Nat) (x : S) : Prop :=
  (i = 0 ∧ x = s0 ∧ T C r s0 i x = some none ∧ ¬ On C r i x ∧ ∀ y, ¬ Ld C r i y x) ∨
  (x ≠ s0 ∧ (C x).isSome = true ∧ T C r s0 i x = none ∧ ¬ On C r i x ∧ ∀ y, Ld C r i y x ↔ C x = some (some y)) ∨
  (∃ y j, x ≠ s0 ∧ j + 1 = i ∧ r j = (y, true) ∧ y ≠ x ∧ T C r s0 i x = some (some y) ∧ (On C r i x ↔ (C x).isSome = true) ∧ ∀ z, Ld C r i z x ↔ z = y ∨ C x = some (some z))
structure J (i : Nat) (x : S) : Prop where
  unt : (∀ j, j ≤ i → r j ≠ (x, false)) → Unt C r s0 i x
  sett : (∃ j, j < i ∧ r j = (x, false)) → Sett C r s0 i x
  mid : r i = (x, false) → Mid C r s0 i x
variable {C r s0}
theorem J0 {n : Nat} (L : Legal C r n s0) (x : S) : J C r s0 0 x where
  unt := fun h => by
    have : x ≠ s0 := fun e => h 0 (Nat.le_refl _) (by rw [L.h0, e])
    exact ⟨if_neg this, Iff.rfl, fun y => Iff.rfl⟩
  sett := fun ⟨j, hj, _⟩ => by omega
  mid := fun e => by
    rw [L.h0] at e
    injection e with e _
    subst e
    refine .inl ⟨rfl, rfl, if_pos rfl, ?_, fun y z => ?_⟩
    · show ¬ (C s0).isSome = true
      rw [L.c0]; exact Bool.false_ne_true
    · have z : C s0 = some (some y) := z
      rw [L.c0] at z; cases z
theorem J_other {i : Nat} {x : S} (h : J C r s0 i x) (e1 : T C r s0 (i + 1) x = T C r s0 i x) (e2 : On C r (i + 1) x ↔ On C r i x) (e3 : ∀ y, Ld C r (i + 1) y x ↔ Ld C r i y x) (n1 : r i ≠ (x, false)) (n2 : r (i + 1) ≠ (x, false)) : J C r s0 (i + 1) x where
  unt := fun q => by
    obtain ⟨a, b, c⟩ := h.unt fun j hj => q j (by omega)
    exact ⟨e1.trans a, e2.trans b, fun y => (e3 y).trans (c y)⟩
  sett := fun ⟨j, hj, q⟩ => by
    have hj : j < i := by
      rcases Nat.lt_or_eq_of_le (Nat.le_of_lt_succ hj) with z | z
      · exact z
      · exact (n1 (z ▸ q)).elim
    rcases h.sett ⟨j, hj, q⟩ with ⟨a, b, c, d⟩ | ⟨a, b, c, d⟩ | ⟨y, k, a, b, c, d, e, f⟩
    · exact .inl ⟨a, e1.trans b, e2.mpr c, fun y z => d y ((e3 y).mp z)⟩
    · exact .inr (.inl ⟨a, e1.trans b, fun z => c (e2.mp z), fun y z => d y ((e3 y).mp z)⟩)
    · exact .inr (.inr ⟨y, k, a, by omega, c, d, e1.trans e, fun z => (e3 z).trans (f z)⟩)
  mid := fun q => (n2 q).elim
theorem J_step {n i : Nat} (L : Legal C r n s0) (hi : i + 1 < n) (h : ∀ x, J C r s0 i x) (x : S) : J C r s0 (i + 1) x := by
  obtain ⟨s, sd, ea⟩ : ∃ s sd, r i = (s, sd) := ⟨_, _, rfl⟩
  obtain ⟨t, td, eb⟩ : ∃ t td, r (i + 1) = (t, td) := ⟨_, _, rfl⟩
  have led := L.led i hi
  unfold Led at led
  rw [ea, eb] at led
  dsimp only at led
  rcases led with ⟨h1, h2, h3⟩ | ⟨h1, h2, h3⟩
  · -- a door, then a gate
    subst h1 h2
    have fresh : ∀ j, j ≤ i → r j ≠ (t, false) := fun j hj q => by
      have := L.nd j (i + 1) (by omega) hi (q.trans eb.symm)
      omega
    have ts : t ≠ s0 := fun e => fresh 0 (Nat.zero_le _) (by rw [L.h0, e])
    by_cases est : s = t
    · -- its own gate
      subst est
      have hs : (C s).isSome = true := h3.elim (fun z => (z rfl).elim) id
      by_cases ex : x = s
      · subst ex
        obtain ⟨u1, u2, u3⟩ := (h x).unt fresh
        refine ⟨fun q => (q (i + 1) (Nat.le_refl _) eb).elim, fun ⟨j, hj, q⟩ => (fresh j (by omega) q).elim, fun _ => .inr (.inl ⟨ts, hs, ?_, ?_, fun y => ?_⟩)⟩
        · simp only [T, ea, eb, if_true]
        · simp only [On, ea, eb, if_true]
          exact fun z => z.2 rfl
        · simp only [Ld, ea, eb, if_true]
          exact u3 y
      · refine J_other (h x) ?_ ?_ (fun y => ?_) (by rw [ea]; intro z; injection z with _ z; cases z) (by rw [eb]; intro z; injection z with z _; exact ex z.symm)
        · simp only [T, ea, eb, if_true, if_neg ex]
        · simp only [On, ea, eb, if_true]
          exact ⟨fun z => z.1, fun z => ⟨z, ex⟩⟩
        · simp only [Ld, ea, eb, if_true]
    · -- another one's
      by_cases ex : x = t
      · subst ex
        obtain ⟨u1, u2, u3⟩ := (h x).unt fresh
        refine ⟨fun q => (q (i + 1) (Nat.le_refl _) eb).elim, fun ⟨j, hj, q⟩ => (fresh j (by omega) q).elim, fun _ => .inr (.inr ⟨s, i, ts, rfl, ea, est, ?_, ?_, fun z => ?_⟩)⟩
        · simp only [T, ea, eb, if_true, if_neg est]
        · simp only [On, ea, eb, if_neg est]
          exact u2
        · simp only [Ld, ea, eb, if_neg est, if_true, and_true]
          rw [u3 z]
          exact ⟨fun q => q.elim .inr .inl, fun q => q.elim .inr .inl⟩
      · refine J_other (h x) ?_ ?_ (fun y => ?_) (by rw [ea]; intro z; injection z with _ z; cases z) (by rw [eb]; intro z; injection z with z _; exact ex z.symm)
        · simp only [T, ea, eb, if_true, if_neg ex]
        · simp only [On, ea, eb, if_neg est]
        · simp only [Ld, ea, eb, if_neg est, if_true]
          exact ⟨fun z => z.elim id fun z => (ex z.2).elim, .inl⟩
  · -- a gate, then a door
    subst h1 h2
    have eT : ∀ x, T C r s0 (i + 1) x = T C r s0 i x := fun x => by simp [T, ea]
    have n2 : ∀ x : S, r (i + 1) ≠ (x, false) := fun x => by rw [eb]; intro z; injection z with _ z; cases z
    by_cases ex : x = s
    · subst ex
      have mid := (h x).mid ea
      refine ⟨fun q => (q i (by omega) ea).elim, fun _ => ?_, fun q => (n2 x q).elim⟩
      rcases h3 with ⟨hc, e⟩ | ⟨hc, ne⟩
      · subst e
        have eO : On C r (i + 1) t := by simp [On, ea, eb]
        have eL : ∀ y, Ld C r (i + 1) y t ↔ Ld C r i y t := fun y => by simp [Ld, ea, eb]
        rcases mid with ⟨a, b, c, d, e⟩ | ⟨a, b, _⟩ | ⟨y, j, a, b, c, d, e, f, g⟩
        · exact .inl ⟨b, (eT t).trans c, eO, fun y z => e y ((eL y).mp z)⟩
        · rw [hc] at b; cases b
        · refine .inr (.inr ⟨y, j, a, by omega, c, by rw [b]; exact ea, (eT t).trans e, fun z => (eL z).trans ((g z).trans ?_)⟩)
          exact ⟨fun q => q.elim id fun q => (by rw [hc] at q; cases q), .inl⟩
      · have ne' : ¬ x = t := fun z => ne z.symm
        have eO : On C r (i + 1) x ↔ On C r i x := by simp [On, ea, eb, ne']
        have eL : ∀ y, Ld C r (i + 1) y x ↔ Ld C r i y x ∧ y ≠ t := fun y => by simp [Ld, ea, eb, ne']
        rcases mid with ⟨a, b, _⟩ | ⟨a, b, c, d, e⟩ | ⟨y, j, a, b, c, d, e, f, g⟩
        · rw [b, L.c0] at hc; cases hc
        · refine .inr (.inl ⟨a, (eT x).trans c, fun z => d (eO.mp z), fun y z => ?_⟩)
          obtain ⟨z1, z2⟩ := (eL y).mp z
          have := (e y).mp z1
          rw [hc] at this
          injection this with this
          injection this with this
          exact z2 this.symm
        · refine .inr (.inr ⟨y, j, a, by omega, c, by rw [b]; exact ea, (eT x).trans e, fun z => (eL z).trans ?_⟩)
          have yt : y ≠ t := fun q => by
            have := L.nd j (i + 1) (by omega) hi (by rw [c, eb, q])
            omega
          constructor
          · rintro ⟨z1, z2⟩
            rcases (g z).mp z1 with q | q
            · exact q
            · rw [hc] at q
              injection q with q
              injection q with q
              exact (z2 q.symm).elim
          · rintro rfl
            exact ⟨(g z).mpr (.inl rfl), yt⟩
    · refine J_other (h x) (eT x) ?_ (fun y => ?_) (by rw [ea]; intro z; injection z with z _; exact ex z.symm) (n2 x)
      · by_cases e : s = t
        · simp only [On, ea, eb, if_pos e]
          simp [ex]
        · simp only [On, ea, eb, if_neg e]
      · by_cases e : s = t
        · simp only [Ld, ea, eb, if_pos e]
        · simp only [Ld, ea, eb, if_neg e]
          simp [ex]
theorem J_all {n : Nat} (L : Legal C r n s0) : ∀ i, i < n → ∀ x, J C r s0 i x
  | 0, _, x => J0 L x
  | i + 1, h, x => J_step L h (J_all L i (by omega)) x
theorem ends {n : Nat} (L : Legal C r n s0) (x : S) : ((∀ j, j < n → r j ≠ (x, false)) ∧ Unt C r s0 (n - 1) x) ∨ ((∃ j, j < n - 1 ∧ r j = (x, false)) ∧ Sett C r s0 (n - 1) x) := by
  have p := L.pos
  have j := J_all L (n - 1) (by omega) x
  by_cases q : ∃ j, j < n - 1 ∧ r j = (x, false)
  · exact .inr ⟨q, j.sett q⟩
  · have q' : ∀ j, j < n → r j ≠ (x, false) := fun k hk e => by
      rcases Nat.lt_or_eq_of_le (Nat.le_sub_one_of_lt hk) with z | z
      · exact q ⟨k, z, e⟩
      · have := L.last
        rw [← z, e] at this
        cases this
    exact .inl ⟨q', j.unt fun k hk => q' k (by omega)⟩
theorem final_due {n : Nat} (L : Legal C r n s0) (x : S) :
    (T C r s0 (n - 1) x = none ∧ ¬ On C r (n - 1) x ∧ ∀ y, ¬ Ld C r (n - 1) y x) ∨ (T C r s0 (n - 1) x = some none ∧ On C r (n - 1) x ∧ ∀ y, ¬ Ld C r (n - 1) y x) ∨ ∃ y, T C r s0 (n - 1) x = some (some y) ∧ ∀ z, Ld C r (n - 1) z x ↔ z = y := by
  rcases ends L x with ⟨_, a, b, c⟩ | ⟨_, ⟨_, b, c, d⟩ | ⟨_, b, c, d⟩ | ⟨y, j, _, _, _, _, e, f⟩⟩
  · cases e : C x with
    | none => exact .inl ⟨a.trans e, (fun z => by have := b.mp z; rw [e] at this; cases this), fun y z => by have := (c y).mp z; rw [e] at this; cases this⟩
    | some o =>
      cases o with
      | none => exact .inr (.inl ⟨a.trans e, b.mpr (by rw [e]; rfl), fun y z => by have := (c y).mp z; rw [e] at this; cases this⟩)
      | some y =>
        refine .inr (.inr ⟨y, a.trans e, fun z => (c z).trans ?_⟩)
        rw [e]
        exact ⟨fun q => by injection q with q; injection q with q; exact q.symm, fun q => by rw [q]⟩
  · exact .inr (.inl ⟨b, c, d⟩)
  · exact .inl ⟨b, c, d⟩
  · exact .inr (.inr ⟨y, e, f⟩)
theorem door_from {n j : Nat} (L : Legal C r n s0) (hj : j < n) {y : S} (e : r j = (y, true)) : ∃ i z, i + 1 = j ∧ r i = (z, false) ∧ ((C z = none ∧ y = z) ∨ C z = some (some y)) := by
  cases j with
  | zero => rw [L.h0] at e; injection e with _ e; cases e
  | succ i =>
    have led := L.led i hj
    unfold Led at led
    rw [e] at led
    dsimp only at led
    rcases led with ⟨_, h2, _⟩ | ⟨h1, _, h3⟩
    · cases h2
    · refine ⟨i, (r i).1, rfl, by rw [← h1], ?_⟩
      exact h3.imp id fun z => z.1
theorem final_inj {n : Nat} (L : Legal C r n s0) {x x' y : S} (h : T C r s0 (n - 1) x = some (some y)) (h' : T C r s0 (n - 1) x' = some (some y)) : x = x' := by
  have p := L.pos
  have key : ∀ x, T C r s0 (n - 1) x = some (some y) → ((∀ j, j < n → r j ≠ (x, false)) ∧ C x = some (some y)) ∨ ∃ j, j + 1 < n ∧ r j = (y, true) ∧ r (j + 1) = (x, false) := by
    intro x h
    rcases ends L x with ⟨q, a, b, c⟩ | ⟨_, ⟨_, b, c, d⟩ | ⟨_, b, c, d⟩ | ⟨y', j, _, hj, e1, e2, e, f⟩⟩
    · exact .inl ⟨q, a.symm.trans h⟩
    · rw [h] at b; cases b
    · rw [h] at b; cases b
    · rw [h] at e
      injection e with e
      injection e with e
      subst e
      exact .inr ⟨j, by omega, e1, e2⟩
  have mix : ∀ x x', ((∀ j, j < n → r j ≠ (x', false)) ∧ C x' = some (some y)) → (∃ j, j + 1 < n ∧ r j = (y, true) ∧ r (j + 1) = (x, false)) → False := by
    rintro x x' ⟨q, c⟩ ⟨j, hj, e1, _⟩
    obtain ⟨i, z, hi, ez, hz⟩ := door_from L (by omega) e1
    rcases hz with ⟨h1, h2⟩ | h1
    · have := L.dom x' y c
      rw [h2, h1] at this
      cases this
    · have := L.inj _ _ _ h1 c
      rw [this] at ez
      exact q i (by omega) ez
  rcases key x h with a | a <;> rcases key x' h' with b | b
  · exact L.inj _ _ _ a.2 b.2
  · exact (mix x' x a b).elim
  · exact (mix x x' b a).elim
  · obtain ⟨j, hj, e1, e2⟩ := a
    obtain ⟨k, hk, f1, f2⟩ := b
    have := L.nd j k (by omega) (by omega) (e1.trans f1.symm)
    subst this
    rw [e2] at f2
    injection f2
theorem final_none {n : Nat} (L : Legal C r n s0) (x : S) : T C r s0 (n - 1) x = some none ↔ x = s0 ∨ C x = some none := by
  have p := L.pos
  rcases ends L x with ⟨q, a, b, c⟩ | ⟨⟨k, hk, ek⟩, z⟩
  · have : x ≠ s0 := fun e => q 0 p (by rw [L.h0, e])
    rw [a]
    exact ⟨.inr, fun z => z.elim (fun z => (this z).elim) id⟩
  · have nC : C x ≠ some none := fun e => by
      have led := L.led k (by omega)
      unfold Led at led
      rw [ek] at led
      dsimp only at led
      rcases led with ⟨h1, _⟩ | ⟨_, _, ⟨h1, _⟩ | ⟨h1, _⟩⟩
      · cases h1
      · rw [e] at h1; cases h1
      · rw [e] at h1; cases h1
    rcases z with ⟨a, b, c, d⟩ | ⟨a, b, c, d⟩ | ⟨y, j, a, hj, e1, e2, e, f⟩
    · exact ⟨fun _ => .inl a, fun _ => b⟩
    · rw [b]
      exact ⟨(fun z => nomatch z), fun z => z.elim (fun z => (a z).elim) fun z => (nC z).elim⟩
    · rw [e]
      exact ⟨(fun z => by cases z), fun z => z.elim (fun z => (a z).elim) fun z => (nC z).elim⟩
theorem pop_own {n i : Nat} (L : Legal C r n s0) (hi : i + 1 < n) (hd : (r i).2 = true) (he : (r i).1 = (r (i + 1)).1) : (T C r s0 i (r i).1).isSome = true ∧ On C r i (r i).1 := by
  have led := L.led i hi
  unfold Led at led
  rcases led with ⟨_, h2, h3⟩ | ⟨h1, _⟩
  · have hs : (C (r i).1).isSome = true := h3.elim (fun z => (z he).elim) id
    have eb : r (i + 1) = ((r i).1, false) := by rw [he, ← h2]
    obtain ⟨u1, u2, _⟩ := (J_all L i (by omega) (r i).1).unt fun j hj q => by
      have := L.nd j (i + 1) (by omega) hi (q.trans eb.symm)
      omega
    exact ⟨by rw [u1]; exact hs, u2.mpr hs⟩
  · rw [hd] at h1; cases h1
theorem pop_laid {n i : Nat} (L : Legal C r n s0) (hi : i + 1 < n) (hd : (r i).2 = false) (he : (r i).1 ≠ (r (i + 1)).1) : Ld C r i (r (i + 1)).1 (r i).1 := by
  have led := L.led i hi
  unfold Led at led
  rcases led with ⟨h1, _⟩ | ⟨_, _, ⟨_, h3⟩ | ⟨h3, _⟩⟩
  · rw [hd] at h1; cases h1
  · exact (he h3.symm).elim
  · have ea : r i = ((r i).1, false) := by rw [← hd]
    rcases (J_all L i (by omega) (r i).1).mid ea with ⟨_, b, _⟩ | ⟨_, _, _, _, e⟩ | ⟨y, j, _, _, _, _, _, _, g⟩
    · rw [b, L.c0] at h3; cases h3
    · exact (e _).mpr h3
    · exact (g _).mpr (.inr h3)
end
end K33
namespace K33
open PySem L2
def top (i : Nat) : Stmt := PySem.Challenge.pw_wirefloor_k33_ways_turned.main.body.getD i (.Pass ⟨0, 0, 0, 0⟩)
abbrev sCell : Stmt := top 5
abbrev sMix : Stmt := top 6
abbrev sLinks : Stmt := top 7
abbrev sLying : Stmt := top 8
abbrev sLed : Stmt := top 9
abbrev sRow : Stmt := top 10
abbrev sDue : Stmt := top 11
abbrev sFirst : Stmt := top 12
abbrev sSpotOf : Stmt := top 1
abbrev sDoor : Stmt := top 2
abbrev sRr : Stmt := top 3
abbrev slaw : Stmt := top 13
structure Txt (K : PySem.W.Frag) (mg : Str → Option Value) : Prop where
  len_ : mg "len" = none
  range_ : mg "range" = none
  isinstance_ : mg "isinstance" = none
  dict_ : mg "dict" = none
  list_ : mg "list" = none
  set_ : mg "set" = none
  zip_ : mg "zip" = none
  dd : PySem.W.kitOne K (.type "dict") (.type "dict") = some true
abbrev T3 := List Int
def iK (x : T3) : List Key := x.map Sum.inl
theorem iK_inj {x y : T3} (h : iK x = iK y) : x = y := by
  have := congrArg (List.map kV) h
  unfold iK at this
  rw [kV_ints, kV_ints] at this
  exact map_int_inj this
theorem iK_at {H : Hp} {b : Addr} {x : T3} (h : H b = some (.tup (x.map V.int))) : H b = some (.tup ((iK x).map kV)) := by unfold iK; rw [kV_ints]; exact h
theorem iK_back {H : Hp} {b : Addr} {x : T3} (h : H b = some (.tup ((iK x).map kV))) : H b = some (.tup (x.map V.int)) := by unfold iK at h; rw [kV_ints] at h; exact h
theorem dg {H : Hp} {d b : Addr} {kvs : List (List Key × V)} {x : T3} (hd : Rd H d (.dT kvs)) (hb : H b = some (.tup (x.map V.int))) : DGet H d (.ref b) (valV kvs (iK x)) := .inr ⟨kvs, iK x, b, hd, rfl, iK_at hb, rfl⟩
theorem vput (kvs : List (List Key × V)) (x y : T3) (v : V) : valV (putK kvs (iK x) v) (iK y) = if y = x then some v else valV kvs (iK y) := by
  rw [valV_put]
  by_cases e : y = x
  · rw [if_pos e, if_pos (by rw [e])]
  · rw [if_neg e, if_neg (fun z => e (iK_inj z))]
def mkI (m : T3 × Bool) : List Int := m.1 ++ [if m.2 then 1 else 0]
theorem mkI_len {m : T3 × Bool} (h : m.1.length = 3) : (mkI m).length = 4 := by unfold mkI; rw [List.length_append, h]; rfl
theorem mkI_cut {m : T3 × Bool} (h : m.1.length = 3) : cutV ((mkI m).map V.int) none (some 3) = m.1.map V.int := by
  obtain ⟨x, b⟩ := m
  match x, h with
  | [a, c, d], _ => cases b <;> rfl
theorem mkI_inj {m m' : T3 × Bool} (h : mkI m = mkI m') : m = m' := by
  unfold mkI at h
  obtain ⟨h1, h2⟩ := List.append_inj' h rfl
  refine Prod.ext h1 ?_
  injection h2 with h2
  cases e : m.2 <;> cases e' : m'.2 <;> rw [e, e'] at h2 <;> first | rfl | cases h2
theorem _root_.L2.SpotN.len {n : Nat} {x : T3} (h : SpotN n x) : x.length = 3 := by cases h <;> rfl
structure CmAt (H : Hp) (n : Nat) (kvs : List (List Key × V)) (C : Cm T3) : Prop where
  no : ∀ x, C x = none → valV kvs (iK x) = none
  fi : ∀ x, C x = some none → valV kvs (iK x) = some .non
  ye : ∀ x y, C x = some (some y) → ∃ c, valV kvs (iK x) = some (.ref c) ∧ H c = some (.tup (y.map V.int))
  nd : (kvs.map (·.1)).Nodup
  sp : ∀ p ∈ kvs, ∃ x, p.1 = iK x ∧ SpotN n x
  vl : ∀ x y, C x = some (some y) → SpotN n y
structure LkAt (H : Hp) (n : Nat) (kvs : List (List Key × V)) (sps : List T3) (L : T3 → List T3) : Prop where
  at' : ∀ x ∈ sps, ∃ l bs, valV kvs (iK x) = some (.ref l) ∧ H l = some (.lst (bs.map V.ref)) ∧ Tups H bs (L x)
  mem : ∀ x ∈ sps, ∀ y ∈ L x, y ∈ sps ∧ y ≠ x
  nd : ∀ x ∈ sps, (L x).Nodup
  sp : ∀ x ∈ sps, SpotN n x
  ln : ∀ x ∈ sps, (L x).length ≤ 12
structure SpsAt (K : PySem.W.Frag) (H : Hp) (n : Nat) (p : Addr) (as : List Addr) (sps : List T3) : Prop where
  ls : SqL K H p (as.map V.ref)
  tp : Tups H as sps
  nd : sps.Nodup
  sp : ∀ x ∈ sps, SpotN n x
  l3 : 3 ≤ sps.length
  l12 : sps.length ≤ 12
def rAt (row : List (T3 × Bool)) (i : Nat) : T3 × Bool := row.getD i ([], true)
structure Lie (C : Cm T3) (sps : List T3) : Prop where
  inj : ∀ x x' y, C x = some (some y) → C x' = some (some y) → x = x'
  dom : ∀ x y, C x = some (some y) → (C y).isSome = true ∧ y ≠ x
  mem : ∀ x, (C x).isSome = true → x ∈ sps
  bare : ∃ x ∈ sps, C x = none
def ledOf (L : T3 → List T3) (C : Cm T3) (m : T3 × Bool) : List (T3 × Bool) :=
  if m.2 = true then (L m.1).map (·, false) ++ (if (C m.1).isSome = true then [(m.1, false)] else []) else match C m.1 with
    | none => [(m.1, true)]
    | some none => []
    | some (some y) => [(y, true)]
abbrev RowAt (H : Hp) (p : Addr) (ms : List Addr) (row : List (T3 × Bool)) : Prop := H p = some (.lst (ms.map V.ref)) ∧ Tups H ms (row.map mkI) ∧ row.length ≤ 60 ∧ ∀ m ∈ row, m.1.length = 3
theorem sq_cut {K : PySem.W.Frag} {u : TS} {D : Ends} {σ : St} {H : Hp} {n : Nat} {te tb : TE} {b : Addr} {m : T3 × Bool} (ha : Ev te σ H (.ref b)) (hb : Ev tb σ H (.int 3)) (hl : m.1.length = 3) (hm : H b = some (.tup ((mkI m).map V.int)))
    (q : ∀ p, H p = none → u D (σ.set n (some (.ref p))) (upd H p (.tup (m.1.map V.int)))) : tSeq (tAsg (tSl (rSlT K) te tNoPart (tPart tb)) (gName n)) u D σ H :=
  ha _ (hb _ ⟨3, rfl, b, _, rfl, SqT.of hm, by rw [List.length_map, mkI_len hl]; decide, fun p hp => by rw [mkI_cut hl]; exact q p hp⟩)
theorem mk_ix {K : PySem.W.Frag} {σ : St} {H : Hp} {te tb : TE} {b : Addr} {m : T3 × Bool} (ha : Ev te σ H (.ref b)) (hb : Ev tb σ H (.int 3)) (hl : m.1.length = 3) (hm : H b = some (.tup ((mkI m).map V.int))) : Ev (tOp (rIxT K) te tb) σ H (.int (if m.2 then 1 else 0)) := by
  obtain ⟨x, d⟩ := m
  match x, hl, hm with
  | [i, j, k], _, hm => exact ev_ixT ha hb (SqT.of hm) rfl
theorem mkI_cat (x : T3) (d : Bool) : x.map V.int ++ [V.int (if d then 1 else 0)] = (mkI (x, d)).map V.int := by unfold mkI; rw [List.map_append]; rfl
theorem same_at {H0 H' : Hp} {D : Addr} {y : HO} (s : Same H0 H') (nD : H0 D = none) : Same H0 (upd H' D y) := fun b u e => by
  rw [upd_ne (ne_of_none e nD)]; exact s _ _ e
section
variable {tc : TT} {t u : TS} {te ta tb td ty : TE} {D : Ends} {σ : St} {H : Hp} {a d : Addr} {y v : V} {o : Option V} {K : PySem.W.Frag}
theorem ev_dnotin (ha : Ev ty σ H y) (hb : Ev td σ H (.ref a)) (g : DGet H a y o) : Ev (tDNotIn ty td) σ H (.bl (!o.isSome)) := fun _ q => ha _ (hb _ ⟨a, o, rfl, g, q⟩)
theorem et_of {b c : Bool} (h : EvT tc σ H b) (e : b = c) : EvT tc σ H c := e ▸ h
theorem ev_of {c : V} (h : Ev te σ H v) (e : v = c) : Ev te σ H c := e ▸ h
theorem sq_dput {tv : TE} {H4 : Hp} (hv : Ev tv σ H v) (hd : Ev td σ H (.ref a)) (hy : Ev ty σ H y) (p : DPut H a y v H4) (q : u D σ H4) : tSeq (sDPut td ty tv) u D σ H := hv _ (hd _ (hy _ ⟨a, H4, rfl, p, q⟩))
theorem rd_dput {tv : TE} {H4 : Hp} (hv : Ev tv σ H v) (hd : Ev td σ H (.ref a)) (hy : Ev ty σ H y) (p : DPut H a y v H4) (q : D.nx σ H4) : sDPut td ty tv D σ H := hv _ (hd _ (hy _ ⟨a, H4, rfl, p, q⟩))
theorem te_tup {tl : TA} {vs : List V} {Q : VK} (h : EvA tl σ H vs) (hz : vs.length ≤ sizeLine) (q : ∀ p, H p = none → Q (.ref p) (upd H p (.tup vs))) : tTup tl σ H Q := h _ ⟨hz, q⟩
theorem te_lst {tl : TA} {vs : List V} {Q : VK} (h : EvA tl σ H vs) (hz : vs.length ≤ sizeLine) (q : ∀ p, H p = none → Q (.ref p) (upd H p (.lst vs))) : tLst tl σ H Q := h _ ⟨hz, q⟩
theorem te_cal {sp : Sp} {tl : TA} {vs : List V} {Q : VK} (h : EvA tl σ H vs) (q : sp vs H Q E0) : tCall sp [] E0 tl σ H Q := h _ (by rw [List.append_nil]; exact q)
theorem sq_while (W : Nat → St → Hp → Prop) (h0 : ∃ m, W m σ H) (hs : ∀ m σ H, W m σ H → ∃ b, EvT tc σ H b ∧ (b = true → ∀ N : St → Hp → Prop, (∀ m' σ' H', m' < m → W m' σ' H' → N σ' H') → t { D with nx := N, ct := N, bk := u D } σ H) ∧ (b = false → u D σ H)) :
    tSeq (tWhile tc t) u D σ H := while_ev (D := { D with nx := u D }) W h0 hs
end
theorem ev_din2 {ty td : TE} {σ : St} {H : Hp} {a : Addr} {y : V} {o : Option V} (ha : Ev ty σ H y) (hb : Ev td σ H (.ref a)) (g : DGet H a y o) : Ev (tDIn ty td) σ H (.bl o.isSome) := fun _ q => ha _ (hb _ ⟨a, o, rfl, g, q⟩)
theorem tups_app {H : Hp} : ∀ {as bs : List Addr} {cs ds : List T3}, Tups H as cs → Tups H bs ds → Tups H (as ++ bs) (cs ++ ds)
  | _, _, _, _, .nil, t => t
  | _, _, _, _, .cons h s, t => .cons h (tups_app s t)
theorem tups_drop {H : Hp} : ∀ {as : List Addr} {cs : List T3}, Tups H as cs → ∀ m, Tups H (as.drop m) (cs.drop m)
  | _, _, .nil, m => by rw [List.drop_nil, List.drop_nil]; exact .nil
  | _, _, .cons h s, 0 => .cons h s
  | _, _, .cons h s, m + 1 => tups_drop s m
theorem tups_take {H : Hp} : ∀ {as : List Addr} {cs : List T3}, Tups H as cs → ∀ m, Tups H (as.take m) (cs.take m)
  | _, _, .nil, m => by rw [List.take_nil, List.take_nil]; exact .nil
  | _, _, .cons h s, 0 => .nil
  | _, _, .cons h s, m + 1 => .cons h (tups_take s m)
theorem te_cat {K : PySem.W.Frag} {σ : St} {H : Hp} {te : TE} {b : Addr} {x : T3} (d : Bool) {c : Int} {Q : VK} (hc : c = if d then 1 else 0) (ha : Ev te σ H (.ref b)) (hb : H b = some (.tup (x.map V.int))) (hl : x.length = 3) (q : ∀ p H', Same H H' → H p = none → H' p = some (.tup ((mkI (x, d)).map V.int)) → Q (.ref p) H') :
    tOp (rCatT K) te (tTup (tCons (tC (.int c)) tNil)) σ H Q := by
  subst hc
  refine ha _ ⟨by show 1 ≤ sizeLine; decide, fun t ht => ⟨b, t, x.map V.int, [.int (if d then 1 else 0)], rfl, rfl, SqT.of (by rw [upd_ne (ne_of_none hb ht)]; exact hb), SqT.of upd_same, ?_, ?_, (fun z => by cases z), fun _ p hp => ?_⟩⟩
  · intro z; rw [List.map_eq_nil_iff.mp z] at hl; cases hl
  · rw [List.length_map, hl]; show 4 ≤ sizeLine; decide
  · have s1 : Same H (upd H t (.tup [.int (if d then 1 else 0)])) := (Same.refl H).upd ht
    rw [mkI_cat]
    exact q p _ (s1.upd hp) (s1.free hp) upd_same
theorem CmAt.isS {H : Hp} {n : Nat} {kvs : List (List Key × V)} {C : Cm T3} (h : CmAt H n kvs C) (x : T3) : (valV kvs (iK x)).isSome = (C x).isSome := by
  cases e : C x with
  | none => rw [h.no x e]; rfl
  | some o =>
    cases o with
    | none => rw [h.fi x e]; rfl
    | some y => obtain ⟨c, h1, _⟩ := h.ye x y e; rw [h1]; rfl
theorem CmAt.same {H H' : Hp} {n : Nat} {kvs : List (List Key × V)} {C : Cm T3} (h : CmAt H n kvs C) (s : Same H H') : CmAt H' n kvs C :=
  ⟨h.no, h.fi, fun x y e => by obtain ⟨c, h1, h2⟩ := h.ye x y e; exact ⟨c, h1, s _ _ h2⟩, h.nd, h.sp, h.vl⟩
theorem valV_mem {kvs : List (List Key × V)} (nd : (kvs.map (·.1)).Nodup) {p : List Key × V} (h : p ∈ kvs) : valV kvs p.1 = some p.2 := by
  induction kvs with
  | nil => cases h
  | cons q r ih =>
    rw [List.map_cons, List.nodup_cons] at nd
    rcases List.mem_cons.mp h with rfl | h
    · exact valV_pos rfl
    · rw [valV_neg (fun e => nd.1 (e ▸ List.mem_map.mpr ⟨p, h, rfl⟩))]
      exact ih nd.2 h
theorem firsts_len {H : Hp} {n : Nat} {kvs : List (List Key × V)} {C : Cm T3} (h : CmAt H n kvs C) {xs : List T3} (nd : xs.Nodup) (hx : ∀ x, x ∈ xs ↔ C x = some none) : (kvs.filter fun p => decide (p.2 = V.non)).length = xs.length := by
  have p : List.Perm ((kvs.filter fun p => decide (p.2 = V.non)).map (·.1)) (xs.map iK) := by
    refine (List.perm_ext_iff_of_nodup (h.nd.sublist (List.Sublist.map _ List.filter_sublist)) (List.Pairwise.map iK (fun a b ne e => ne (iK_inj e)) nd)).mpr fun k => ?_
    constructor
    · intro hk
      obtain ⟨p, hp, rfl⟩ := List.mem_map.mp hk
      obtain ⟨h1, h2⟩ := List.mem_filter.mp hp
      obtain ⟨x, ex, _⟩ := h.sp p h1
      have hv := valV_mem h.nd h1
      rw [of_decide_eq_true h2, ex] at hv
      refine List.mem_map.mpr ⟨x, (hx x).mpr ?_, ex.symm⟩
      cases e : C x with
      | none => rw [h.no x e] at hv; cases hv
      | some o =>
        cases o with
        | none => rfl
        | some y => obtain ⟨c, h3, _⟩ := h.ye x y e; rw [h3] at hv; cases hv
    · intro hk
      obtain ⟨x, hm, rfl⟩ := List.mem_map.mp hk
      have := h.fi x ((hx x).mp hm)
      have hmem := mem_valV this
      exact List.mem_map.mpr ⟨_, List.mem_filter.mpr ⟨hmem, by simp⟩, rfl⟩
  have := p.length_eq
  rwa [List.length_map, List.length_map] at this
theorem tk_hash {P : Program} {w : World} (x : T3) : tupleKeyHash (mixKind P w) (iK x) = hashT x := by
  unfold tupleKeyHash hashT iK
  rw [List.map_map]
  rfl
theorem keys_of {n : Nat} : ∀ {kvs : List (List Key × V)}, (∀ p ∈ kvs, ∃ x, p.1 = iK x ∧ SpotN n x) → ∃ us : List T3, kvs.map (·.1) = us.map iK ∧ ∀ x ∈ us, SpotN n x
  | [], _ => ⟨[], rfl, fun _ h => nomatch h⟩
  | p :: kvs, h => by
    obtain ⟨x, e, s⟩ := h p List.mem_cons_self
    obtain ⟨us, e', s'⟩ := keys_of fun q hq => h q (List.mem_cons_of_mem _ hq)
    exact ⟨x :: us, by rw [List.map_cons, List.map_cons, e, e'], fun y hy => (List.mem_cons.mp hy).elim (fun z => z ▸ s) (s' y)⟩
theorem CmAt.hash {P : Program} {w : World} {H : Hp} {n : Nat} {kvs : List (List Key × V)} {C : Cm T3} (h : CmAt H n kvs C) (hn : n < 10000000000) : HashNd P w kvs := by
  obtain ⟨us, e, s⟩ := keys_of h.sp
  have nd := h.nd
  rw [e] at nd
  have nu : us.Nodup := by
    refine List.Pairwise.imp_of_mem ?_ (List.pairwise_map.mp nd)
    intro a b _ _ ne z
    exact ne (by rw [z])
  have := nodup_hash hn s nu
  unfold HashNd
  rw [show (kvs.map fun p => tupleKeyHash (mixKind P w) p.1) = us.map hashT by
    rw [show (kvs.map fun p => tupleKeyHash (mixKind P w) p.1) = (kvs.map (·.1)).map (tupleKeyHash (mixKind P w)) by rw [List.map_map]; rfl, e, List.map_map]
    refine List.map_congr_left fun x _ => ?_
    exact tk_hash x]
  exact this
theorem keys_putK {κ : Type} [DecidableEq κ] (kvs : List (κ × V)) (k : κ) (v : V) : (putK kvs k v).map (·.1) = if (valV kvs k).isSome = true then kvs.map (·.1) else kvs.map (·.1) ++ [k] := by
  cases e : valV kvs k with
  | none => rw [putK_new _ e, List.map_append]; rfl
  | some w =>
    have : (kvs.any fun kv => decide (kv.1 = k)) = true := by rw [valV_any, e]; rfl
    unfold putK
    rw [if_pos this, List.map_map]
    show _ = kvs.map (·.1)
    refine List.map_congr_left fun p _ => ?_
    show (if p.1 = k then (p.1, v) else p).1 = p.1
    split <;> rfl
theorem nd_put {kvs : List (List Key × V)} {k : List Key} {v : V} (h : (kvs.map (·.1)).Nodup) : ((putK kvs k v).map (·.1)).Nodup := by
  cases e : valV kvs k with
  | none => exact nd_putK v h e
  | some u => rw [keys_putK, if_pos (by rw [e]; rfl)]; exact h
theorem put_mem {kvs : List (List Key × V)} {k : List Key} {v : V} {p : List Key × V} (h : p ∈ putK kvs k v) : p.1 ∈ kvs.map (·.1) ∨ p.1 = k := by
  have h1 : p.1 ∈ (putK kvs k v).map (·.1) := List.mem_map.mpr ⟨p, h, rfl⟩
  rw [keys_putK] at h1
  split at h1
  · exact .inl h1
  · exact (List.mem_append.mp h1).imp id List.mem_singleton.mp
theorem CmAt.put {H : Hp} {n : Nat} {kvs : List (List Key × V)} {C : Cm T3} (h : CmAt H n kvs C) {x : T3} (hx : SpotN n x) {v : V} {o : Option T3} (hv : (o = none ∧ v = .non) ∨ ∃ y c, o = some y ∧ v = .ref c ∧ SpotN n y ∧ H c = some (.tup (y.map V.int))) : CmAt H n (putK kvs (iK x) v) (fun z => if z = x then some o else C z) where
  no := fun z e => by
    rw [vput]
    by_cases q : z = x
    · rw [if_pos q] at e; cases e
    · rw [if_neg q] at e ⊢; exact h.no z e
  fi := fun z e => by
    rw [vput]
    by_cases q : z = x
    · rw [if_pos q] at e ⊢
      injection e with e
      subst e
      rcases hv with ⟨_, rfl⟩ | ⟨y, c, e, _⟩
      · rfl
      · cases e
    · rw [if_neg q] at e ⊢; exact h.fi z e
  ye := fun z y e => by
    rw [vput]
    by_cases q : z = x
    · rw [if_pos q] at e ⊢
      injection e with e
      subst e
      rcases hv with ⟨e, _⟩ | ⟨y', c, e, rfl, _, hc⟩
      · cases e
      · injection e with e
        subst e
        exact ⟨c, rfl, hc⟩
    · rw [if_neg q] at e ⊢; exact h.ye z y e
  nd := nd_put h.nd
  sp := fun p hp => by
    rcases put_mem hp with q | q
    · obtain ⟨p', h1, h2⟩ := List.mem_map.mp q
      obtain ⟨z, e, hz⟩ := h.sp p' h1
      exact ⟨z, h2.symm.trans e, hz⟩
    · exact ⟨x, q, hx⟩
  vl := fun z y e => by
    by_cases q : z = x
    · rw [if_pos q] at e
      injection e with e
      subst e
      rcases hv with ⟨e, _⟩ | ⟨y', c, e, _, hy, _⟩
      · cases e
      · injection e with e
        subst e
        exact hy
    · rw [if_neg q] at e; exact h.vl z y e
theorem vdel (kvs : List (List Key × V)) (x y : T3) : valV (delK kvs (iK x)) (iK y) = if y = x then none else valV kvs (iK y) := by
  induction kvs with
  | nil => unfold delK; simp [valV_nil]
  | cons p r ih =>
    unfold delK at ih ⊢
    by_cases e : p.1 = iK x
    · rw [List.filter_cons_of_neg (by simpa using e), ih]
      by_cases q : y = x
      · rw [if_pos q, if_pos q]
      · rw [if_neg q, if_neg q, valV_neg (fun z => q (iK_inj (z.symm.trans e)))]
    · rw [List.filter_cons_of_pos (by simpa using e)]
      by_cases z : p.1 = iK y
      · rw [valV_pos z, valV_pos z, if_neg (fun q => e (by rw [z, q]))]
      · rw [valV_neg z, valV_neg z, ih]
theorem CmAt.del {H : Hp} {n : Nat} {kvs : List (List Key × V)} {C : Cm T3} (h : CmAt H n kvs C) (x : T3) : CmAt H n (delK kvs (iK x)) (fun z => if z = x then none else C z) where
  no := fun z e => by
    rw [vdel]
    by_cases q : z = x
    · rw [if_pos q]
    · rw [if_neg q] at e ⊢; exact h.no z e
  fi := fun z e => by
    rw [vdel]
    by_cases q : z = x
    · rw [if_pos q] at e; cases e
    · rw [if_neg q] at e ⊢; exact h.fi z e
  ye := fun z y e => by
    rw [vdel]
    by_cases q : z = x
    · rw [if_pos q] at e; cases e
    · rw [if_neg q] at e ⊢; exact h.ye z y e
  nd := h.nd.sublist (List.Sublist.map _ List.filter_sublist)
  sp := fun p hp => h.sp p (List.mem_filter.mp hp).1
  vl := fun z y e => by
    by_cases q : z = x
    · rw [if_pos q] at e; cases e
    · rw [if_neg q] at e; exact h.vl z y e
theorem CmAt.tups {H H' : Hp} {n : Nat} {kvs : List (List Key × V)} {C : Cm T3} (h : CmAt H n kvs C) (s : ∀ b ys, H b = some (.tup ys) → H' b = some (.tup ys)) : CmAt H' n kvs C :=
  ⟨h.no, h.fi, fun x y e => by obtain ⟨c, h1, h2⟩ := h.ye x y e; exact ⟨c, h1, s _ _ h2⟩, h.nd, h.sp, h.vl⟩
def spots13 (n : Nat) : List T3 := [[0, 0, 0], [0, 0, 1], [0, 1, 0], [0, 1, 1], [0, 2, 0], [0, 2, 1], [1, 0, 0], [1, 0, 1], [1, 1, 0], [1, 1, 1], [1, 2, 0], [1, 2, 1], [3, 7, (n : Int)]]
theorem spot13 {n : Nat} {x : T3} (h : SpotN n x) : x ∈ spots13 n := by
  cases h with
  | small a b c h1 h2 h3 =>
    have ha : a = 0 ∨ a = 1 := by omega
    have hb : b = 0 ∨ b = 1 ∨ b = 2 := by omega
    have hc : c = 0 ∨ c = 1 := by omega
    rcases ha with rfl | rfl <;> rcases hb with rfl | rfl | rfl <;> rcases hc with rfl | rfl <;> simp [spots13]
  | far => simp [spots13]
theorem nd_sub_len {α : Type} [DecidableEq α] : ∀ {xs ys : List α}, xs.Nodup → (∀ x ∈ xs, x ∈ ys) → xs.length ≤ ys.length
  | [], _, _, _ => Nat.zero_le _
  | x :: xs, ys, nd, h => by
    rw [List.nodup_cons] at nd
    have := nd_sub_len (ys := ys.erase x) nd.2 fun y hy => (List.mem_erase_of_ne (fun z => nd.1 (by rw [← z]; exact hy))).mpr (h y (List.mem_cons_of_mem _ hy))
    have e := List.length_erase_of_mem (h x List.mem_cons_self)
    have p : 0 < ys.length := List.length_pos_of_mem (h x List.mem_cons_self)
    rw [List.length_cons]
    omega
theorem keys13 {n : Nat} {kvs : List (List Key × V)} (hnd : (kvs.map (·.1)).Nodup) (hsp : ∀ p ∈ kvs, ∃ x, p.1 = iK x ∧ SpotN n x) : kvs.length ≤ 13 := by
  obtain ⟨us, e, s⟩ := keys_of hsp
  have nd := hnd
  rw [e] at nd
  have nu : us.Nodup := by
    refine List.Pairwise.imp_of_mem ?_ (List.pairwise_map.mp nd)
    intro a b _ _ ne z
    exact ne (by rw [z])
  have := nd_sub_len nu fun x hx => spot13 (s x hx)
  have l := congrArg List.length e
  rw [List.length_map, List.length_map] at l
  rw [l]
  exact this
theorem CmAt.len {H : Hp} {n : Nat} {kvs : List (List Key × V)} {C : Cm T3} (h : CmAt H n kvs C) : kvs.length ≤ 13 := keys13 h.nd h.sp
theorem valV_key {kvs : List (List Key × V)} {k : List Key} : (valV kvs k).isSome = true ↔ k ∈ kvs.map (·.1) := by
  rw [← valV_any]
  simp
theorem CmAt.key {H : Hp} {n : Nat} {kvs : List (List Key × V)} {C : Cm T3} (h : CmAt H n kvs C) (x : T3) : iK x ∈ kvs.map (·.1) ↔ (C x).isSome = true := by rw [← valV_key, h.isS]
structure OnAt (n : Nat) (kvs : List (List Key × V)) (S : T3 → Prop) : Prop where
  nd : (kvs.map (·.1)).Nodup
  sp : ∀ p ∈ kvs, ∃ x, p.1 = iK x ∧ SpotN n x
  is : ∀ x, (valV kvs (iK x)).isSome = true ↔ S x
theorem OnAt.put {n : Nat} {kvs : List (List Key × V)} {S S' : T3 → Prop} (h : OnAt n kvs S) {x : T3} (hx : SpotN n x) (v : V) (e : ∀ z, S' z ↔ S z ∨ z = x) : OnAt n (putK kvs (iK x) v) S' where
  nd := nd_put h.nd
  sp := fun p hp => by
    rcases put_mem hp with q | q
    · obtain ⟨p', h1, h2⟩ := List.mem_map.mp q
      obtain ⟨z, e, hz⟩ := h.sp p' h1
      exact ⟨z, h2.symm.trans e, hz⟩
    · exact ⟨x, q, hx⟩
  is := fun z => by
    rw [vput, e]
    by_cases q : z = x
    · rw [if_pos q]; exact ⟨fun _ => .inr q, fun _ => rfl⟩
    · rw [if_neg q, h.is]; exact ⟨.inl, fun w => w.elim id fun w => (q w).elim⟩
theorem OnAt.del {n : Nat} {kvs : List (List Key × V)} {S S' : T3 → Prop} (h : OnAt n kvs S) (x : T3) (e : ∀ z, S' z ↔ S z ∧ z ≠ x) : OnAt n (delK kvs (iK x)) S' where
  nd := h.nd.sublist (List.Sublist.map _ List.filter_sublist)
  sp := fun p hp => h.sp p (List.mem_filter.mp hp).1
  is := fun z => by
    rw [vdel, e]
    by_cases q : z = x
    · rw [if_pos q]; exact ⟨(fun w => nomatch w), fun w => (w.2 q).elim⟩
    · rw [if_neg q, h.is]; exact ⟨fun w => ⟨w, q⟩, fun w => w.1⟩
structure LdAt (H : Hp) (n : Nat) (xs : List PKey) (R : T3 → T3 → Prop) : Prop where
  pk : PKs H xs
  is : ∀ y x, (y, x) ∈ xs.map (·.1) ↔ R y x
  sp : ∀ q ∈ xs, SpotN n q.1.1 ∧ SpotN n q.1.2
theorem LdAt.len {H : Hp} {n : Nat} {xs : List PKey} {R : T3 → T3 → Prop} (h : LdAt H n xs R) : xs.length ≤ 169 := by
  have := nd_sub_len (ys := (spots13 n).flatMap fun a => (spots13 n).map fun b => (a, b)) h.pk.2.1 fun k hk => by
    obtain ⟨q, hq, rfl⟩ := List.mem_map.mp hk
    obtain ⟨s1, s2⟩ := h.sp q hq
    exact List.mem_flatMap.mpr ⟨_, spot13 s1, List.mem_map.mpr ⟨_, spot13 s2, rfl⟩⟩
  rw [List.length_map] at this
  exact this
theorem LdAt.tups {H H' : Hp} {n : Nat} {xs : List PKey} {R : T3 → T3 → Prop} (h : LdAt H n xs R) (tk : ∀ b ys, H b = some (.tup ys) → H' b = some (.tup ys)) : LdAt H' n xs R := ⟨h.pk.keeps tk, h.is, h.sp⟩
theorem LdAt.add {H : Hp} {n : Nat} {xs : List PKey} {R R' : T3 → T3 → Prop} (h : LdAt H n xs R) {y x : T3} {b : Addr} (kb : PkAt H (y, x) b) (hy : SpotN n y) (hx : SpotN n x) (e : ∀ u z, R' u z ↔ R u z ∨ (u = y ∧ z = x)) : LdAt H n (addP xs (y, x) b) R' where
  pk := pks_add h.pk (by have := h.len; omega) kb
  is := fun u z => by rw [addP_keys, h.is, e]; simp
  sp := fun q hq => by
    unfold addP at hq
    split at hq
    · exact h.sp q hq
    · rcases List.mem_append.mp hq with hq | hq
      · exact h.sp q hq
      · cases List.mem_singleton.mp hq; exact ⟨hy, hx⟩
theorem LdAt.del {H : Hp} {n : Nat} {xs : List PKey} {R R' : T3 → T3 → Prop} (h : LdAt H n xs R) (y x : T3) (e : ∀ u z, R' u z ↔ R u z ∧ ¬ (u = y ∧ z = x)) : LdAt H n (delP xs (y, x)) R' where
  pk := pks_del h.pk
  is := fun u z => by rw [delP_keys, h.is, e]; simp
  sp := fun q hq => h.sp q (List.mem_filter.mp hq).1
theorem ev_notN {ta tb : TE} {σ : St} {H : Hp} {x : V} (ha : Ev ta σ H x) (hb : Ev tb σ H .non) : Ev (tOp (fun x y H Q => y = .non ∧ Q (.bl (!decide (x = .non))) H) ta tb) σ H (.bl (!decide (x = .non))) := fun _ z => ha _ (hb _ ⟨rfl, z⟩)
theorem take_key {kvs : List (List Key × V)} {i : Nat} {x : T3} {v : V} (h : kvs[i]? = some (iK x, v)) (z : T3) : iK z ∈ (kvs.take (i + 1)).map (·.1) ↔ iK z ∈ (kvs.take i).map (·.1) ∨ z = x := by
  rw [show kvs.take (i + 1) = kvs.take i ++ [(iK x, v)] by rw [List.take_succ, h]; rfl, List.map_append, List.mem_append]
  refine or_congr Iff.rfl ?_
  rw [List.map_cons, List.map_nil, List.mem_singleton]
  exact ⟨iK_inj, fun w => by rw [w]⟩
theorem cm_nil {H : Hp} {n : Nat} : CmAt H n [] (fun _ => none) := ⟨fun _ _ => rfl, (fun _ e => nomatch e), (fun _ _ e => nomatch e), .nil, (fun _ h => nomatch h), fun _ _ e => nomatch e⟩
theorem CmAt.congr {H : Hp} {n : Nat} {kvs : List (List Key × V)} {C C' : Cm T3} (h : CmAt H n kvs C) (e : ∀ x, C x = C' x) : CmAt H n kvs C' := (funext e : C = C') ▸ h
def keyF (kvs : List (List Key × V)) : Cm T3 := fun x => if (valV kvs (iK x)).isSome = true then some none else none
theorem keyF_pos {kvs : List (List Key × V)} {x : T3} (h : iK x ∈ kvs.map (·.1)) : keyF kvs x = some none := if_pos (valV_key.mpr h)
theorem keyF_neg {kvs : List (List Key × V)} {x : T3} (h : iK x ∉ kvs.map (·.1)) : keyF kvs x = none := if_neg fun w => h (valV_key.mp w)
structure LkI (H0 H : Hp) (kvs : List (List Key × V)) (S : List T3) (lA : T3 → Addr) (L : T3 → List T3) : Prop where
  va : ∀ x ∈ S, valV kvs (iK x) = some (.ref (lA x))
  fr : ∀ x ∈ S, H0 (lA x) = none
  at' : ∀ x ∈ S, ∃ bs, H (lA x) = some (.lst (bs.map V.ref)) ∧ Tups H bs (L x)
  inj : ∀ x ∈ S, ∀ y ∈ S, lA x = lA y → x = y
theorem SpsAt.at {K : PySem.W.Frag} {H : Hp} {n : Nat} {p : Addr} {as : List Addr} {sps : List T3} (h : SpsAt K H n p as sps) {i : Nat} {x : V} (hi : (as.map V.ref)[i]? = some x) : ∃ b c, x = .ref b ∧ as[i]? = some b ∧ sps[i]? = some c ∧ c ∈ sps ∧ H b = some (.tup (c.map V.int)) := by
  rw [List.getElem?_map] at hi
  obtain ⟨b, hb, rfl⟩ := Option.map_eq_some_iff.mp hi
  obtain ⟨c, ec, g⟩ := h.tp.at hb
  exact ⟨b, c, rfl, hb, ec, List.mem_of_getElem? ec, g⟩
theorem SpsAt.same {K : PySem.W.Frag} {H H' : Hp} {n : Nat} {p : Addr} {as : List Addr} {sps : List T3} (h : SpsAt K H n p as sps) (s : Same H H') : SpsAt K H' n p as sps := ⟨s.seq h.ls, h.tp.same s, h.nd, h.sp, h.l3, h.l12⟩
theorem te_pick {K : PySem.W.Frag} {tc tl ts : TE} {xs : List V} {p : Addr} {σ : St} {H : Hp} {Q : VK} (hts : Ev ts σ H (.ref p)) (hc : ∀ Q : VK, (∀ v : Int, Q (.int v) H) → tc σ H Q) (hl : Ev tl σ H (.int (xs.length : Nat))) (hx : SqL K H p xs) (pos : 0 < xs.length) (q : ∀ (j : Nat) y, xs[j]? = some y → Q y H) :
    tOp (rIxL K) ts (tOp (rI (fun _ j => 0 < j) fun i j => V.int (i % j)) tc tl) σ H Q := by
  refine hts _ (hc _ fun v => hl _ ?_)
  have m0 := Int.emod_nonneg v (show ((xs.length : Nat) : Int) ≠ 0 by omega)
  have m1 := Int.emod_lt_of_pos v (show (0 : Int) < ((xs.length : Nat) : Int) by omega)
  obtain ⟨j, ej⟩ := Int.eq_ofNat_of_zero_le m0
  rw [ej] at m1
  have hj : j < xs.length := by omega
  exact ⟨v, _, rfl, rfl, by omega, p, xs, _, xs[j], rfl, rfl, hx, by rw [ej]; exact atI_nat (by simp [hj]), q j _ (by simp [hj])⟩
structure Lm (C : Cm T3) (B : T3 → Prop) (S : List T3) : Prop where
  cs : ∀ x o, C x = some o → ∃ y, o = some y ∧ B y ∧ y ≠ x ∧ x ∈ S
  bm : ∀ y, B y → y ∈ S
  inj : ∀ x x' y, C x = some (some y) → C x' = some (some y) → x = x'
theorem Lm.add {C : Cm T3} {B B' : T3 → Prop} {S : List T3} (h : Lm C B S) {x y : T3} (hB : ¬ B y) (ne : y ≠ x) (hx : x ∈ S) (hy : y ∈ S) (eB : ∀ z, B' z ↔ B z ∨ z = y) : Lm (fun z => if z = x then some (some y) else C z) B' S where
  cs := fun z o e => by
    by_cases w : z = x
    · rw [if_pos w] at e
      injection e with e
      exact ⟨y, e.symm, (eB y).mpr (.inr rfl), by rw [w]; exact ne, by rw [w]; exact hx⟩
    · rw [if_neg w] at e
      obtain ⟨u, h1, h2, h3, h4⟩ := h.cs z o e
      exact ⟨u, h1, (eB u).mpr (.inl h2), h3, h4⟩
  bm := fun z hz => ((eB z).mp hz).elim (h.bm z) fun w => w ▸ hy
  inj := fun z z' u e e' => by
    have key : ∀ z, z ≠ x → C z = some (some u) → u ≠ y := fun z _ e w => by
      obtain ⟨u', h1, h2, _⟩ := h.cs z _ e
      cases h1
      exact hB (w ▸ h2)
    by_cases w : z = x <;> by_cases w' : z' = x
    · rw [w, w']
    · rw [if_pos w] at e; rw [if_neg w'] at e'
      injection e with e; injection e with e
      exact (key z' w' e' e.symm).elim
    · rw [if_neg w] at e; rw [if_pos w'] at e'
      injection e' with e'; injection e' with e'
      exact (key z w e e'.symm).elim
    · rw [if_neg w] at e; rw [if_neg w'] at e'
      exact h.inj z z' u e e'
theorem cut_last {H : Hp} {as : List Addr} {sps : List T3} (ht : Tups H as sps) (k : Nat) : ∃ (bs : List Addr) (cs : List T3), cutV (as.map V.ref) (some ((k + 1 : Nat) : Int)) (some (-1)) = bs.map V.ref ∧ Tups H bs cs ∧ ∀ x ∈ cs, x ∈ sps.dropLast := by
  have la : as.length = sps.length := Paired.length ht
  unfold cutV
  have e2 : HT.sIx (as.map V.ref).length (as.map V.ref).length (some (-1)) = as.length - 1 := by
    rw [List.length_map]
    have := HT.clip_eq (-1) as.length as.length
    rw [if_pos (by decide)] at this
    omega
  rw [HT.sIx_nat, e2]
  generalize min (k + 1) (as.map V.ref).length = m
  refine ⟨(as.drop m).take (as.length - 1 - m), (sps.drop m).take (as.length - 1 - m), by rw [List.map_take, List.map_drop], ?_, fun x hx => ?_⟩
  · exact tups_take (tups_drop ht m) _
  · rw [List.dropLast_eq_take]
    obtain ⟨i, hi⟩ := List.mem_iff_getElem?.mp hx
    have hi1 : i < as.length - 1 - m := by have := (List.getElem?_eq_some_iff.mp hi).1; rw [List.length_take] at this; omega
    rw [List.getElem?_take_of_lt hi1, List.getElem?_drop] at hi
    exact List.mem_iff_getElem?.mpr ⟨m + i, by rw [List.getElem?_take_of_lt (by omega)]; exact hi⟩
theorem mem_dl {sps : List T3} {x : T3} : x ∈ sps.dropLast ↔ ∃ j, j < sps.length - 1 ∧ sps[j]? = some x := by
  rw [List.dropLast_eq_take]
  constructor
  · intro h
    obtain ⟨i, hi⟩ := List.mem_iff_getElem?.mp h
    have hi1 : i < sps.length - 1 := by have := (List.getElem?_eq_some_iff.mp hi).1; rw [List.length_take] at this; omega
    rw [List.getElem?_take_of_lt hi1] at hi
    exact ⟨i, hi1, hi⟩
  · rintro ⟨j, hj, e⟩
    exact List.mem_iff_getElem?.mpr ⟨j, by rw [List.getElem?_take_of_lt hj]; exact e⟩
theorem LkAt.same {H H' : Hp} {n : Nat} {kvs : List (List Key × V)} {sps : List T3} {L : T3 → List T3} (h : LkAt H n kvs sps L) (s : Same H H') : LkAt H' n kvs sps L :=
  ⟨fun x hx => by obtain ⟨l, bs, h1, h2, h3⟩ := h.at' x hx; exact ⟨l, bs, h1, s _ _ h2, h3.same s⟩, h.mem, h.nd, h.sp, h.ln⟩
theorem rAt_eq {row : List (T3 × Bool)} {i : Nat} (h : i < row.length) : rAt row i = row[i] := by
  unfold rAt
  rw [List.getD_eq_getElem?_getD, List.getElem?_eq_getElem h]
  rfl
theorem rAt_some {row : List (T3 × Bool)} {i : Nat} (h : i < row.length) : row[i]? = some (rAt row i) := by rw [rAt_eq h]; exact List.getElem?_eq_getElem h
theorem rAt_app {row : List (T3 × Bool)} {m : T3 × Bool} {i : Nat} (h : i < row.length) : rAt (row ++ [m]) i = rAt row i := by
  rw [rAt_eq h, rAt_eq (by rw [List.length_append]; exact Nat.lt_add_right _ h), List.getElem_append_left h]
theorem rAt_end {row : List (T3 × Bool)} {m : T3 × Bool} : rAt (row ++ [m]) row.length = m := by
  rw [rAt_eq (by simp)]; simp
theorem rAt_dl {row : List (T3 × Bool)} {i : Nat} (h : i < row.length - 1) : rAt row.dropLast i = rAt row i := by
  rw [rAt_eq (row := row) (by omega), rAt_eq (row := row.dropLast) (by rw [List.length_dropLast]; exact h), List.getElem_dropLast]
theorem rAt_mem {row : List (T3 × Bool)} {i : Nat} (h : i < row.length) : rAt row i ∈ row := List.mem_of_getElem? (rAt_some h)
structure Chn (C : Cm T3) (row : List (T3 × Bool)) (s0 : T3) : Prop where
  h0 : rAt row 0 = (s0, false)
  c0 : C s0 = none
  pos : 0 < row.length
  nd : row.Nodup
  led : ∀ i, i + 1 < row.length → Led C (rAt row i) (rAt row (i + 1))
theorem Chn.snoc {C : Cm T3} {row : List (T3 × Bool)} {s0 : T3} (h : Chn C row s0) {m : T3 × Bool} (hm : m ∉ row) (hl : Led C (rAt row (row.length - 1)) m) : Chn C (row ++ [m]) s0 where
  h0 := by rw [rAt_app h.pos]; exact h.h0
  c0 := h.c0
  pos := by simp
  nd := by rw [List.nodup_append]; exact ⟨h.nd, by simp, fun a ha b hb e => hm (by rw [← List.mem_singleton.mp hb, ← e]; exact ha)⟩
  led := fun i hi => by
    rw [List.length_append, List.length_singleton] at hi
    by_cases e : i + 1 < row.length
    · rw [rAt_app (by omega), rAt_app e]; exact h.led i e
    · have p := h.pos
      have e1 : i + 1 = row.length := by omega
      rw [rAt_app (by omega), e1, rAt_end, show i = row.length - 1 by omega]
      exact hl
theorem Chn.pop {C : Cm T3} {row : List (T3 × Bool)} {s0 : T3} (h : Chn C row s0) (hl : 2 ≤ row.length) : Chn C row.dropLast s0 where
  h0 := by rw [rAt_dl (by omega)]; exact h.h0
  c0 := h.c0
  pos := by rw [List.length_dropLast]; omega
  nd := h.nd.sublist (List.dropLast_sublist _)
  led := fun i hi => by
    rw [List.length_dropLast] at hi
    rw [rAt_dl (by omega), rAt_dl (by omega)]
    exact h.led i (by omega)
theorem Chn.legal {C : Cm T3} {row : List (T3 × Bool)} {s0 : T3} {sps : List T3} (h : Chn C row s0) (lie : Lie C sps) (hd : (rAt row (row.length - 1)).2 = true) : Legal C (rAt row) row.length s0 where
  h0 := h.h0
  c0 := h.c0
  pos := h.pos
  last := hd
  nd := fun i j hi hj e => (List.getElem?_inj hi h.nd).mp (by rw [rAt_some hi, rAt_some hj, e])
  led := h.led
  inj := lie.inj
  dom := fun x y e => (lie.dom x y e).1
theorem led_of {H : Hp} {n : Nat} {kvs : List (List Key × V)} {sps : List T3} {L : T3 → List T3} {C : Cm T3} (hL : LkAt H n kvs sps L) (hC : Lie C sps) {m m' : T3 × Bool} (hm : m.1 ∈ sps) (h : m' ∈ ledOf L C m) : Led C m m' ∧ m'.1 ∈ sps := by
  obtain ⟨x, b⟩ := m
  unfold ledOf at h
  cases b with
  | true =>
    rw [if_pos rfl] at h
    rcases List.mem_append.mp h with h | h
    · obtain ⟨y, hy, rfl⟩ := List.mem_map.mp h
      obtain ⟨h1, h2⟩ := hL.mem x hm y hy
      exact ⟨.inl ⟨rfl, rfl, .inl fun z => h2 z.symm⟩, h1⟩
    · split at h
      · rename_i hs
        rw [List.mem_singleton.mp h]
        exact ⟨.inl ⟨rfl, rfl, .inr hs⟩, hm⟩
      · cases h
  | false =>
    rw [if_neg (by simp)] at h
    dsimp only at h
    split at h
    · rename_i hc
      rw [List.mem_singleton.mp h]
      exact ⟨.inr ⟨rfl, rfl, .inl ⟨hc, rfl⟩⟩, hm⟩
    · cases h
    · rename_i y hc
      rw [List.mem_singleton.mp h]
      obtain ⟨h1, h2⟩ := hC.dom x y hc
      exact ⟨.inr ⟨rfl, rfl, .inr ⟨hc, h2⟩⟩, hC.mem y h1⟩
theorem atI_m1 {α : Type} {xs : List α} {v : α} (h : xs[xs.length - 1]? = some v) : atI xs (-1) = some v := by
  have ne : xs ≠ [] := fun e => by rw [e] at h; cases h
  have e := List.dropLast_concat_getLast ne
  have ev : xs.getLast ne = v := by
    rw [List.getLast_eq_getElem]
    exact (List.getElem?_eq_some_iff.mp h).2
  rw [← e, ev]
  exact atI_last _ _
theorem te_nest {sp sp2 : Sp} {tl tr : TA} {σ : St} {H : Hp} {Q : VK} (h : tCall sp [] E0 tl σ H (fun v H1 => tr σ H1 fun vs H2 => sp2 ((v :: vs) ++ []) H2 Q E0)) : tCall sp2 [] E0 (tCons (tCall sp [] E0 tl) tr) σ H Q := h
theorem cm_smd {K : PySem.W.Frag} {H : Hp} {n : Nat} {a b : Addr} {ka kb : List (List Key × V)} {C : Cm T3} (ha : Rd H a (.dT ka)) (hb : Rd H b (.dT kb)) (h1 : CmAt H n ka C) (h2 : CmAt H n kb C) : SmD K H a b := by
  have mem : ∀ {ka kb : List (List Key × V)}, CmAt H n ka C → CmAt H n kb C → ∀ k ∈ ka.map (·.1), k ∈ kb.map (·.1) := fun h1 h2 k hk => by
    obtain ⟨p, hp, rfl⟩ := List.mem_map.mp hk
    obtain ⟨x, ex, _⟩ := h1.sp p hp
    rw [ex] at hk ⊢
    exact (h2.key x).mpr ((h1.key x).mp hk)
  have l1 := nd_sub_len h1.nd (mem h1 h2)
  have l2 := nd_sub_len h2.nd (mem h2 h1)
  rw [List.length_map, List.length_map] at l1 l2
  refine .inr ⟨ka, kb, ha, hb, by omega, fun p hp => ?_⟩
  obtain ⟨x, ex, _⟩ := h1.sp p hp
  have hv := valV_mem h1.nd hp
  rw [ex] at hv ⊢
  cases e : C x with
  | none => rw [h1.no x e] at hv; cases hv
  | some o =>
    cases o with
    | none =>
      rw [h1.fi x e] at hv
      exact ⟨_, h2.fi x e, .inl ⟨(Option.some.inj hv).symm, by rw [← Option.some.inj hv]; rfl⟩⟩
    | some y =>
      obtain ⟨c, e1, e2⟩ := h1.ye x y e
      obtain ⟨c', e3, e4⟩ := h2.ye x y e
      rw [e1] at hv
      rw [← Option.some.inj hv]
      exact ⟨_, e3, .inr ⟨_, _, Dp.ints (SqT.of e2), Dp.ints (SqT.of e4), Nat.le_trans (depth_tints _) (by decide), by rw [eqv_tints]; exact decide_eq_true rfl⟩⟩
theorem ev_neDic {K : PySem.W.Frag} {ta tb : TE} {σ : St} {H : Hp} {a b : Addr} (ha : Ev ta σ H (.ref a)) (hb : Ev tb σ H (.ref b)) (s : SmD K H a b) : Ev (tOp (rNeDic K) ta tb) σ H (.bl false) := fun _ q => ha _ (hb _ ⟨a, b, rfl, rfl, s, q⟩)
theorem depth_row {cs : List T3} : (PyData.list (cs.map fun c => PyData.tuple (c.map PyData.int))).depth ≤ 60 := by
  have : PyData.depthAll (cs.map fun c => PyData.tuple (c.map PyData.int)) ≤ 1 := depthAll_le fun d hd => by
    obtain ⟨c, _, rfl⟩ := List.mem_map.mp hd
    exact depth_tints c
  simp only [PyData.depth]
  omega
def spI (k : Nat) : T3 := [((k % 2 : Nat) : Int), ((k / 2 % 3 : Nat) : Int), ((k / 6 : Nat) : Int)]
theorem spI_inj {j k : Nat} (h : spI j = spI k) : j = k := by
  unfold spI at h
  injection h with h1 h
  injection h with h2 h
  injection h with h3 h
  omega
theorem spI_spot {n k : Nat} (h : k < 12) : SpotN n (spI k) := .small _ _ _ (by omega) (by omega) (by omega)
theorem spI_far {k : Nat} {m : Int} : spI k ≠ [3, 7, m] := fun h => by
  unfold spI at h
  injection h with h1 h
  omega
theorem tups_set {H : Hp} : ∀ {as : List Addr} {cs : List T3}, Tups H as cs → ∀ {b : Addr} {c : T3}, H b = some (.tup (c.map V.int)) → Tups H (as.set 0 b) (cs.set 0 c)
  | _, _, .nil, _, _, _ => .nil
  | _, _, .cons h s, _, _, g => .cons g s
def layF (F : Cm T3) (q : PKey) : Cm T3 := fun z => if z = q.1.2 then some (some q.1.1) else F z
theorem layF_all : ∀ (xs : List PKey) (F : Cm T3) (z : T3), (xs.foldl layF F z = F z ∧ ∀ q ∈ xs, q.1.2 ≠ z) ∨ ∃ q ∈ xs, q.1.2 = z ∧ xs.foldl layF F z = some (some q.1.1)
  | [], F, z => .inl ⟨rfl, fun _ h => nomatch h⟩
  | q :: xs, F, z => by
    rcases layF_all xs (layF F q) z with ⟨h1, h2⟩ | ⟨p, hp, h1, h2⟩
    · by_cases e : z = q.1.2
      · refine .inr ⟨q, List.mem_cons_self, e.symm, ?_⟩
        show xs.foldl layF (layF F q) z = _
        rw [h1]
        exact if_pos e
      · refine .inl ⟨?_, fun p hp => (List.mem_cons.mp hp).elim (fun w => by rw [w]; exact fun w => e w.symm) (h2 p)⟩
        show xs.foldl layF (layF F q) z = _
        rw [h1]
        exact if_neg e
    · exact .inr ⟨p, List.mem_cons_of_mem _ hp, h1, h2⟩
theorem cut1 {xs : List V} : cutV xs (some 1) none = xs.drop 1 := by
  unfold cutV
  rw [HT.sIx_none, show (some (1 : Int)) = some ((1 : Nat) : Int) from rfl, HT.sIx_nat, List.take_of_length_le (by rw [List.length_drop]; omega)]
  cases xs with
  | nil => rfl
  | cons a r => rw [Nat.min_eq_left (by simp)]
theorem for_zipS {K : PySem.W.Frag} {a b : Addr} {xs ys : List V} {g : TG} {tb : TS} {D : Ends} {σ : St} {H : Hp} (hle : ys.length ≤ xs.length) (Pv : Nat → St → Hp → Prop) (h0 : Pv 0 σ H) (hl : ∀ i σ H, i ≤ ys.length → Pv i σ H → SqL K H a xs ∧ SqL K H b ys)
    (hs : ∀ i x y p σ H, xs[i]? = some x → ys[i]? = some y → H p = none → Pv i σ H → g (.ref p) σ (upd H p (.tup [x, y])) fun σ2 H2 => tb { D with nx := Pv (i + 1), ct := Pv (i + 1), bk := D.nx } σ2 H2) (hd : ∀ σ H, Pv ys.length σ H → D.nx σ H) :
    ∃ W : Nat → Nat → St → Hp → Prop, (∃ m, W 0 m σ H) ∧ ∀ i m σ H, W i m σ H →
      ((ItzL K a b).stop i H ∧ D.nx σ H) ∨ ((ItzL K a b).go i H ∧ ∃ N : St → Hp → Prop, (∀ σ' H', N σ' H' → ∃ m', m' < m ∧ W (i + 1) m' σ' H') ∧ ∀ x H', (ItzL K a b).yld i H x H' → g x σ H' fun σ2 H2 => tb { D with nx := N, ct := N, bk := D.nx } σ2 H2) := by
  refine ⟨fun i m σ H => m = ys.length - i ∧ i ≤ ys.length ∧ Pv i σ H, ⟨ys.length, by simp, Nat.zero_le _, h0⟩, ?_⟩
  rintro i m σ H ⟨rfl, hi, p⟩
  obtain ⟨q1, q2⟩ := hl i σ H hi p
  by_cases hlt : i < ys.length
  · refine .inr ⟨⟨xs, ys, xs[i], ys[i], q1, q2, by simp [show i < xs.length by omega], by simp [hlt]⟩, Pv (i + 1), fun σ' H' p' => ⟨ys.length - (i + 1), by omega, rfl, hlt, p'⟩, fun x H' z => ?_⟩
    obtain ⟨P, y1, y2, hn, rfl, rfl, e1, e2⟩ := z
    exact hs i y1 y2 P σ _ (e1 xs q1) (e2 ys q2) hn p
  · have e : i = ys.length := by omega
    subst e
    exact .inl ⟨⟨xs, ys, q1, q2, .inr (Nat.le_refl _)⟩, hd σ H p⟩
theorem sq_rng1 {ta : TA} {j : Int} {g : TG} {tb u : TS} {D : Ends} {σ : St} {H : Hp} (h : EvA ta σ H [.int j]) (h1 : -(2 ^ 62) ≤ j) (h2 : j < 2 ^ 62) (q : tFor (fun _ H R => R (Itr 0 j.toNat) H) g tb { D with nx := u D } σ H) : tSeq (tFor (iRng1 ta) g tb) u D σ H := h _ ⟨j, rfl, h1, h2, q⟩
theorem rd_rng1 {ta : TA} {j : Int} {g : TG} {tb : TS} {D : Ends} {σ : St} {H : Hp} (h : EvA ta σ H [.int j]) (h1 : -(2 ^ 62) ≤ j) (h2 : j < 2 ^ 62) (q : tFor (fun _ H R => R (Itr 0 j.toNat) H) g tb D σ H) : tFor (iRng1 ta) g tb D σ H := h _ ⟨j, rfl, h1, h2, q⟩
theorem sq_rng2 {ta : TA} {i j : Int} {g : TG} {tb u : TS} {D : Ends} {σ : St} {H : Hp} (h : EvA ta σ H [.int i, .int j]) (h1 : -(2 ^ 62) ≤ i ∧ i < 2 ^ 62 ∧ -(2 ^ 62) ≤ j ∧ j < 2 ^ 62) (q : tFor (fun _ H R => R (Itr i (j - i).toNat) H) g tb { D with nx := u D } σ H) : tSeq (tFor (iRng2 ta) g tb) u D σ H := h _ ⟨i, j, rfl, h1, q⟩
abbrev tT (C : Cm T3) (row : List (T3 × Bool)) (s0 : T3) (i : Nat) : Cm T3 := T C (rAt row) s0 i
def spCell (K : PySem.W.Frag) : Sp := fun vs H Q _ => ∃ (a : Addr) (ns : List Int) (i : Int), vs = [.ref a, .int i] ∧ SqL K H a (ns.map V.int) ∧ 0 ≤ i ∧ ∀ v : Int, Q (.int v) H
def spMix : Sp := fun vs H Q _ => ∃ c k p : Int, vs = [.int c, .int k, .int p] ∧ 0 < p ∧ p < 10000000 ∧ 0 ≤ k ∧ k < 1000 ∧ ∀ v : Int, Q (.int v) H
def spLinks (K : PySem.W.Frag) : Sp := fun vs H Q _ => ∃ (a p : Addr) (ns : List Int) (n : Nat) (as : List Addr) (sps : List T3), vs = [.ref a, .ref p] ∧ SqL K H a (ns.map V.int) ∧ ns.length ≤ 63 ∧ SpsAt K H n p as sps ∧
  ∀ d H' kvs L, Same H H' → H d = none → H' d = some (.dT kvs) → LkAt H' n kvs sps L → Q (.ref d) H'
def spLying (K : PySem.W.Frag) : Sp := fun vs H Q _ => ∃ (a p d : Addr) (ns : List Int) (n : Nat) (as : List Addr) (sps : List T3) (kvs : List (List Key × V)) (L : T3 → List T3), vs = [.ref a, .ref p, .ref d] ∧ SqL K H a (ns.map V.int) ∧ ns.length ≤ 63 ∧ SpsAt K H n p as sps ∧
  H d = some (.dT kvs) ∧ LkAt H n kvs sps L ∧ ∀ e H' kvs' C, Same H H' → H e = none → H' e = some (.dT kvs') → CmAt H' n kvs' C → Lie C sps → Q (.ref e) H'
def spLed (K : PySem.W.Frag) : Sp := fun vs H Q _ => ∃ (d e b : Addr) (n : Nat) (sps : List T3) (kvs kvs' : List (List Key × V)) (L : T3 → List T3) (C : Cm T3) (m : T3 × Bool), vs = [.ref d, .ref e, .ref b] ∧ H d = some (.dT kvs) ∧ LkAt H n kvs sps L ∧ H e = some (.dT kvs') ∧ CmAt H n kvs' C ∧
  m.1 ∈ sps ∧ m.1.length = 3 ∧ H b = some (.tup ((mkI m).map V.int)) ∧ ∀ l H' bs, Same H H' → H l = none → H' l = some (.lst (bs.map V.ref)) → Tups H' bs ((ledOf L C m).map mkI) → Q (.ref l) H'
def spRow (K : PySem.W.Frag) : Sp := fun vs H Q _ => ∃ (a p d e : Addr) (ns : List Int) (n : Nat) (as : List Addr) (sps : List T3) (kvs kvs' : List (List Key × V)) (L : T3 → List T3) (C : Cm T3), vs = [.ref a, .ref p, .ref d, .ref e] ∧ SqL K H a (ns.map V.int) ∧ ns.length ≤ 63 ∧ SpsAt K H n p as sps ∧
  H d = some (.dT kvs) ∧ LkAt H n kvs sps L ∧ H e = some (.dT kvs') ∧ CmAt H n kvs' C ∧ Lie C sps ∧ ∀ l H' ms row s0, Same H H' → H l = none → RowAt H' l ms row → (∀ m ∈ row, m.1 ∈ sps) → Legal C (rAt row) row.length s0 → Q (.ref l) H'
def spDue (K : PySem.W.Frag) : Sp := fun vs H Q _ => ∃ (e l : Addr) (n : Nat) (kvs : List (List Key × V)) (C : Cm T3) (ms : List Addr) (row : List (T3 × Bool)) (s0 : T3), vs = [.ref e, .ref l] ∧ H e = some (.dT kvs) ∧ CmAt H n kvs C ∧ RowAt H l ms row ∧ (∀ m ∈ row, SpotN n m.1) ∧ Legal C (rAt row) row.length s0 ∧
  ∀ q H' kvs', Same H H' → H q = none → H' q = some (.dT kvs') → CmAt H' n kvs' (T C (rAt row) s0 (row.length - 1)) → Q (.ref q) H'
def spFirst (K : PySem.W.Frag) : Sp := fun vs H Q _ => ∃ (e : Addr) (n : Nat) (kvs : List (List Key × V)) (C : Cm T3), vs = [.ref e] ∧ H e = some (.dT kvs) ∧ CmAt H n kvs C ∧ kvs.length < 1000 ∧
  ∀ (H' : Hp), Same H H' → ∀ k : Nat, (∀ xs : List T3, xs.Nodup → (∀ x, x ∈ xs ↔ C x = some none) → k = xs.length) → Q (.int (k : Nat)) H'
def spSpotOf : Sp := fun vs H Q _ => ∃ (b : Addr) (m : T3 × Bool), vs = [.ref b] ∧ m.1.length = 3 ∧ H b = some (.tup ((mkI m).map V.int)) ∧ ∀ p, H p = none → Q (.ref p) (upd H p (.tup (m.1.map V.int)))
def spDoor : Sp := fun vs H Q _ => ∃ (b : Addr) (m : T3 × Bool), vs = [.ref b] ∧ m.1.length = 3 ∧ H b = some (.tup ((mkI m).map V.int)) ∧ Q (.bl m.2) H
def spRr (K : PySem.W.Frag) : Sp := fun vs H Q _ => ∃ (e l : Addr) (n : Nat) (kvs : List (List Key × V)) (C : Cm T3) (ms : List Addr) (row : List (T3 × Bool)) (s0 : T3), vs = [.ref e, .ref l] ∧ n < 10000000000 ∧ H e = some (.dT kvs) ∧ CmAt H n kvs C ∧ RowAt H l ms row ∧ (∀ m ∈ row, SpotN n m.1) ∧ Legal C (rAt row) row.length s0 ∧
  ∀ q H' kvs', Same H H' → H q = none → H' q = some (.dT kvs') → CmAt H' n kvs' (T C (rAt row) s0 (row.length - 1)) → Q (.ref q) H'
def spLaw (K : PySem.W.Frag) : Sp := fun vs H Q _ => ∃ (a : Addr) (ns : List Int), vs = [.ref a] ∧ SqL K H a (ns.map V.int) ∧ ns.length ≤ 63 ∧ ∀ H', Q (.bl true) H'
section
variable {P : Program} {w : World} {K : PySem.W.Frag} {mg : Str → Option Value} {base : Heap}
set_option maxHeartbeats 1000000
theorem ok_Cell {f : Addr} {fd : FuncData} (F : Fun K "_law_cell_at" "_law_cell_at" sCell f fd) (T : Txt K mg) : FnOk P w K mg base CX0 1 f fd ["script", "k"] (spCell K) := by
  have sc : FnScope ["script", "k"] ["script", "k"] (defScope sCell) := ⟨rfl, rfl, rfl, by decide +kernel, rfl, by decide +kernel, by decide +kernel⟩
  refine F.ok sc (fun vs H Q E h => by repeat (first | (obtain ⟨rfl, _⟩ := h; rfl) | (obtain ⟨_, h⟩ := h))) (fun cdv A outer s H vs Q E hr h => ?_)
  obtain ⟨a, ns, i, rfl, ha, h0, q⟩ := h
  refine ⟨_, (pss_cons (ps_if (pt_cmpR op_lt (pv 1) (pe_callB call_len (by rfl) T.len_ bt_len (pa_cons (pv 0) pa_nil)) (nomark _))
  (pss_one (ps_ret (pe_ix ix_list (pv 0) (pv 1) (fun _ _ => rfl))))
  pss_nil)
  (pss_one (ps_ret pe_int))), ?_⟩
  refine rd_if (et_test (ev_I0 (ev_var rfl) (ev_cb (ea_cons (ev_var rfl) ea_nil) fun Q' q' => ⟨_, _, rfl, by first | exact .inl ⟨_, by assumption, rfl⟩ | exact .inl ⟨_, SqL.of (by assumption), rfl⟩ | exact .inr ⟨_, by assumption, rfl⟩ | exact .inr ⟨_, SqT.of (by assumption), rfl⟩, q'⟩))) (fun e => ?_) (fun _ => ?_)
  · have hlt : i < ((ns.map V.int).length : Int) := of_decide_eq_true e
    rw [List.length_map] at hlt
    obtain ⟨j, rfl⟩ := Int.eq_ofNat_of_zero_le h0
    have hj : j < ns.length := by omega
    exact rd_ret (ev_ixL (v := .int ns[j]) (ev_var rfl) (ev_var rfl) ha (atI_nat (by simp [hj]))) (q _)
  · exact q 0
theorem ok_Mix {f : Addr} {fd : FuncData} (F : Fun K "_law_mix" "_law_mix" sMix f fd) (T : Txt K mg) : FnOk P w K mg base CX0 1 f fd ["cell", "k", "prime"] spMix := by
  have sc : FnScope ["cell", "k", "prime", "mixed"] ["cell", "k", "prime"] (defScope sMix) := ⟨rfl, rfl, rfl, by decide +kernel, rfl, by decide +kernel, by decide +kernel⟩
  refine F.ok sc (fun vs H Q E h => by repeat (first | (obtain ⟨rfl, _⟩ := h; rfl) | (obtain ⟨_, h⟩ := h))) (fun cdv A outer s H vs Q E hr h => ?_)
  obtain ⟨c, k, p, rfl, hp, hp2, hk, hk2, q⟩ := h
  refine ⟨_, (pss_cons (ps_set (i := 3) sc.nd rfl (Or.inl rfl) (pe_op op_mod (pe_op op_mul (pe_op op_add (pe_op op_add (pe_op op_mod (pv 0) (pv 2)) (pe_op op_mul pe_int (pv 1))) pe_int) pe_int) (pv 2)))
  (pss_one (ps_ret (pe_op op_mod (pe_op op_mul (pv 3) (pv 3)) pe_int)))), ?_⟩
  have m0 := Int.emod_nonneg c (show p ≠ 0 by omega)
  have m1 := Int.emod_lt_of_pos c hp
  refine sq_set (ev_I (ev_I (ev_I0 (ev_I0 (ev_I (ev_var rfl) (ev_var rfl) (by first | (show (0 : Int) < _; omega) | (show (0 : Int) < _; decide))) (ev_I ev_c (ev_var rfl) (by first | exact cmR (by omega) (by omega) | exact cmL (by omega) (by omega)))) ev_c) ev_c (by first | exact cmR (by omega) (by omega) | exact cmL (by omega) (by omega))) (ev_var rfl) (by first | (show (0 : Int) < _; omega) | (show (0 : Int) < _; decide))) ?_
  have n0 := Int.emod_nonneg ((c % p + 31 * k + 7) * 48271) (show p ≠ 0 by omega)
  have n1 := Int.emod_lt_of_pos ((c % p + 31 * k + 7) * 48271) hp
  revert n0 n1
  generalize (c % p + 31 * k + 7) * 48271 % p = x
  intro n0 n1
  exact rd_ret (ev_I (ev_I (ev_var rfl) (ev_var rfl) (by first | exact cmR (by omega) (by omega) | exact cmL (by omega) (by omega))) ev_c (by first | (show (0 : Int) < _; omega) | (show (0 : Int) < _; decide))) (q _)
theorem ok_Links {f : Addr} {fd : FuncData} (F : Fun K "_law_links" "_law_links" sLinks f fd) (T : Txt K mg) (gMix : Callee P w K mg base "_law_mix" 1 ["cell", "k", "prime"] spMix) : FnOk P w K mg base CX0 2 f fd ["script", "spots"] (spLinks K) := by
  have sc : FnScope ["script", "spots", "links", "spot", "k", "one", "two"] ["script", "spots"] (defScope sLinks) := ⟨rfl, rfl, rfl, by decide +kernel, rfl, by decide +kernel, by decide +kernel⟩
  refine F.ok sc (fun vs H Q E h => by repeat (first | (obtain ⟨rfl, _⟩ := h; rfl) | (obtain ⟨_, h⟩ := h))) (fun cdv A outer s H vs Q E hr h => ?_)
  obtain ⟨a, p, ns, n, as, sps, rfl, ha, hn, hs, q⟩ := h
  refine ⟨_, (pss_cons (ps_set (i := 2) sc.nd rfl (Or.inl rfl) pe_dnewT)
  (pss_cons (ps_for PassesOwn.never rfl (pi_list (pv 1)) (pg_name (i := 3) sc.nd rfl (Or.inl rfl))
  (pss_one (ps_dput (Room.one hr) (pv 2) (pv 3) (pe_lst pa_nil) (by rfl))))
  (pss_cons (ps_for PassesOwn.never rfl (pi_range2 (by rfl) T.range_ (pa_cons pe_int (pa_cons (pe_callB call_len (by rfl) T.len_ bt_len (pa_cons (pv 0) pa_nil)) pa_nil))) (pg_name (i := 4) sc.nd rfl (Or.inl rfl))
  (pss_cons (ps_set (i := 5) sc.nd rfl (Or.inl rfl) (pe_ix ix_list (pv 1) (pe_op op_mod (pe_cal gMix (hr.mono (by decide)) (by rfl) (pa_cons (pe_ix ix_list (pv 0) (pv 4) (fun _ _ => rfl)) (pa_cons (pv 4) (pa_cons pe_int pa_nil)))) (pe_callB call_len (by rfl) T.len_ bt_len (pa_cons (pv 1) pa_nil))) (fun _ _ => rfl)))
  (pss_cons (ps_set (i := 6) sc.nd rfl (Or.inl rfl) (pe_ix ix_list (pv 1) (pe_op op_mod (pe_cal gMix (hr.mono (by decide)) (by rfl) (pa_cons (pe_ix ix_list (pv 0) (pv 4) (fun _ _ => rfl)) (pa_cons (pv 4) (pa_cons pe_int pa_nil)))) (pe_callB call_len (by rfl) T.len_ bt_len (pa_cons (pv 1) pa_nil))) (fun _ _ => rfl)))
  (pss_one (ps_if (pw_and (pt_cmpR (op_neD hr) (pv 5) (pv 6) (nomark _)) (pw_and1 (pt_cmpR (op_notinT hr) (pv 6) (pe_dget (Room.one hr) (pv 2) (pv 5) (fun _ _ => rfl)) (by with_unfolding_all rfl)))).pt
  (pss_one (ps_expr (pe_bm PySem.F.plainAttrs_list PySem.F.slot_list_append PySem.F.type_list_append mt_append (pe_dget (Room.one hr) (pv 2) (pv 5) (fun _ _ => rfl)) (pa_cons (pv 6) pa_nil))))
  pss_nil)))))
  (pss_one (ps_ret (pv 2)))))), ?_⟩
  have la : as.length = sps.length := Paired.length hs.tp
  refine sq_asg fun d nd => ?_
  have s1 : Same H (upd H d (.dT [])) := (Same.refl H).upd nd
  have e1 : upd H d (.dT []) d = some (.dT []) := upd_same
  revert s1 e1
  generalize upd H d (.dT []) = H1
  intro s1 e1
  refine ⟨_, rfl, p, rfl, ⟨_, s1.seq hs.ls⟩, for_list (K := K) (a := p) (xs := as.map V.ref) (fun i σ H' => ∃ (kvs : List (List Key × V)) (lA : T3 → Addr) (x3 : Option V), σ = [some (.ref a), some (.ref p), some (.ref d), x3, none, none, none] ∧ Same H H' ∧ H' d = some (.dT kvs) ∧ kvs.length ≤ i ∧ LkI H H' kvs (sps.take i) lA (fun _ => []))
    ⟨[], fun _ => 0, none, rfl, s1, e1, Nat.le_refl _, (fun x h => nomatch h), (fun x h => nomatch h), (fun x h => nomatch h), (fun x h => nomatch h)⟩ (fun i σ H' _ ⟨_, _, _, _, s, _⟩ => s.seq hs.ls) ?_ ?_⟩
  · rintro i y σ H5 hi ⟨kvs, lA, x3, rfl, s5, ed, hk, lk⟩
    obtain ⟨b, x, rfl, hb, hx, xm, g⟩ := (hs.same s5).at hi
    have il : i < as.length := (List.getElem?_eq_some_iff.mp hb).1
    have l12 := hs.l12
    refine gn ?_
    refine te_lst ea_nil (by decide) fun l nl => ?_
    have s6 : Same H5 (upd H5 l (.lst [])) := (Same.refl H5).upd nl
    have e6 : upd H5 l (.lst []) l = some (.lst []) := upd_same
    revert s6 e6
    generalize upd H5 l (.lst []) = H6
    intro s6 e6
    have ed6 := s6 _ _ ed
    refine ⟨_, rfl, _, rfl, d, _, rfl, DPut.t ed6 (iK_at (s6 _ _ g)) (small1000 (by omega)), ?_⟩
    have xn : x ∉ sps.take i := fun hm => by
      obtain ⟨j, hj⟩ := List.mem_iff_getElem?.mp hm
      have hj1 : j < i := by have := (List.getElem?_eq_some_iff.mp hj).1; rw [List.length_take] at this; omega
      rw [List.getElem?_take_of_lt hj1] at hj
      exact Nat.ne_of_lt hj1 ((List.getElem?_inj (by omega) hs.nd).mp (hj.trans hx.symm))
    have nl0 : H l = none := s5.free nl
    have tk : ∀ b u, (∀ kv, u ≠ .dT kv) → H6 b = some u → upd H6 d (.dT (putK kvs (iK x) (.ref l))) b = some u := fun b u nu eb => by rw [upd_ne (ne_of eb ed6 (nu _))]; exact eb
    refine ⟨_, fun z => if z = x then l else lA z, _, rfl, same_at (s5.trans s6) nd, upd_same, ?_, ?_⟩
    · have := length_putK kvs (iK x) (.ref l); omega
    rw [show sps.take (i + 1) = sps.take i ++ [x] by rw [List.take_succ, hx]; rfl]
    have nx : ∀ z ∈ sps.take i, z ≠ x := fun z hz w => xn (w ▸ hz)
    have ne : ∀ z ∈ sps.take i, lA z ≠ l := fun z hz w => by
      obtain ⟨bs, h1, _⟩ := lk.at' z hz
      rw [w, nl] at h1; cases h1
    refine ⟨fun z hz => ?_, fun z hz => ?_, fun z hz => ?_, fun z hz z' hz' => ?_⟩
    · rw [vput]
      rcases List.mem_append.mp hz with h | h
      · rw [if_neg (nx z h), if_neg (nx z h)]; exact lk.va z h
      · have := List.mem_singleton.mp h
        rw [if_pos this, if_pos this]
    · rcases List.mem_append.mp hz with h | h
      · rw [if_neg (nx z h)]; exact lk.fr z h
      · rw [if_pos (List.mem_singleton.mp h)]; exact nl0
    · rcases List.mem_append.mp hz with h | h
      · rw [if_neg (nx z h)]
        obtain ⟨bs, h1, h2⟩ := lk.at' z h
        exact ⟨bs, tk _ _ (fun _ z => by cases z) (s6 _ _ h1), Paired.mapP (h2.same s6) fun _ _ w => tk _ _ (fun _ z => by cases z) w⟩
      · rw [if_pos (List.mem_singleton.mp h)]
        exact ⟨[], tk _ _ (fun _ z => by cases z) e6, .nil⟩
    · rcases List.mem_append.mp hz with h | h <;> rcases List.mem_append.mp hz' with h' | h'
      · rw [if_neg (nx z h), if_neg (nx z' h')]; exact lk.inj z h z' h'
      · rw [if_neg (nx z h), if_pos (List.mem_singleton.mp h')]; exact fun w => (ne z h w).elim
      · rw [if_pos (List.mem_singleton.mp h), if_neg (nx z' h')]; exact fun w => (ne z' h' w.symm).elim
      · exact fun _ => (List.mem_singleton.mp h).trans (List.mem_singleton.mp h').symm
  · rintro σ H5 ⟨kvs, lA, x3, rfl, s5, ed, hk, lk⟩
    rw [List.length_map, la, List.take_length] at lk
    dsimp only
    have ha5 := s5.seq ha
    refine sq_rng2 (i := 3) (j := ((ns.map V.int).length : Nat)) (ea_cons ev_c (ea_cons (ev_cb (ea_cons (ev_var rfl) ea_nil) fun Q' q' => ⟨_, _, rfl, by first | exact .inl ⟨_, by assumption, rfl⟩ | exact .inl ⟨_, SqL.of (by assumption), rfl⟩ | exact .inr ⟨_, by assumption, rfl⟩ | exact .inr ⟨_, SqT.of (by assumption), rfl⟩, q'⟩) ea_nil)) (by rw [List.length_map]; omega) (for_range (fun i σ H' => ∃ (L : T3 → List T3) (x3 x4 x5 x6 : Option V), σ = [some (.ref a), some (.ref p), some (.ref d), x3, x4, x5, x6] ∧ Same H H' ∧ H' d = some (.dT kvs) ∧ LkI H H' kvs sps lA L ∧ (∀ x ∈ sps, ∀ y ∈ L x, y ∈ sps ∧ y ≠ x) ∧ ∀ x ∈ sps, (L x).Nodup)
      ⟨fun _ => [], _, _, _, _, rfl, s5, ed, lk, (fun _ _ _ h => nomatch h), fun _ _ => .nil⟩ ?_ ?_)
    · rintro i σ H6 hi ⟨L, x3, x4, x5, x6, rfl, s6, ed, lk, lm, ln⟩
      rw [List.length_map] at hi
      refine gn ?_
      have k0 : 3 + i < ns.length := by omega
      have ha6 := s6.seq ha
      have hs6 := hs.same s6
      have lsp := hs6.ls
      have l3 := hs.l3
      have mx : ∀ {σ : St} {pr : Int} {Q : VK}, 0 < pr → pr < 10000000 → σ[0]? = some (some (.ref a)) → σ[4]? = some (some (.int (3 + i))) → (∀ v : Int, Q (.int v) H6) → tCall spMix [] E0 (tCons (tOp (rIxL K) (tVar 0) (tVar 4)) (tCons (tVar 4) (tCons (tC (.int pr)) tNil))) σ H6 Q := fun h1 h2 h3 h4 z =>
        te_cal (ea_cons (ev_ixL (v := .int ns[3 + i]) (ev_var h3) (ev_var h4) ha6 (atI_nat (j := 3 + i) (by simp [k0]))) (ea_cons (ev_var h4) (ea_cons ev_c ea_nil))) ⟨_, _, _, rfl, h1, h2, by omega, by omega, z⟩
      refine te_pick (xs := as.map V.ref) (ev_var rfl) (fun Q z => mx (by decide) (by decide) rfl rfl z) (ev_cb (ea_cons (ev_var rfl) ea_nil) fun Q' q' => ⟨_, _, rfl, by first | exact .inl ⟨_, by assumption, rfl⟩ | exact .inl ⟨_, SqL.of (by assumption), rfl⟩ | exact .inr ⟨_, by assumption, rfl⟩ | exact .inr ⟨_, SqT.of (by assumption), rfl⟩, q'⟩) lsp (by rw [List.length_map]; omega) fun j1 y1 g1 => ?_
      obtain ⟨b1, x1, rfl, _, _, xm1, t1⟩ := hs6.at g1
      refine te_pick (xs := as.map V.ref) (ev_var rfl) (fun Q z => mx (by decide) (by decide) rfl rfl z) (ev_cb (ea_cons (ev_var rfl) ea_nil) fun Q' q' => ⟨_, _, rfl, by first | exact .inl ⟨_, by assumption, rfl⟩ | exact .inl ⟨_, SqL.of (by assumption), rfl⟩ | exact .inr ⟨_, by assumption, rfl⟩ | exact .inr ⟨_, SqT.of (by assumption), rfl⟩, q'⟩) lsp (by rw [List.length_map]; omega) fun j2 y2 g2 => ?_
      obtain ⟨b2, x2, rfl, _, _, xm2, t2⟩ := hs6.at g2
      obtain ⟨bs, hb1, hb2⟩ := lk.at' x1 xm1
      have g : DGet H6 d (.ref b1) (some (.ref (lA x1))) := by rw [← lk.va x1 xm1]; exact dg (.inl ed) t1
      refine rd_if (b := !decide (x1 = x2) && !decide (x2 ∈ L x1)) (et_and (et_of (et_test (ev_neD (ev_var rfl) (ev_var rfl) (Dp.ints (SqT.of t1)) (Dp.ints (SqT.of t2)) (Nat.le_trans (depth_tints _) (by decide)))) (by rw [eqv_tints])) fun _ => et_test (ev_notinT (ev_var rfl) (ev_dget (ev_var rfl) (ev_var rfl) g) t2 (SqL.of hb1) hb2)) (fun w => ?_) (fun _ => ⟨L, _, _, _, _, rfl, s6, ed, lk, lm, ln⟩)
      have w1 : x1 ≠ x2 := fun z => by rw [decide_eq_true z] at w; cases w
      have w2 : x2 ∉ L x1 := fun z => by rw [decide_eq_true z, Bool.and_comm] at w; cases w
      have lb : bs.length ≤ 12 := by
        have e1 : bs.length = (L x1).length := Paired.length hb2
        have := nd_sub_len (ln x1 xm1) fun y hy => (lm x1 xm1 y hy).1
        have := hs.l12
        omega
      refine ⟨_, rfl, _, rfl, d, _, rfl, g, .inl ⟨rfl, _, SqL.of hb1⟩, _, rfl, lA x1, _, _, rfl, rfl, hb1, (by rw [List.length_map]; exact small1000 (by omega)), ?_⟩
      have tk : ∀ b ys, H6 b = some (.tup ys) → upd H6 (lA x1) (.lst (bs.map V.ref ++ [.ref b2])) b = some (.tup ys) := fun b ys eb => by rw [upd_ne (ne_of eb hb1 (by intro z; cases z))]; exact eb
      refine ⟨fun z => if z = x1 then L x1 ++ [x2] else L z, _, _, _, _, rfl, same_at s6 (lk.fr x1 xm1), (by rw [upd_ne (ne_of ed hb1 (by intro z; cases z))]; exact ed), ⟨lk.va, lk.fr, fun z hz => ?_, lk.inj⟩, fun z hz y hy => ?_, fun z hz => ?_⟩
      · by_cases e : z = x1
        · subst e
          rw [if_pos rfl]
          exact ⟨bs ++ [b2], by rw [upd_same, List.map_append]; rfl, tups_app (Paired.mapP hb2 fun _ _ w => tk _ _ w) (.cons (tk _ _ t2) .nil)⟩
        · rw [if_neg e]
          obtain ⟨bz, h1, h2⟩ := lk.at' z hz
          exact ⟨bz, by rw [upd_ne (fun w => e (lk.inj z hz x1 xm1 w))]; exact h1, Paired.mapP h2 fun _ _ w => tk _ _ w⟩
      · by_cases e : z = x1
        · subst e
          dsimp only at hy
          rw [if_pos rfl] at hy
          rcases List.mem_append.mp hy with h | h
          · exact lm z hz y h
          · rw [List.mem_singleton.mp h]; exact ⟨xm2, fun w => w1 w.symm⟩
        · dsimp only at hy
          rw [if_neg e] at hy
          exact lm z hz y hy
      · by_cases e : z = x1
        · subst e
          dsimp only
          rw [if_pos rfl, List.nodup_append]
          exact ⟨ln z hz, by simp, fun u hu v hv w => w2 (by rw [← List.mem_singleton.mp hv, ← w]; exact hu)⟩
        · dsimp only
          rw [if_neg e]
          exact ln z hz
    · rintro σ H6 ⟨L, x3, x4, x5, x6, rfl, s6, ed, lk, lm, ln⟩
      refine ⟨_, rfl, q d H6 kvs L s6 nd ed ⟨fun x hx => ?_, lm, ln, hs.sp, fun x hx => ?_⟩⟩
      · obtain ⟨bs, h1, h2⟩ := lk.at' x hx
        exact ⟨_, bs, lk.va x hx, h1, h2⟩
      · exact Nat.le_trans (nd_sub_len (ln x hx) fun y hy => (lm x hx y hy).1) hs.l12
theorem ok_Lying {f : Addr} {fd : FuncData} (F : Fun K "_law_lying" "_law_lying" sLying f fd) (T : Txt K mg) (gCell : Callee P w K mg base "_law_cell_at" 1 ["script", "k"] (spCell K)) : FnOk P w K mg base CX0 2 f fd ["script", "spots", "links"] (spLying K) := by
  have sc : FnScope ["script", "spots", "links", "comes", "begins", "shift", "k", "other"] ["script", "spots", "links"] (defScope sLying) := ⟨rfl, rfl, rfl, by decide +kernel, rfl, by decide +kernel, by decide +kernel⟩
  refine F.ok sc (fun vs H Q E h => by repeat (first | (obtain ⟨rfl, _⟩ := h; rfl) | (obtain ⟨_, h⟩ := h))) (fun cdv A outer s H vs Q E hr h => ?_)
  obtain ⟨a, p, d, ns, n, as, sps, kvs, L, rfl, ha, hn, hs, hd, hL, q⟩ := h
  refine ⟨_, (pss_cons (ps_set (i := 3) sc.nd rfl (Or.inl rfl) pe_dnewT)
  (pss_cons (ps_set (i := 4) sc.nd rfl (Or.inl rfl) pe_dnewT)
  (pss_cons (ps_set (i := 5) sc.nd rfl (Or.inl rfl) (pe_op op_mod (pe_cal gCell (hr.mono (by decide)) (by rfl) (pa_cons (pv 0) (pa_cons pe_int pa_nil))) pe_int))
  (pss_cons (ps_for PassesOwn.never rfl (pi_range1 (by rfl) T.range_ (pa_cons (pe_op op_sub (pe_callB call_len (by rfl) T.len_ bt_len (pa_cons (pv 1) pa_nil)) pe_int) pa_nil)) (pg_name (i := 6) sc.nd rfl (Or.inl rfl))
  (pss_one (ps_for PassesOwn.never rfl (pi_list (pe_dget (Room.one hr) (pv 2) (pe_ix ix_list (pv 1) (pv 6) (fun _ _ => rfl)) (fun _ _ => rfl))) (pg_name (i := 7) sc.nd rfl (Or.inl rfl))
  (pss_one (ps_if (pw_and (pt_cmpR (op_inT hr) (pv 7) (pe_slice sl_list (pv 1) (po_some (pe_op op_add (pv 6) pe_int)) (po_some (pe_un un_neg pe_int))) (by with_unfolding_all rfl)) (pw_and (pt_cmp (pc_dnotin (Room.one hr) (pv 7) (pv 3))) (pw_and (pt_cmp (pc_dnotin (Room.one hr) (pe_ix ix_list (pv 1) (pv 6) (fun _ _ => rfl)) (pv 4))) (pw_and1 (pt_cmpR op_gt (pe_op op_mod (pe_op op_add (pv 6) (pv 5)) pe_int) pe_int (nomark _)))))).pt
  (pss_cons (ps_dput (Room.one hr) (pv 3) (pv 7) (pe_ix ix_list (pv 1) (pv 6) (fun _ _ => rfl)) (by rfl))
  (pss_one (ps_dput (Room.one hr) (pv 4) (pe_ix ix_list (pv 1) (pv 6) (fun _ _ => rfl)) pe_bl (by rfl))))
  pss_nil)))))
  (pss_cons (ps_for PassesOwn.never rfl (pi_range1 (by rfl) T.range_ (pa_cons (pe_op op_sub (pe_callB call_len (by rfl) T.len_ bt_len (pa_cons (pv 1) pa_nil)) pe_int) pa_nil)) (pg_name (i := 6) sc.nd rfl (Or.inl rfl))
  (pss_one (ps_if (pw_and (pt_cmp (pc_dnotin (Room.one hr) (pe_ix ix_list (pv 1) (pv 6) (fun _ _ => rfl)) (pv 3))) (pw_and1 (pw_or (pt_cmp (pc_din (Room.one hr) (pe_ix ix_list (pv 1) (pv 6) (fun _ _ => rfl)) (pv 4))) (pw_or1 (pt_cmpR op_eq (pe_op op_mod (pe_op op_add (pv 6) (pv 5)) pe_int) pe_int (nomark _)))).pt)).pt
  (pss_one (ps_dput (Room.one hr) (pv 3) (pe_ix ix_list (pv 1) (pv 6) (fun _ _ => rfl)) pe_non (by rfl)))
  pss_nil)))
  (pss_one (ps_ret (pv 3)))))))), ?_⟩
  have la : as.length = sps.length := Paired.length hs.tp
  have l3 := hs.l3
  have l12 := hs.l12
  refine sq_asg fun c nc => ?_
  have s1 : Same H (upd H c (.dT [])) := (Same.refl H).upd nc
  have e1 : upd H c (.dT []) c = some (.dT []) := upd_same
  revert s1 e1
  generalize upd H c (.dT []) = H1
  intro s1 e1
  refine sq_asg fun b nb => ?_
  have s2 : Same H1 (upd H1 b (.dT [])) := (Same.refl H1).upd nb
  have e2 : upd H1 b (.dT []) b = some (.dT []) := upd_same
  have cb : c ≠ b := ne_of_none e1 nb
  have hnb : H b = none := s1.free nb
  revert s2 e2
  generalize upd H1 b (.dT []) = H2
  intro s2 e2
  have e3 := s2 _ _ e1
  have s3 := s1.trans s2
  refine te_cal (ea_cons (ev_var rfl) (ea_cons ev_c ea_nil)) ⟨a, ns, 1, rfl, s3.seq ha, by decide, fun v => ⟨v, 5, rfl, rfl, (by show (0 : Int) < 5; decide), ?_⟩⟩
  dsimp only
  generalize v % 5 = sh
  have spK : ∀ {H' : Hp} {i : Nat} {σ : St} {ts ti : TE}, Same H H' → Ev ts σ H' (.ref p) → Ev ti σ H' (.int i) → i < sps.length - 1 → ∃ (b : Addr) (x : T3), sps[i]? = some x ∧ x ∈ sps.dropLast ∧ x ∈ sps ∧ H' b = some (.tup (x.map V.int)) ∧ Ev (tOp (rIxL K) ts ti) σ H' (.ref b) := fun {H'} {i} {σ} {ts} {ti} s h1 h2 hi => by
    have hi' : i < as.length := by omega
    obtain ⟨b, x, eb, _, hx, xm, g⟩ := (hs.same s).at (i := i) (x := .ref as[i]) (by rw [List.getElem?_map, List.getElem?_eq_getElem hi']; rfl)
    refine ⟨b, x, hx, ?_, xm, g, ?_⟩
    · rw [List.dropLast_eq_take]
      exact List.mem_iff_getElem?.mpr ⟨_, by rw [List.getElem?_take_of_lt hi]; exact hx⟩
    · rw [← eb]
      exact ev_ixL h1 h2 (s.seq hs.ls) (atI_nat (by rw [List.getElem?_map, List.getElem?_eq_getElem hi']; rfl))
  have lsp := s3.seq hs.ls
  refine sq_rng1 (ea_cons (ev_I0 (ev_cb (ea_cons (ev_var rfl) ea_nil) fun Q' q' => ⟨_, _, rfl, by first | exact .inl ⟨_, by assumption, rfl⟩ | exact .inl ⟨_, SqL.of (by assumption), rfl⟩ | exact .inr ⟨_, by assumption, rfl⟩ | exact .inr ⟨_, SqT.of (by assumption), rfl⟩, q'⟩) ev_c) ea_nil) (by rw [List.length_map]; omega) (by rw [List.length_map]; omega) (for_range (fun i σ H' => ∃ (kvc kvb : List (List Key × V)) (C : Cm T3) (B : T3 → Prop) (x6 x7 : Option V), σ = [some (.ref a), some (.ref p), some (.ref d), some (.ref c), some (.ref b), some (.int sh), x6, x7] ∧ Same H H' ∧ H' c = some (.dT kvc) ∧ CmAt H' n kvc C ∧ H' b = some (.dT kvb) ∧ OnAt n kvb B ∧ Lm C B sps.dropLast)
    ⟨[], [], fun _ => none, fun _ => False, none, none, rfl, s3, e3, cm_nil, e2, ⟨.nil, (fun _ h => nomatch h), fun x => ⟨(fun h => nomatch h), fun h => h.elim⟩⟩, ⟨(fun _ _ h => nomatch h), (fun _ h => h.elim), fun _ _ _ h => nomatch h⟩⟩ ?_ ?_)
  · rintro i σ H5 hi ⟨kvc, kvb, C, B, x6, x7, rfl, s5, ec, hc, eb, ob, lm⟩
    rw [List.length_map, la] at hi
    rw [Int.zero_add]
    refine gn ?_
    have hi : i < sps.length - 1 := by omega
    obtain ⟨bk, xk, hxk, xdk, xmk, gk, evk⟩ := spK (ts := tVar 1) (ti := tVar 6) (σ := [some (.ref a), some (.ref p), some (.ref d), some (.ref c), some (.ref b), some (.int sh), some (.int i), x7]) s5 (ev_var rfl) (ev_var rfl) hi
    obtain ⟨l, bs, hv, hll, ht⟩ := hL.at' xk xmk
    have g : DGet H5 d (.ref bk) (some (.ref l)) := by rw [← hv]; exact dg (.inl (s5 _ _ hd)) gk
    refine ev_dget (ev_var rfl) evk g _ ⟨l, rfl, ⟨_, s5.seq (SqL.of hll)⟩, for_list (K := K) (a := l) (xs := bs.map V.ref) (fun j σ H' => ∃ (kvc kvb : List (List Key × V)) (C : Cm T3) (B : T3 → Prop) (x7 : Option V), σ = [some (.ref a), some (.ref p), some (.ref d), some (.ref c), some (.ref b), some (.int sh), some (.int i), x7] ∧ Same H H' ∧ H' c = some (.dT kvc) ∧ CmAt H' n kvc C ∧ H' b = some (.dT kvb) ∧ OnAt n kvb B ∧ Lm C B sps.dropLast)
      ⟨kvc, kvb, C, B, _, rfl, s5, ec, hc, eb, ob, lm⟩ (fun j σ H' _ ⟨_, _, _, _, _, _, s, _⟩ => s.seq (SqL.of hll)) ?_ ?_⟩
    · clear hc ob lm ec eb s5 g evk gk
      rintro j y σ H6 hj ⟨kvc, kvb, C, B, x7, rfl, s6, ec, hc, eb, ob, lm⟩
      have hjb : j < bs.length := by have := (List.getElem?_eq_some_iff.mp hj).1; rwa [List.length_map] at this
      have hy : y = .ref bs[j] := by
        rw [List.getElem?_map, List.getElem?_eq_getElem hjb] at hj
        exact (Option.some.inj hj).symm
      subst hy
      obtain ⟨x, ex, g1⟩ := (ht.same s6).at (i := j) (a := bs[j]) (by simp [hjb])
      obtain ⟨xm, xk2⟩ := hL.mem xk xmk x (List.mem_of_getElem? ex)
      refine gn ?_
      dsimp only
      refine ⟨_, rfl, _, rfl, _, rfl, _, _, rfl, rfl, _, rfl, _, rfl, _, rfl, p, _, rfl, s6.seq hs.ls, fun sl nsl => ?_⟩
      obtain ⟨us, cs, hcut, hus, hcs⟩ := cut_last (hs.tp.same s6) i
      have hcut : cutV (as.map V.ref) (some ((i : Int) + 1)) (some (-1)) = us.map V.ref := hcut
      have s7 : Same H6 (upd H6 sl (.lst (cutV (as.map V.ref) (some ((i : Int) + 1)) (some (-1))))) := (Same.refl H6).upd nsl
      have e7 : upd H6 sl (.lst (cutV (as.map V.ref) (some ((i : Int) + 1)) (some (-1)))) sl = some (.lst (us.map V.ref)) := by rw [upd_same, hcut]
      revert s7 e7
      generalize upd H6 sl (.lst (cutV (as.map V.ref) (some ((i : Int) + 1)) (some (-1)))) = H7
      intro s7 e7
      refine ⟨bs[j], sl, us, x, cs, rfl, rfl, s7 _ _ g1, SqL.of e7, hus.same s7, _, rfl, ?_⟩
      have s7' := s6.trans s7
      have ec7 := s7 _ _ ec
      have eb7 := s7 _ _ eb
      have hc7 := hc.same s7
      have g7 := s7 _ _ g1
      by_cases mc : x ∈ cs
      · rw [decide_eq_true mc]
        refine iteT ?_
        obtain ⟨bk, xk', hxk', _, _, gk, evk⟩ := spK (ts := tVar 1) (ti := tVar 6) (σ := [some (.ref a), some (.ref p), some (.ref d), some (.ref c), some (.ref b), some (.int sh), some (.int i), some (.ref bs[j])]) s7' (ev_var rfl) (ev_var rfl) hi
        rw [hxk] at hxk'
        cases hxk'
        have gc := dg (.inl ec7) g7
        have gb := dg (.inl eb7) gk
        refine rd_if (t := tSeq _ _) (et_and (et_B (ev_dnotin (ev_var rfl) (ev_var rfl) gc)) fun _ => et_and (et_B (ev_dnotin evk (ev_var rfl) gb)) fun _ => (et_test (ev_I0 (ev_I (ev_I0 (ev_var rfl) (ev_var rfl)) ev_c (by first | (show (0 : Int) < _; omega) | (show (0 : Int) < _; decide))) ev_c))) (fun w => ?_) (fun _ => ⟨kvc, kvb, C, B, _, rfl, s7', ec7, hc7, eb7, ob, lm⟩)
        have hB : ¬ B xk := fun z => by have := (ob.is xk).mpr z; rw [this] at w; simp at w
        refine sq_dput evk (ev_var rfl) (ev_var rfl) (DPut.t ec7 (iK_at g7) (small1000 (by have := hc7.len; omega))) ?_
        have tk : ∀ b ys, H7 b = some (.tup ys) → upd H7 c (.dT (putK kvc (iK x) (.ref bk))) b = some (.tup ys) := fun b ys eb => by rw [upd_ne (ne_of eb ec7 (by intro z; cases z))]; exact eb
        have s8 : Same H (upd H7 c (.dT (putK kvc (iK x) (.ref bk)))) := same_at s7' nc
        have ec8 : upd H7 c (.dT (putK kvc (iK x) (.ref bk))) c = some (.dT (putK kvc (iK x) (.ref bk))) := upd_same
        have eb8 : upd H7 c (.dT (putK kvc (iK x) (.ref bk))) b = some (.dT kvb) := by rw [upd_ne cb.symm]; exact eb7
        have hc8 := (hc7.put (hs.sp x xm) (.inr ⟨xk, bk, rfl, rfl, hs.sp xk xmk, gk⟩)).tups tk
        revert s8 ec8 eb8 hc8
        generalize upd H7 c (.dT (putK kvc (iK x) (.ref bk))) = H8
        intro s8 ec8 eb8 hc8
        obtain ⟨bk2, xk', hxk', _, _, gk2, evk2⟩ := spK (ts := tVar 1) (ti := tVar 6) (σ := [some (.ref a), some (.ref p), some (.ref d), some (.ref c), some (.ref b), some (.int sh), some (.int i), some (.ref bs[j])]) s8 (ev_var rfl) (ev_var rfl) hi
        rw [hxk] at hxk'
        cases hxk'
        refine rd_dput ev_c (ev_var rfl) evk2 (DPut.t eb8 (iK_at gk2) (small1000 (by have := keys13 ob.nd ob.sp; omega))) ?_
        exact ⟨_, _, _, _, _, rfl, same_at s8 hnb, (by rw [upd_ne cb]; exact ec8), hc8.tups (fun b ys eb => by rw [upd_ne (ne_of eb eb8 (by intro z; cases z))]; exact eb), upd_same, ob.put (S' := fun z => B z ∨ z = xk) (hs.sp xk xmk) _ (fun _ => Iff.rfl), lm.add hB (fun z => xk2 z.symm) (hcs x mc) xdk (fun _ => Iff.rfl)⟩
      · rw [decide_eq_false mc]
        refine iteF ?_
        refine iteF ?_
        exact ⟨kvc, kvb, C, B, _, rfl, s7', ec7, hc7, eb7, ob, lm⟩
    · rintro σ H6 ⟨kvc, kvb, C, B, x7, rfl, s6, ec, hc, eb, ob, lm⟩
      exact ⟨kvc, kvb, C, B, _, _, rfl, s6, ec, hc, eb, ob, lm⟩
  · rintro σ H5 ⟨kvc, kvb, C, B, x6, x7, rfl, s5, ec, hc, eb, ob, lm⟩
    have lsp5 := s5.seq hs.ls
    dsimp only
    refine sq_rng1 (ea_cons (ev_I0 (ev_cb (ea_cons (ev_var rfl) ea_nil) fun Q' q' => ⟨_, _, rfl, by first | exact .inl ⟨_, by assumption, rfl⟩ | exact .inl ⟨_, SqL.of (by assumption), rfl⟩ | exact .inr ⟨_, by assumption, rfl⟩ | exact .inr ⟨_, SqT.of (by assumption), rfl⟩, q'⟩) ev_c) ea_nil) (by rw [List.length_map]; omega) (by rw [List.length_map]; omega) (for_range (fun i σ H' => ∃ (kvc : List (List Key × V)) (C' : Cm T3) (x6 : Option V), σ = [some (.ref a), some (.ref p), some (.ref d), some (.ref c), some (.ref b), some (.int sh), x6, x7] ∧ Same H H' ∧ H' c = some (.dT kvc) ∧ CmAt H' n kvc C' ∧ H' b = some (.dT kvb) ∧ (∀ x y, C' x = some (some y) ↔ C x = some (some y)) ∧ (∀ x, (C' x).isSome = true → x ∈ sps.dropLast) ∧ ∀ j x, j < i → sps[j]? = some x → B x → (C' x).isSome = true)
      ⟨kvc, C, _, rfl, s5, ec, hc, eb, (fun _ _ => Iff.rfl), (fun x hx => by obtain ⟨o, ho⟩ := Option.isSome_iff_exists.mp hx; obtain ⟨_, _, _, _, h4⟩ := lm.cs x o ho; exact h4), fun _ _ h => (Nat.not_lt_zero _ h).elim⟩ ?_ ?_)
    · clear hc ec eb
      rintro i σ H6 hi ⟨kvc, C', x6, rfl, s6, ec, hc, eb, c1, c2, c3⟩
      rw [List.length_map, la] at hi
      rw [Int.zero_add]
      refine gn ?_
      have hi : i < sps.length - 1 := by omega
      obtain ⟨bk, xk, hxk, xdk, xmk, gk, evk⟩ := spK (ts := tVar 1) (ti := tVar 6) (σ := [some (.ref a), some (.ref p), some (.ref d), some (.ref c), some (.ref b), some (.int sh), some (.int i), x7]) s6 (ev_var rfl) (ev_var rfl) hi
      have gc := dg (.inl ec) gk
      have gb := dg (.inl eb) gk
      have eC := hc.isS xk
      refine rd_if (et_and (et_B (ev_dnotin evk (ev_var rfl) gc)) fun _ => et_or (et_B (ev_din2 evk (ev_var rfl) gb)) fun _ => (et_test (ev_eqI (ev_I (ev_I0 (ev_var rfl) (ev_var rfl)) ev_c (by first | (show (0 : Int) < _; omega) | (show (0 : Int) < _; decide))) ev_c))) (fun w => ?_) (fun w => ?_)
      · have cN : C' xk = none := by
          cases e : C' xk with
          | none => rfl
          | some o => rw [eC, e] at w; simp at w
        refine rd_dput ev_c (ev_var rfl) evk (DPut.t ec (iK_at gk) (small1000 (by have := hc.len; omega))) ?_
        refine ⟨_, _, _, rfl, same_at s6 nc, upd_same, (hc.put (hs.sp xk xmk) (.inl ⟨rfl, rfl⟩)).tups (fun b ys eb => by rw [upd_ne (ne_of eb ec (by intro z; cases z))]; exact eb), (by rw [upd_ne cb.symm]; exact eb), fun x y => ?_, fun x hx => ?_, fun j x hj ex hB => ?_⟩
        · by_cases e : x = xk
          · rw [if_pos e, ← c1, e, cN]
            exact ⟨(fun z => nomatch z), fun z => nomatch z⟩
          · rw [if_neg e]; exact c1 x y
        · by_cases e : x = xk
          · rw [e]; exact xdk
          · rw [if_neg e] at hx; exact c2 x hx
        · by_cases e : x = xk
          · rw [if_pos e]; rfl
          · rw [if_neg e]
            refine c3 j x ?_ ex hB
            rcases Nat.lt_or_eq_of_le (Nat.le_of_lt_succ hj) with z | z
            · exact z
            · rw [z, hxk] at ex; cases ex; exact (e rfl).elim
      · refine ⟨kvc, C', _, rfl, s6, ec, hc, eb, c1, c2, fun j x hj ex hB => ?_⟩
        rcases Nat.lt_or_eq_of_le (Nat.le_of_lt_succ hj) with z | z
        · exact c3 j x z ex hB
        · rw [z, hxk] at ex
          cases ex
          have h1 := (ob.is xk).mpr hB
          rw [h1, eC] at w
          cases e : (C' xk).isSome with
          | true => rfl
          | false => rw [e] at w; simp at w
    · clear hc ec eb
      rintro σ H6 ⟨kvc, C', x6, rfl, s6, ec, hc, eb, c1, c2, c3⟩
      rw [List.length_map, la] at c3
      refine ⟨_, rfl, q c H6 kvc C' s6 nc ec hc ⟨fun x x' y h1 h2 => lm.inj x x' y ((c1 _ _).mp h1) ((c1 _ _).mp h2), fun x y h1 => ?_, fun x hx => (by obtain ⟨j, _, ej⟩ := mem_dl.mp (c2 x hx); exact List.mem_of_getElem? ej), ?_⟩⟩
      · obtain ⟨y', e1, e2, e3, _⟩ := lm.cs x _ ((c1 _ _).mp h1)
        cases e1
        obtain ⟨j, hj, ej⟩ := mem_dl.mp (lm.bm y e2)
        exact ⟨c3 j y (by omega) ej e2, e3⟩
      · have hlt : sps.length - 1 < sps.length := by omega
        refine ⟨sps[sps.length - 1], List.getElem_mem _, ?_⟩
        cases e : C' sps[sps.length - 1] with
        | none => rfl
        | some o =>
          obtain ⟨j, hj, ej⟩ := mem_dl.mp (c2 _ (by rw [e]; rfl))
          have := (List.getElem?_inj (by omega) hs.nd).mp (ej.trans (List.getElem?_eq_getElem hlt).symm)
          omega
theorem ok_Led {f : Addr} {fd : FuncData} (F : Fun K "_law_led" "_law_led" sLed f fd) (T : Txt K mg) : FnOk P w K mg base CX0 1 f fd ["links", "comes", "mark"] (spLed K) := by
  have sc : FnScope ["links", "comes", "mark", "spot", "found"] ["links", "comes", "mark"] (defScope sLed) := ⟨rfl, rfl, rfl, by decide +kernel, rfl, by decide +kernel, by decide +kernel⟩
  refine F.ok sc (fun vs H Q E h => by repeat (first | (obtain ⟨rfl, _⟩ := h; rfl) | (obtain ⟨_, h⟩ := h))) (fun cdv A outer s H vs Q E hr h => ?_)
  obtain ⟨d, e, b, n, sps, kvs, kvs', L, C, ⟨x, sd⟩, rfl, hd, hL, he, hC, hm, hl, hb, q⟩ := h
  refine ⟨_, (pss_cons (ps_set (i := 3) sc.nd rfl (Or.inl rfl) (pe_slice sl_tup (pv 2) po_none (po_some pe_int)))
  (pss_cons (ps_if (pt_cmpR op_eq (pe_ix ix_tup (pv 2) pe_int (fun _ _ => rfl)) pe_int (nomark _))
  (pss_cons (ps_lcset (i := 4) (ls := ["other"]) (ys := []) (ix := []) rfl sc.nd rfl (Or.inl rfl) ⟨rfl, by rfl, by rfl, by rfl, by rfl, rfl⟩ (pi_list (pe_dget (Room.one hr) (pv 0) (pv 3) (fun _ _ => rfl))) (fun _ _ _ _ _ => (pg_name (i := 0) (show (["other"] : List Str).Nodup by decide +kernel) rfl (Or.inl rfl))) (fun _ _ _ _ _ => pf_nil) (fun _ _ _ _ _ => (pe_op (op_catTK (K := K) rfl) (pv 0) (pe_tup (pa_cons pe_int pa_nil)))))
  (pss_cons (ps_if (pt_cmp (pc_din (Room.one hr) (pv 3) (pv 1)))
  (pss_one (ps_expr (pe_bm PySem.F.plainAttrs_list PySem.F.slot_list_append PySem.F.type_list_append mt_append (pv 4) (pa_cons (pe_op op_catT (pv 3) (pe_tup (pa_cons pe_int pa_nil))) pa_nil))))
  pss_nil)
  (pss_one (ps_ret (pv 4)))))
  pss_nil)
  (pss_cons (ps_if (pt_cmp (pc_dnotin (Room.one hr) (pv 3) (pv 1)))
  (pss_one (ps_ret (pe_lst (pa_cons (pe_op op_catT (pv 3) (pe_tup (pa_cons pe_int pa_nil))) pa_nil))))
  pss_nil)
  (pss_cons (ps_if (pt_cmpR op_isN (pe_dget (Room.one hr) (pv 1) (pv 3) (fun _ _ => rfl)) pe_non (nomark _))
  (pss_one (ps_ret (pe_lst pa_nil)))
  pss_nil)
  (pss_one (ps_ret (pe_lst (pa_cons (pe_op op_catT (pe_dget (Room.one hr) (pv 1) (pv 3) (fun _ _ => rfl)) (pe_tup (pa_cons pe_int pa_nil))) pa_nil)))))))), ?_⟩
  refine sq_cut (m := (x, sd)) (ev_var rfl) ev_c hl hb fun sp nsp => ?_
  have s1 : Same H (upd H sp (.tup (x.map V.int))) := (Same.refl H).upd nsp
  have e1 : upd H sp (.tup (x.map V.int)) sp = some (.tup (x.map V.int)) := upd_same
  revert s1 e1
  generalize upd H sp (.tup (x.map V.int)) = H1
  intro s1 e1
  have hb1 := s1 _ _ hb
  have hd1 := s1 _ _ hd
  have he1 := s1 _ _ he
  have hl : x.length = 3 := hl
  cases sd with
  | true =>
    refine sq_if (b := true) (et_test (ev_eqI (mk_ix (m := (x, true)) (ev_var rfl) ev_c hl hb1) ev_c)) (fun _ => ?_) (fun z => nomatch z)
    obtain ⟨l, bs, hv, hll, ht⟩ := hL.at' x hm
    have hll1 := s1 _ _ hll
    have g := dg (.inl hd1) e1
    rw [hv] at g
    refine ⟨_, rfl, _, rfl, d, .ref l, rfl, g, l, rfl, ⟨_, SqL.of hll1⟩, fun D nD => ?_⟩
    refine lc_listG (K := K) (xs := bs.map V.ref) (fun i τ H' => ∃ (x0 : Option V) (rs : List Addr), τ = [x0] ∧ Same H1 H' ∧ H' D = some (.lst (rs.map V.ref)) ∧ Tups H' rs (((L x).take i).map fun y => mkI (y, false)) ∧ rs.length = i)
      ⟨none, [], rfl, (Same.refl _).upd nD, upd_same, .nil, rfl⟩ (fun i τ H' _ ⟨_, _, _, s, _⟩ => s.seq (SqL.of hll1)) ?_ ?_
    · rintro i y τ H5 hi ⟨x0, rs, rfl, s5, hD, hrs, hrl⟩
      have hib : i < bs.length := by have := (List.getElem?_eq_some_iff.mp hi).1; rwa [List.length_map] at this
      have hy : y = .ref bs[i] := by
        rw [List.getElem?_map, List.getElem?_eq_getElem hib] at hi
        exact (Option.some.inj hi).symm
      subst hy
      obtain ⟨c, ec, g1⟩ := (ht.same (s1.trans s5)).at (i := i) (a := bs[i]) (by simp [hib])
      have cm := hL.mem x hm c (List.mem_of_getElem? ec)
      have lb : bs.length = (L x).length := Paired.length ht
      have l12 : rs.length < 1000 := by have := hL.ln x hm; omega
      dsimp only [gName, tYes]
      rw [if_pos rfl]
      refine (te_cat false rfl (ev_var rfl) g1 (hL.sp c cm.1).len fun p H6 s6 np ep => ⟨_, s6 _ _ hD, (by rw [List.length_map]; exact small1000 (by omega)), _, rs ++ [p], rfl, same_at (s5.trans s6) nD, ?_, ?_, ?_⟩)
      · rw [upd_same, List.map_append]; rfl
      · rw [show (L x).take (i + 1) = (L x).take i ++ [c] by rw [List.take_succ, ec]; rfl, List.map_append]
        have hD6 := s6 _ _ hD
        have up : ∀ b' ys, H6 b' = some (.tup ys) → upd H6 D (.lst (rs.map V.ref ++ [.ref p])) b' = some (.tup ys) := fun b' ys eb => by rw [upd_ne (ne_of eb hD6 (by intro z; cases z))]; exact eb
        exact tups_app (Paired.mapP (hrs.same s6) fun _ _ z => up _ _ z) (.cons (up _ _ ep) .nil)
      · rw [List.length_append, hrl]; rfl
    · rintro τ H5 ⟨x0, rs, rfl, s5, hD, hrs, hrl⟩
      rw [List.length_map, show bs.length = (L x).length from Paired.length ht, List.take_length] at hrs
      have g5 := dg (.inl (s5 _ _ he1)) (s5 _ _ e1)
      dsimp only
      refine sq_if (b := (C x).isSome) (et_of (et_B (ev_din2 (ev_var rfl) (ev_var rfl) g5)) (hC.isS x)) (fun hc => ?_) (fun hc => ?_)
      · refine ⟨_, rfl, .inl ⟨rfl, _, SqL.of hD⟩, te_cat false rfl (ev_var rfl) (s5 _ _ e1) hl fun p H6 s6 np ep => ?_⟩
        have l12 : rs.length < 1000 := by have := hL.ln x hm; have := Paired.length hrs; rw [List.length_map] at this; omega
        refine ⟨D, _, .ref p, rfl, rfl, s6 _ _ hD, (by rw [List.length_map]; exact small1000 (by omega)), ?_⟩
        refine ⟨_, rfl, q D _ (rs ++ [p]) (same_at (s1.trans (s5.trans s6)) (s1.free nD)) (s1.free nD) (by rw [upd_same, List.map_append]; rfl) ?_⟩
        have hD6 := s6 _ _ hD
        have up : ∀ b' ys, H6 b' = some (.tup ys) → upd H6 D (.lst (rs.map V.ref ++ [.ref p])) b' = some (.tup ys) := fun b' ys eb => by rw [upd_ne (ne_of eb hD6 (by intro z; cases z))]; exact eb
        have : (ledOf L C (x, true)).map mkI = (L x).map (fun y => mkI (y, false)) ++ [mkI (x, false)] := by unfold ledOf; simp [hc, Function.comp_def]
        rw [this]
        exact tups_app (Paired.mapP (hrs.same s6) fun _ _ z => up _ _ z) (.cons (up _ _ ep) .nil)
      · refine ⟨_, rfl, q D H5 rs (s1.trans s5) (s1.free nD) hD ?_⟩
        have : (ledOf L C (x, true)).map mkI = (L x).map (fun y => mkI (y, false)) := by unfold ledOf; simp [hc, Function.comp_def]
        rw [this]
        exact hrs
  | false =>
    refine sq_ifF (b := false) (et_test (ev_eqI (mk_ix (m := (x, false)) (ev_var rfl) ev_c hl hb1) ev_c)) rfl ?_
    have g := dg (.inl he1) e1
    cases hc : C x with
    | none =>
      rw [hC.no x hc] at g
      refine sq_if (b := true) (et_B (ev_dnotin (ev_var rfl) (ev_var rfl) g)) (fun _ => ?_) (fun z => nomatch z)
      refine te_cat true rfl (ev_var rfl) e1 hl fun p H2 s2 np ep => ⟨by show 1 ≤ sizeLine; decide, fun l nl => ?_⟩
      refine q l _ [p] ((s1.trans s2).upd nl) ((s1.trans s2).free nl) upd_same ?_
      have : ledOf L C (x, false) = [(x, true)] := by unfold ledOf; rw [if_neg (by simp)]; show (match C x with | none => _ | some none => _ | some (some y) => _) = _; rw [hc]
      rw [this]
      exact .cons (by rw [upd_ne (ne_of_none ep nl)]; exact ep) .nil
    | some o =>
      refine sq_if (b := false) (et_of (et_B (ev_dnotin (ev_var rfl) (ev_var rfl) g)) (by rw [hC.isS, hc]; rfl)) (fun z => nomatch z) (fun _ => ?_)
      cases o with
      | none =>
        rw [hC.fi x hc] at g
        refine sq_if (b := true) (et_test (ev_isN (ev_dget (ev_var rfl) (ev_var rfl) g) ev_c)) (fun _ => ?_) (fun z => nomatch z)
        refine ⟨Nat.zero_le _, fun l nl => ?_⟩
        refine q l _ [] (s1.upd nl) (s1.free nl) upd_same ?_
        have : ledOf L C (x, false) = [] := by unfold ledOf; rw [if_neg (by simp)]; show (match C x with | none => _ | some none => _ | some (some y) => _) = _; rw [hc]
        rw [this]
        exact .nil
      | some y =>
        obtain ⟨c, h1, h2⟩ := hC.ye x y hc
        rw [h1] at g
        refine sq_if (b := false) (et_test (ev_isN (ev_dget (ev_var rfl) (ev_var rfl) g) ev_c)) (fun z => nomatch z) (fun _ => ?_)
        refine te_cat true rfl (ev_dget (ev_var rfl) (ev_var rfl) g) (s1 _ _ h2) (hC.vl x y hc).len fun p H2 s2 np ep => ⟨by show 1 ≤ sizeLine; decide, fun l nl => ?_⟩
        refine q l _ [p] ((s1.trans s2).upd nl) ((s1.trans s2).free nl) upd_same ?_
        have : ledOf L C (x, false) = [(y, true)] := by unfold ledOf; rw [if_neg (by simp)]; show (match C x with | none => _ | some none => _ | some (some y) => _) = _; rw [hc]
        rw [this]
        exact .cons (by rw [upd_ne (ne_of_none ep nl)]; exact ep) .nil
theorem ok_Row {f : Addr} {fd : FuncData} (F : Fun K "_law_row" "_law_row" sRow f fd) (T : Txt K mg) (gCell : Callee P w K mg base "_law_cell_at" 1 ["script", "k"] (spCell K)) (gMix : Callee P w K mg base "_law_mix" 1 ["cell", "k", "prime"] spMix) (gLed : Callee P w K mg base "_law_led" 1 ["links", "comes", "mark"] (spLed K)) : FnOk P w K mg base CX0 2 f fd ["script", "spots", "links", "comes"] (spRow K) := by
  have sc : FnScope ["script", "spots", "links", "comes", "bare", "row", "k", "ahead"] ["script", "spots", "links", "comes"] (defScope sRow) := ⟨rfl, rfl, rfl, by decide +kernel, rfl, by decide +kernel, by decide +kernel⟩
  refine F.ok sc (fun vs H Q E h => by repeat (first | (obtain ⟨rfl, _⟩ := h; rfl) | (obtain ⟨_, h⟩ := h))) (fun cdv A outer s H vs Q E hr h => ?_)
  obtain ⟨a, p, d, e, ns, n, as, sps, kvs, kvs', L, C, rfl, ha, hn, hs, hd, hL, he, hC, hLie, q⟩ := h
  refine ⟨_, (pss_cons (ps_lcset (i := 4) (ls := ["spot"]) (ys := ["comes"]) (ix := [3]) rfl sc.nd rfl (Or.inl rfl) ⟨rfl, by rfl, by rfl, by rfl, by rfl, rfl⟩ (pi_list (pv 1)) (fun _ _ _ _ _ => (pg_name (i := 0) (show (["spot", "comes"] : List Str).Nodup by decide +kernel) rfl (Or.inl rfl))) (fun _ _ _ _ _ => (pf_one (pt_cmp (pc_dnotin (by exact (Room.one hr)) (pv 0) (pv 1))))) (fun _ _ _ _ _ => (pv 0)))
  (pss_cons (ps_set (i := 5) sc.nd rfl (Or.inr rfl) (pe_lst (pa_cons (pe_op op_catT (pe_ix ix_list (pv 4) (pe_op op_mod (pe_cal gCell (hr.mono (by decide)) (by rfl) (pa_cons (pv 0) (pa_cons pe_int pa_nil))) (pe_callB call_len (by rfl) T.len_ bt_len (pa_cons (pv 4) pa_nil))) (fun _ _ => rfl)) (pe_tup (pa_cons pe_int pa_nil))) pa_nil)))
  (pss_cons (ps_for PassesOwn.never rfl (pi_range1 (by rfl) T.range_ (pa_cons (pe_op op_mul pe_int (pe_callB call_len (by rfl) T.len_ bt_len (pa_cons (pv 1) pa_nil))) pa_nil)) (pg_name (i := 6) sc.nd rfl (Or.inl rfl))
  (pss_cons (ps_lcset (i := 7) (ls := ["mark"]) (ys := ["row"]) (ix := [5]) rfl sc.nd rfl (Or.inl rfl) ⟨rfl, by rfl, by rfl, by rfl, by rfl, rfl⟩ (pi_list (pe_cal gLed (hr.mono (by decide)) (by rfl) (pa_cons (pv 2) (pa_cons (pv 3) (pa_cons (pe_ix ix_list (pv 5) (pe_un un_neg pe_int) (fun _ _ => rfl)) pa_nil))))) (fun _ _ _ _ _ => (pg_name (i := 0) (show (["mark", "row"] : List Str).Nodup by decide +kernel) rfl (Or.inl rfl))) (fun _ _ _ _ _ => (pf_one (pt_cmpR (op_notinTK (K := K) rfl (by exact hr)) (pv 0) (pv 1) (by with_unfolding_all rfl)))) (fun _ _ _ _ _ => (pv 0)))
  (pss_cons (ps_if (pt_cmpR op_eq (pe_callB call_len (by rfl) T.len_ bt_len (pa_cons (pv 7) pa_nil)) pe_int (nomark _))
  (pss_one ps_break)
  pss_nil)
  (pss_one (ps_expr (pe_bm PySem.F.plainAttrs_list PySem.F.slot_list_append PySem.F.type_list_append mt_append (pv 5) (pa_cons (pe_ix ix_list (pv 7) (pe_op op_mod (pe_cal gMix (hr.mono (by decide)) (by rfl) (pa_cons (pe_cal gCell (hr.mono (by decide)) (by rfl) (pa_cons (pv 0) (pa_cons (pe_op op_add pe_int (pv 6)) pa_nil))) (pa_cons (pv 6) (pa_cons pe_int pa_nil)))) (pe_callB call_len (by rfl) T.len_ bt_len (pa_cons (pv 7) pa_nil))) (fun _ _ => rfl)) pa_nil)))))))
  (pss_cons (ps_while PassesOwn.never (pt_cmpR op_eq (pe_ix ix_tup (pe_ix ix_list (pv 5) (pe_un un_neg pe_int) (fun _ _ => rfl)) pe_int (fun _ _ => rfl)) pe_int (nomark _))
  (pss_one (ps_expr (pe_bm0 PySem.F.plainAttrs_list PySem.F.slot_list_pop PySem.F.type_list_pop mt_pop (pv 5)))))
  (pss_one (ps_ret (pv 5))))))), ?_⟩
  have la : as.length = sps.length := Paired.length hs.tp
  have l12 := hs.l12
  have l3 := hs.l3
  refine ⟨_, rfl, p, rfl, ⟨_, hs.ls⟩, fun D nD => ?_⟩
  refine lc_listG (K := K) (xs := as.map V.ref) (fun i τ H' => ∃ (x0 : Option V) (rs : List Addr), τ = [x0, some (.ref e)] ∧ Same H H' ∧ H' D = some (.lst (rs.map V.ref)) ∧ Tups H' rs ((sps.take i).filter fun x => !(C x).isSome) ∧ rs.length ≤ i)
    ⟨none, [], rfl, (Same.refl _).upd nD, upd_same, .nil, Nat.le_refl _⟩ (fun i τ H' _ ⟨_, _, _, s, _⟩ => s.seq hs.ls) ?_ ?_
  · rintro i y τ H5 hi ⟨x0, rs, rfl, s5, hD, hrs, hrl⟩
    obtain ⟨b, x, rfl, hb, hx, xm, g⟩ := (hs.same s5).at hi
    have il : i < as.length := (List.getElem?_eq_some_iff.mp hb).1
    have gc := dg (.inl (s5 _ _ he)) g
    rw [show sps.take (i + 1) = sps.take i ++ [x] by rw [List.take_succ, hx]; rfl, List.filter_append]
    refine (et_of (et_B (ev_dnotin (ev_var rfl) (ev_var rfl) gc)) (by rw [hC.isS])) _ ?_
    cases hc : (C x).isSome with
    | false =>
      refine iteT ?_
      refine ⟨_, rfl, _, hD, (by rw [List.length_map]; exact small1000 (by omega)), _, rs ++ [b], rfl, same_at s5 nD, ?_, ?_, ?_⟩
      · rw [upd_same, List.map_append]; rfl
      · have up : ∀ b' ys, H5 b' = some (.tup ys) → upd H5 D (.lst (rs.map V.ref ++ [.ref b])) b' = some (.tup ys) := fun b' ys eb => by rw [upd_ne (ne_of eb hD (by intro z; cases z))]; exact eb
        rw [List.filter_cons_of_pos (by rw [hc]; rfl), List.filter_nil]
        exact tups_app (Paired.mapP hrs fun _ _ z => up _ _ z) (.cons (up _ _ g) .nil)
      · rw [List.length_append]; simp only [List.length_cons, List.length_nil]; omega
    | true =>
      refine iteF ?_
      refine ⟨_, rs, rfl, s5, hD, ?_, by omega⟩
      rw [List.filter_cons_of_neg (by rw [hc]; simp), List.filter_nil, List.append_nil]
      exact hrs
  · rintro τ H5 ⟨x0, rs, rfl, s5, hD, hrs, hrl⟩
    rw [List.length_map, la, List.take_length] at hrs
    rw [List.length_map] at hrl
    have lr : rs.length = (sps.filter fun x => !(C x).isSome).length := Paired.length hrs
    have rpos : 0 < rs.length := by
      obtain ⟨x, xm, xn⟩ := hLie.bare
      rw [lr]
      exact List.length_pos_of_mem (List.mem_filter.mpr ⟨xm, by rw [xn]; rfl⟩)
    have ha5 := s5.seq ha
    dsimp only
    refine te_pick (xs := rs.map V.ref) (ev_var rfl) (fun Q z => te_cal (ea_cons (ev_var rfl) (ea_cons ev_c ea_nil)) ⟨a, ns, 2, rfl, ha5, by decide, z⟩) (ev_cb (ea_cons (ev_var rfl) ea_nil) fun Q' q' => ⟨_, _, rfl, by first | exact .inl ⟨_, by assumption, rfl⟩ | exact .inl ⟨_, SqL.of (by assumption), rfl⟩ | exact .inr ⟨_, by assumption, rfl⟩ | exact .inr ⟨_, SqT.of (by assumption), rfl⟩, q'⟩) (SqL.of hD) (by rw [List.length_map]; exact rpos) fun j y hy => ?_
    rw [List.getElem?_map] at hy
    obtain ⟨b0, hb0, rfl⟩ := Option.map_eq_some_iff.mp hy
    obtain ⟨s0, es0, g0⟩ := hrs.at hb0
    obtain ⟨sm0, sn0⟩ := List.mem_filter.mp (List.mem_of_getElem? es0)
    have c0 : C s0 = none := by
      cases e : C s0 with
      | none => rfl
      | some o => rw [e] at sn0; cases sn0
    refine te_cat (te := fun _ H' Q' => Q' (.ref b0) H') false rfl (fun _ q => q) g0 (hs.sp s0 sm0).len fun m0 H6 s6 nm0 em0 => ?_
    refine ⟨by show 1 ≤ sizeLine; decide, fun l nl => ?_⟩
    have s7 : Same H6 (upd H6 l (.lst [.ref m0])) := (Same.refl H6).upd nl
    have e7 : upd H6 l (.lst [.ref m0]) l = some (.lst ([m0].map V.ref)) := upd_same
    have nl0 : H l = none := (s5.trans s6).free nl
    have lD : l ≠ D := fun z => by have := s6 _ _ hD; rw [← z, nl] at this; cases this
    revert s7 e7
    generalize upd H6 l (.lst [.ref m0]) = H7
    intro s7 e7
    have s7' := (s5.trans s6).trans s7
    have lsp := s7'.seq hs.ls
    have t7 : Tups H7 [m0] ([(s0, false)].map mkI) := .cons (s7 _ _ em0) .nil
    dsimp only
    refine sq_R (fun σ H' => ∃ (ms : List Addr) (row : List (T3 × Bool)) (x6 x7 : Option V), σ = [some (.ref a), some (.ref p), some (.ref d), some (.ref e), some (.ref D), some (.ref l), x6, x7] ∧ Same H H' ∧ H' l = some (.lst (ms.map V.ref)) ∧ Tups H' ms (row.map mkI) ∧ row.length ≤ 60 ∧ Chn C row s0 ∧ (∀ m ∈ row, m.1 ∈ sps) ∧ 2 ≤ row.length ∧ (rAt row 1).2 = true) (fun R hR => ?_) ?_
    · refine rd_rng1 (ea_cons (ev_I ev_c (ev_cb (ea_cons (ev_var rfl) ea_nil) fun Q' q' => ⟨_, _, rfl, by first | exact .inl ⟨_, by assumption, rfl⟩ | exact .inl ⟨_, SqL.of (by assumption), rfl⟩ | exact .inr ⟨_, by assumption, rfl⟩ | exact .inr ⟨_, SqT.of (by assumption), rfl⟩, q'⟩) (by first | exact cmR (by omega) (by omega) | exact cmL (by omega) (by omega))) ea_nil) (by rw [List.length_map]; omega) (by rw [List.length_map]; omega) (for_range (fun i σ H' => ∃ (ms : List Addr) (row : List (T3 × Bool)) (x6 x7 : Option V), σ = [some (.ref a), some (.ref p), some (.ref d), some (.ref e), some (.ref D), some (.ref l), x6, x7] ∧ Same H H' ∧ H' l = some (.lst (ms.map V.ref)) ∧ Tups H' ms (row.map mkI) ∧ row.length ≤ i + 1 ∧ Chn C row s0 ∧ (∀ m ∈ row, m.1 ∈ sps) ∧ (0 < i → 2 ≤ row.length ∧ (rAt row 1).2 = true) ∧ (i = 0 → row = [(s0, false)]))
        ⟨[m0], [(s0, false)], none, none, rfl, s7', e7, t7, Nat.le_refl _, ⟨rfl, c0, Nat.one_pos, by simp, (fun i hi => by simp at hi)⟩, (fun m hm => by rw [List.mem_singleton.mp hm]; exact sm0), (fun h => (Nat.lt_irrefl _ h).elim), fun _ => rfl⟩ ?_ ?_)
      · rintro i σ H8 hi ⟨ms, row, x6, x7, rfl, s8, hl8, t8, hz, ch, hm8, h2, hfst⟩
        rw [List.length_map, la] at hi
        have hi : i < 24 := by omega
        rw [Int.zero_add]
        refine gn ?_
        have lm : ms.length = row.length := by have := Paired.length t8; rwa [List.length_map] at this
        have rp := ch.pos
        have hlast : (ms.map V.ref)[(ms.map V.ref).length - 1]? = some (.ref ms[ms.length - 1]) := by rw [List.length_map, List.getElem?_map, List.getElem?_eq_getElem (by omega : ms.length - 1 < ms.length)]; rfl
        obtain ⟨cm, ecm, gm⟩ := t8.at (i := ms.length - 1) (a := ms[ms.length - 1]) (by simp [show ms.length - 1 < ms.length by omega])
        rw [List.getElem?_map, lm, rAt_some (by omega)] at ecm
        have ecm : mkI (rAt row (row.length - 1)) = cm := Option.some.inj ecm
        subst ecm
        have mm := hm8 _ (rAt_mem (row := row) (i := row.length - 1) (by omega))
        have m3 := (hs.sp _ mm).len
        refine te_cal (ea_cons (ev_var rfl) (ea_cons (ev_var rfl) (ea_cons (ev_ixL (v := .ref ms[ms.length - 1]) (ev_var rfl) (ev_U ev_c) (SqL.of hl8) (atI_m1 hlast)) ea_nil))) ⟨d, e, _, n, sps, kvs, kvs', L, C, rAt row (row.length - 1), rfl, s8 _ _ hd, hL.same s8, s8 _ _ he, hC.same s8, mm, m3, gm, fun l2 H9 bs s9 nl2 e9 t9 => ⟨l2, rfl, ⟨_, SqL.of e9⟩, fun A nA => ?_⟩⟩
        have hl9 := s9 _ _ hl8
        have t8' := t8.same s9
        refine lc_listG (K := K) (xs := bs.map V.ref) (fun j τ H' => ∃ (x0 : Option V) (rs : List Addr) (us : List (T3 × Bool)), τ = [x0, some (.ref l)] ∧ Same H9 H' ∧ H' A = some (.lst (rs.map V.ref)) ∧ Tups H' rs (us.map mkI) ∧ rs.length ≤ j ∧ (∀ u ∈ us, u ∈ ledOf L C (rAt row (row.length - 1)) ∧ u ∉ row) ∧ ∀ u ∈ (ledOf L C (rAt row (row.length - 1))).take j, u ∉ row → u ∈ us)
          ⟨none, [], [], rfl, (Same.refl _).upd nA, upd_same, .nil, Nat.le_refl _, (fun u h => nomatch h), fun u h => nomatch h⟩ (fun i τ H' _ ⟨_, _, _, _, s, _⟩ => s.seq (SqL.of e9)) ?_ ?_
        · rintro j y τ H10 hj ⟨x0, rs, us, rfl, s10, hA, hrs, hrl, hu1, hu2⟩
          have hjb : j < bs.length := by have := (List.getElem?_eq_some_iff.mp hj).1; rwa [List.length_map] at this
          have hy : y = .ref bs[j] := by
            rw [List.getElem?_map, List.getElem?_eq_getElem hjb] at hj
            exact (Option.some.inj hj).symm
          subst hy
          obtain ⟨c, ec, g1⟩ := (t9.same s10).at (i := j) (a := bs[j]) (by simp [hjb])
          rw [List.getElem?_map] at ec
          obtain ⟨u, eu, rfl⟩ := Option.map_eq_some_iff.mp ec
          have mem : decide (mkI u ∈ row.map mkI) = decide (u ∈ row) := by
            refine decide_eq_decide.mpr ⟨fun h => ?_, fun h => List.mem_map.mpr ⟨u, h, rfl⟩⟩
            obtain ⟨u', h1, h2⟩ := List.mem_map.mp h
            rw [← mkI_inj h2]; exact h1
          rw [show (ledOf L C (rAt row (row.length - 1))).take (j + 1) = (ledOf L C (rAt row (row.length - 1))).take j ++ [u] by rw [List.take_succ, eu]; rfl]
          refine (et_of (et_test (ev_notinT (ev_var rfl) (ev_var rfl) g1 (SqL.of (s10 _ _ hl9)) (t8'.same s10))) (by rw [mem])) _ ?_
          by_cases ur : u ∈ row
          · rw [decide_eq_true ur]
            refine iteF ?_
            refine ⟨_, rs, us, rfl, s10, hA, hrs, by omega, hu1, fun v hv nv => ?_⟩
            rcases List.mem_append.mp hv with h | h
            · exact hu2 v h nv
            · rw [List.mem_singleton.mp h] at nv; exact (nv ur).elim
          · rw [decide_eq_false ur]
            refine iteT ?_
            have bl : bs.length < 1000 := by
              have e1 := Paired.length t9
              rw [List.length_map] at e1
              have e2 : (ledOf L C (rAt row (row.length - 1))).length ≤ 14 := by
                unfold ledOf
                split
                · rw [List.length_append, List.length_map]
                  have := hL.ln _ mm
                  split
                  · simp only [List.length_cons, List.length_nil]; omega
                  · simp only [List.length_nil]; omega
                · split <;> simp
              omega
            refine ⟨_, rfl, _, hA, (by rw [List.length_map]; exact small1000 (by omega)), _, rs ++ [bs[j]], us ++ [u], rfl, same_at s10 nA, ?_, ?_, ?_, ?_, ?_⟩
            · rw [upd_same, List.map_append]; rfl
            · have up : ∀ b' ys, H10 b' = some (.tup ys) → upd H10 A (.lst (rs.map V.ref ++ [.ref bs[j]])) b' = some (.tup ys) := fun b' ys eb => by rw [upd_ne (ne_of eb hA (by intro z; cases z))]; exact eb
              rw [List.map_append]
              exact tups_app (Paired.mapP hrs fun _ _ z => up _ _ z) (.cons (up _ _ g1) .nil)
            · rw [List.length_append]; simp only [List.length_cons, List.length_nil]; omega
            · intro v hv
              rcases List.mem_append.mp hv with h | h
              · exact hu1 v h
              · rw [List.mem_singleton.mp h]; exact ⟨List.mem_of_getElem? eu, ur⟩
            · intro v hv nv
              rcases List.mem_append.mp hv with h | h
              · exact List.mem_append.mpr (.inl (hu2 v h nv))
              · exact List.mem_append.mpr (.inr h)
        · rintro τ H10 ⟨x0, rs, us, rfl, s10, hA, hrs, hrl, hu1, hu2⟩
          rw [List.length_map, show bs.length = (ledOf L C (rAt row (row.length - 1))).length by have := Paired.length t9; rwa [List.length_map] at this, List.take_length] at hu2
          have s10' := (s8.trans s9).trans s10
          have lu : rs.length = us.length := by have := Paired.length hrs; rwa [List.length_map] at this
          have first : i = 0 → us ≠ [] := fun i0 z => by
            have er := hfst i0
            subst er
            have : ((s0, true) : T3 × Bool) ∈ us := hu2 _ (by show _ ∈ ledOf L C (s0, false); unfold ledOf; rw [if_neg (by simp)]; dsimp only; rw [c0]; simp) (by simp)
            rw [z] at this; cases this
          dsimp only
          have hl10 := s10 _ _ hl9
          have t10 := t8'.same s10
          refine sq_if (b := decide (us.length = 0)) (et_of (et_test (ev_eqI (ev_cb (ea_cons (ev_var rfl) ea_nil) fun Q' q' => ⟨_, _, rfl, by first | exact .inl ⟨_, by assumption, rfl⟩ | exact .inl ⟨_, SqL.of (by assumption), rfl⟩ | exact .inr ⟨_, by assumption, rfl⟩ | exact .inr ⟨_, SqT.of (by assumption), rfl⟩, q'⟩) ev_c)) (by rw [List.length_map, lu]; exact decide_eq_decide.mpr (by omega))) (fun w => ?_) (fun w => ?_)
          · have u0 := List.length_eq_zero_iff.mp (of_decide_eq_true w)
            obtain ⟨h3, h4⟩ := h2 (Nat.pos_of_ne_zero fun z => first z u0)
            exact hR _ _ ⟨ms, row, _, _, rfl, s10', hl10, t10, by omega, ch, hm8, h3, h4⟩
          · have u0 : us.length ≠ 0 := of_decide_eq_false w
            refine ⟨_, rfl, .inl ⟨rfl, _, SqL.of hl10⟩, te_pick (xs := rs.map V.ref) (ev_var rfl) (fun Q z => ?_) (ev_cb (ea_cons (ev_var rfl) ea_nil) fun Q' q' => ⟨_, _, rfl, by first | exact .inl ⟨_, by assumption, rfl⟩ | exact .inl ⟨_, SqL.of (by assumption), rfl⟩ | exact .inr ⟨_, by assumption, rfl⟩ | exact .inr ⟨_, SqT.of (by assumption), rfl⟩, q'⟩) (SqL.of hA) (by rw [List.length_map]; omega) fun j y hy => ?_⟩
            · refine te_nest (te_cal (ea_cons (ev_var rfl) (ea_cons (ev_I0 ev_c (ev_var rfl)) ea_nil)) ⟨a, ns, 3 + i, rfl, s10'.seq ha, by omega, fun v => ⟨_, rfl, _, _, _, rfl, by decide, by decide, by omega, by omega, z⟩⟩)
            rw [List.getElem?_map] at hy
            obtain ⟨bj, hbj, rfl⟩ := Option.map_eq_some_iff.mp hy
            obtain ⟨c, ec, gj⟩ := hrs.at hbj
            rw [List.getElem?_map] at ec
            obtain ⟨u, eu, rfl⟩ := Option.map_eq_some_iff.mp ec
            obtain ⟨hu3, hu4⟩ := hu1 u (List.mem_of_getElem? eu)
            obtain ⟨led, um⟩ := led_of hL hLie mm hu3
            refine ⟨l, _, .ref bj, rfl, rfl, hl10, (by rw [List.length_map]; exact small1000 (by omega)), ?_⟩
            have up : ∀ b' ys, H10 b' = some (.tup ys) → upd H10 l (.lst (ms.map V.ref ++ [.ref bj])) b' = some (.tup ys) := fun b' ys eb => by rw [upd_ne (ne_of eb hl10 (by intro z; cases z))]; exact eb
            refine ⟨ms ++ [bj], row ++ [u], _, _, rfl, same_at s10' nl0, (by rw [upd_same, List.map_append]; rfl), ?_, ?_, ch.snoc hu4 led, ?_, fun _ => ⟨by rw [List.length_append]; simp only [List.length_cons, List.length_nil]; omega, ?_⟩, fun z => by omega⟩
            · rw [List.map_append]
              exact tups_app (Paired.mapP t10 fun _ _ z => up _ _ z) (.cons (up _ _ gj) .nil)
            · rw [List.length_append]; simp only [List.length_cons, List.length_nil]; omega
            · intro m hm
              rcases List.mem_append.mp hm with h | h
              · exact hm8 m h
              · rw [List.mem_singleton.mp h]; exact um
            · by_cases i0 : i = 0
              · have er := hfst i0
                subst er
                have hu3 : u ∈ ledOf L C (s0, false) := hu3
                unfold ledOf at hu3
                rw [if_neg (by simp)] at hu3
                dsimp only at hu3
                rw [c0] at hu3
                have : u = (s0, true) := by simpa using hu3
                rw [this]
                rfl
              · obtain ⟨h3, h4⟩ := h2 (by omega)
                rw [rAt_app (by omega)]
                exact h4
      · rintro σ H8 ⟨ms, row, x6, x7, rfl, s8, hl8, t8, hz, ch, hm8, h2, hfst⟩
        rw [List.length_map, la] at hz h2
        obtain ⟨h3, h4⟩ := h2 (by omega)
        exact hR _ _ ⟨ms, row, _, _, rfl, s8, hl8, t8, by omega, ch, hm8, h3, h4⟩
    · rintro σ H8 ⟨ms, row, x6, x7, rfl, s8, hl8, t8, hz, ch, hm8, h2, hd1⟩
      refine sq_while (fun k σ H' => ∃ (ms : List Addr) (row : List (T3 × Bool)) (x6 x7 : Option V), σ = [some (.ref a), some (.ref p), some (.ref d), some (.ref e), some (.ref D), some (.ref l), x6, x7] ∧ Same H H' ∧ H' l = some (.lst (ms.map V.ref)) ∧ Tups H' ms (row.map mkI) ∧ row.length ≤ 60 ∧ Chn C row s0 ∧ (∀ m ∈ row, m.1 ∈ sps) ∧ 2 ≤ row.length ∧ (rAt row 1).2 = true ∧ k = row.length) ⟨_, ms, row, x6, x7, rfl, s8, hl8, t8, hz, ch, hm8, h2, hd1, rfl⟩ ?_
      clear hl8 t8 hz ch hm8 h2 hd1 s8
      rintro k σ H8 ⟨ms, row, x6, x7, rfl, s8, hl8, t8, hz, ch, hm8, h2, hd1, rfl⟩
      have lm : ms.length = row.length := by have := Paired.length t8; rwa [List.length_map] at this
      have hlast : (ms.map V.ref)[(ms.map V.ref).length - 1]? = some (.ref ms[ms.length - 1]) := by rw [List.length_map, List.getElem?_map, List.getElem?_eq_getElem (by omega : ms.length - 1 < ms.length)]; rfl
      obtain ⟨cm, ecm, gm⟩ := t8.at (i := ms.length - 1) (a := ms[ms.length - 1]) (by simp [show ms.length - 1 < ms.length by omega])
      rw [List.getElem?_map, lm, rAt_some (by omega)] at ecm
      have ecm : mkI (rAt row (row.length - 1)) = cm := Option.some.inj ecm
      subst ecm
      have mm := hm8 _ (rAt_mem (row := row) (i := row.length - 1) (by omega))
      have m3 := (hs.sp _ mm).len
      refine ⟨!(rAt row (row.length - 1)).2, et_of (et_test (ev_eqI (mk_ix (m := rAt row (row.length - 1)) (ev_ixL (v := .ref ms[ms.length - 1]) (ev_var rfl) (ev_U ev_c) (SqL.of hl8) (atI_m1 hlast)) ev_c m3 gm) ev_c)) (by cases (rAt row (row.length - 1)).2 <;> rfl), fun w N hN => ?_, fun w => ?_⟩
      · refine ⟨_, rfl, .inl ⟨rfl, _, SqL.of hl8⟩, l, _, _, rfl, rfl, hl8, hlast, ?_⟩
        have up : ∀ b' ys, H8 b' = some (.tup ys) → upd H8 l (.lst (ms.map V.ref).dropLast) b' = some (.tup ys) := fun b' ys eb => by rw [upd_ne (ne_of eb hl8 (by intro z; cases z))]; exact eb
        have n2 : row.length ≠ 2 := fun z => by rw [z] at w; rw [hd1] at w; cases w
        have dl : row.dropLast.length = row.length - 1 := List.length_dropLast
        refine hN (row.length - 1) _ _ (by omega) ⟨ms.dropLast, row.dropLast, _, _, rfl, same_at s8 nl0, (by rw [upd_same, List.map_dropLast]), ?_, by omega, ch.pop h2, (fun m hm => hm8 m (List.dropLast_subset _ hm)), by omega, (by rw [rAt_dl (by omega)]; exact hd1), dl.symm⟩
        have td : Tups H8 ms.dropLast (row.dropLast.map mkI) := by
          rw [List.map_dropLast]
          simp only [List.dropLast_eq_take, List.length_map, lm]
          exact tups_take t8 _
        exact Paired.mapP td fun _ _ z => up _ _ z
      · exact ⟨_, rfl, q l H8 ms row s0 s8 nl0 ⟨hl8, t8, hz, fun m hm => (hs.sp _ (hm8 m hm)).len⟩ hm8 (ch.legal hLie (by cases e : (rAt row (row.length - 1)).2 with | true => rfl | false => rw [e] at w; cases w))⟩
theorem ok_Due {f : Addr} {fd : FuncData} (F : Fun K "_law_due" "_law_due" sDue f fd) (T : Txt K mg) : FnOk P w K mg base CX0 1 f fd ["comes", "row"] (spDue K) := by
  have sc : FnScope ["comes", "row", "on", "laid", "spot", "k", "one", "two", "due", "pair"] ["comes", "row"] (defScope sDue) := ⟨rfl, rfl, rfl, by decide +kernel, rfl, by decide +kernel, by decide +kernel⟩
  refine F.ok sc (fun vs H Q E h => by repeat (first | (obtain ⟨rfl, _⟩ := h; rfl) | (obtain ⟨_, h⟩ := h))) (fun cdv A outer s H vs Q E hr h => ?_)
  obtain ⟨e, l, n, kvs, C, ms, row, s0, rfl, he, hC, ⟨hl, ht, hz, h3⟩, hsp, L, q⟩ := h
  refine ⟨_, (pss_cons (ps_set (i := 2) sc.nd rfl (Or.inl rfl) pe_dnewT)
  (pss_cons (ps_set (i := 3) sc.nd rfl (Or.inl rfl) pe_dnewP)
  (pss_cons (ps_frz (ps_for PassesOwn.never rfl (pi_keys (pv 0)) (pg_name (i := 4) sc.nd rfl (Or.inl rfl))
  (pss_cons (ps_dput (Room.one hr) (pv 2) (pv 4) pe_bl (by rfl))
  (pss_one (ps_if (pt_cmpR op_notN (pe_dget (Room.one hr) (pv 0) (pv 4) (fun _ _ => rfl)) pe_non (nomark _))
  (pss_one (ps_dputP (Room.two hr) (pv 3) (pe_tup (pa_cons (pe_dget (Room.one hr) (pv 0) (pv 4) (fun _ _ => rfl)) (pa_cons (pv 4) pa_nil))) pe_bl (by rfl)))
  pss_nil)))))
  (pss_cons (ps_for PassesOwn.never rfl (pi_range1 (by rfl) T.range_ (pa_cons (pe_op op_sub (pe_callB call_len (by rfl) T.len_ bt_len (pa_cons (pv 1) pa_nil)) pe_int) pa_nil)) (pg_name (i := 5) sc.nd rfl (Or.inl rfl))
  (pss_cons (ps_set (i := 6) sc.nd rfl (Or.inl rfl) (pe_slice sl_tup (pe_ix ix_list (pv 1) (pv 5) (fun _ _ => rfl)) po_none (po_some pe_int)))
  (pss_cons (ps_set (i := 7) sc.nd rfl (Or.inl rfl) (pe_slice sl_tup (pe_ix ix_list (pv 1) (pe_op op_add (pv 5) pe_int) (fun _ _ => rfl)) po_none (po_some pe_int)))
  (pss_one (ps_if (pw_and (pt_cmpR op_eq (pe_ix ix_tup (pe_ix ix_list (pv 1) (pv 5) (fun _ _ => rfl)) pe_int (fun _ _ => rfl)) pe_int (nomark _)) (pw_and1 (pt_cmpR (op_eqD hr) (pv 6) (pv 7) (nomark _)))).pt
  (pss_one (ps_dput (Room.one hr) (pv 2) (pv 6) pe_bl (by rfl)))
  (pss_one (ps_if (pt_cmpR op_eq (pe_ix ix_tup (pe_ix ix_list (pv 1) (pv 5) (fun _ _ => rfl)) pe_int (fun _ _ => rfl)) pe_int (nomark _))
  (pss_one (ps_expr (pe_bmP PySem.F.plainAttrs_dict PySem.F.slot_dict_pop PySem.F.type_dict_pop (mt_popP hr) (pv 3) (pa_cons (pe_tup (pa_cons (pv 7) (pa_cons (pv 6) pa_nil))) pa_nil))))
  (pss_one (ps_if (pt_cmpR (op_eqD hr) (pv 6) (pv 7) (nomark _))
  (pss_one (ps_expr (pe_bm PySem.F.plainAttrs_dict PySem.F.slot_dict_pop PySem.F.type_dict_pop (mt_popT hr) (pv 2) (pa_cons (pv 6) pa_nil))))
  (pss_one (ps_dputP (Room.two hr) (pv 3) (pe_tup (pa_cons (pv 6) (pa_cons (pv 7) pa_nil))) pe_bl (by rfl))))))))))))
  (pss_cons (ps_set (i := 8) sc.nd rfl (Or.inl rfl) pe_dnewT)
  (pss_cons (ps_frz (ps_for PassesOwn.never rfl (pi_keys (pv 2)) (pg_name (i := 4) sc.nd rfl (Or.inl rfl))
  (pss_one (ps_dput (Room.one hr) (pv 8) (pv 4) pe_non (by rfl)))))
  (pss_cons (ps_frz (ps_for PassesOwn.never rfl (pi_keysP (pv 3)) (pg_name (i := 9) sc.nd rfl (Or.inl rfl))
  (pss_one (ps_dput (Room.one hr) (pv 8) (pe_ix ix_tup (pv 9) pe_int (fun _ _ => rfl)) (pe_ix ix_tup (pv 9) pe_int (fun _ _ => rfl)) (by rfl)))))
  (pss_one (ps_ret (pv 8)))))))))), ?_⟩
  have lm : ms.length = row.length := by have := Paired.length ht; rwa [List.length_map] at this
  have mAt : ∀ {H' : Hp}, Same H H' → ∀ i (hi : i < ms.length), H' ms[i] = some (.tup ((mkI (rAt row i)).map V.int)) ∧ (rAt row i).1.length = 3 ∧ SpotN n (rAt row i).1 := fun s i hi => by
    obtain ⟨c, ec, g⟩ := (ht.same s).at (i := i) (a := ms[i]) (by simp [hi])
    rw [List.getElem?_map, List.getElem?_eq_getElem (by omega : i < row.length)] at ec
    have er : rAt row i = row[i]'(by omega) := by unfold rAt; rw [List.getD_eq_getElem?_getD, List.getElem?_eq_getElem (by omega : i < row.length)]; rfl
    rw [er]
    have : mkI (row[i]'(by omega)) = c := Option.some.inj ec
    rw [this]
    exact ⟨g, h3 _ (List.getElem_mem _), hsp _ (List.getElem_mem _)⟩
  have p0 : 0 < row.length := L.pos
  have dep : ∀ y : T3, (PyData.tuple (y.map PyData.int)).depth ≤ 60 := fun y => Nat.le_trans (depth_tints _) (by decide)
  refine sq_asg fun on non => ?_
  have s1 : Same H (upd H on (.dT [])) := (Same.refl H).upd non
  have e1 : upd H on (.dT []) on = some (.dT []) := upd_same
  revert s1 e1
  generalize upd H on (.dT []) = H1
  intro s1 e1
  refine sq_asg fun ld nld => ?_
  have s2 : Same H (upd H1 ld (dP ld [])) := s1.upd nld
  have ol : on ≠ ld := ne_of_none e1 nld
  have e2 : upd H1 ld (dP ld []) on = some (.dT []) := by rw [upd_ne ol]; exact e1
  have e3 : upd H1 ld (dP ld []) ld = some (dP ld []) := upd_same
  have hld : H ld = none := s1.free nld
  revert s2 e2 e3
  generalize upd H1 ld (dP ld []) = H2
  intro s2 e2 e3
  have eon : e ≠ on := ne_of_none he non
  have eld : e ≠ ld := ne_of_none he hld
  refine ⟨e, .dT kvs, s2 _ _ he, trivial, fun o => ?_⟩
  have ef : upd H e (.frz o (.dT kvs)) e = some (.frz o (.dT kvs)) := upd_same
  have fon : upd H e (.frz o (.dT kvs)) on = none := by rw [upd_ne eon.symm]; exact non
  have fld : upd H e (.frz o (.dT kvs)) ld = none := by rw [upd_ne eld.symm]; exact hld
  have fC : CmAt (upd H e (.frz o (.dT kvs))) n kvs C := hC.tups fun b ys eb => by rw [upd_ne (ne_of eb he (by intro z; cases z))]; exact eb
  have back : ∀ {H2 : Hp}, Same (upd H e (.frz o (.dT kvs))) H2 → Same H (upd H2 e (.dT kvs)) := fun s b u eb => by
    by_cases hb : b = e
    · subst hb; rw [he] at eb; cases eb; exact upd_same
    · rw [upd_ne hb]; exact s _ _ (by rw [upd_ne hb]; exact eb)
  have sF : Same (upd H e (.frz o (.dT kvs))) (upd H2 e (.frz o (.dT kvs))) := fun b u eb => by
    by_cases hb : b = e
    · subst hb; rw [upd_same] at eb ⊢; exact eb
    · rw [upd_ne hb] at eb ⊢; exact s2 _ _ eb
  have e4 : upd H2 e (.frz o (.dT kvs)) on = some (.dT []) := by rw [upd_ne eon.symm]; exact e2
  have e5 : upd H2 e (.frz o (.dT kvs)) ld = some (dP ld []) := by rw [upd_ne eld.symm]; exact e3
  revert ef fon fld fC back sF e4 e5
  generalize upd H e (.frz o (.dT kvs)) = HF
  generalize upd H2 e (.frz o (.dT kvs)) = H3
  intro ef fon fld fC back sF e4 e5
  refine ⟨_, rfl, e, o, .dT kvs, rfl, sF _ _ ef, trivial, for_keys (u := .dT kvs) (fun i σ H' => ∃ (kvo : List (List Key × V)) (xs : List PKey) (x4 : Option V), σ = [some (.ref e), some (.ref l), some (.ref on), some (.ref ld), x4, none, none, none, none, none] ∧ Same HF H' ∧ H' on = some (.dT kvo) ∧ OnAt n kvo (fun x => iK x ∈ (kvs.take i).map (·.1)) ∧ H' ld = some (dP ld xs) ∧ LdAt H' n xs (fun y x => iK x ∈ (kvs.take i).map (·.1) ∧ C x = some (some y)))
    ⟨[], [], none, rfl, sF, e4, ⟨.nil, (fun _ h => nomatch h), fun x => ⟨(fun h => nomatch h), fun h => nomatch h⟩⟩, e5, ⟨⟨by decide, .nil, fun _ h => nomatch h⟩, (fun y x => ⟨(fun h => nomatch h), fun h => nomatch h.1⟩), fun _ h => nomatch h⟩⟩ (fun i σ H' _ ⟨_, _, _, _, s, _⟩ => s _ _ ef) ?_ ?_⟩
  · rintro i x v σ H5 hka hi ⟨kvo, xs, x4, rfl, s5, eo, on5, el, ld5⟩
    obtain ⟨kk, b, hk1, rfl, hb⟩ := hka
    obtain ⟨x, ek, sx⟩ := hC.sp (kk, v) (List.mem_of_getElem? hk1)
    dsimp only at ek
    subst ek
    have hv : valV kvs (iK x) = some v := valV_mem hC.nd (p := (iK x, v)) (List.mem_of_getElem? hk1)
    refine gn ?_
    refine sq_dput ev_c (ev_var rfl) (ev_var rfl) (DPut.t eo hb (small1000 (by have := keys13 on5.nd on5.sp; omega))) ?_
    have tk : ∀ b ys, H5 b = some (.tup ys) → upd H5 on (.dT (putK kvo (iK x) (.bl true))) b = some (.tup ys) := fun b ys eb => by rw [upd_ne (ne_of eb eo (by intro z; cases z))]; exact eb
    have s6 : Same HF (upd H5 on (.dT (putK kvo (iK x) (.bl true)))) := same_at s5 fon
    have eo6 : upd H5 on (.dT (putK kvo (iK x) (.bl true))) on = some (.dT (putK kvo (iK x) (.bl true))) := upd_same
    have el6 : upd H5 on (.dT (putK kvo (iK x) (.bl true))) ld = some (dP ld xs) := by rw [upd_ne ol.symm]; exact el
    have on6 := on5.put sx (.bl true) (take_key hk1)
    have ld6 := ld5.tups tk
    have hb6 := tk _ _ hb
    revert s6 eo6 el6 ld6 hb6 tk
    generalize upd H5 on (.dT (putK kvo (iK x) (.bl true))) = H6
    intro tk s6 eo6 el6 ld6 hb6
    have g : DGet H6 e (.ref b) (some v) := .inr ⟨kvs, iK x, b, .inr ⟨o, s6 _ _ ef⟩, rfl, hb6, hv.symm⟩
    have nol : ∀ {y : T3}, C x ≠ some (some y) → LdAt H6 n xs (fun y x => iK x ∈ (kvs.take (i + 1)).map (·.1) ∧ C x = some (some y)) → True := fun _ _ => trivial
    cases hc : C x with
    | none => rw [hC.no x hc] at hv; cases hv
    | some oy =>
      cases oy with
      | none =>
        rw [hC.fi x hc] at hv
        cases hv
        refine rd_ifF (et_test (ev_notN (ev_dget (ev_var rfl) (ev_var rfl) g) ev_c)) rfl ?_
        refine ⟨_, xs, _, rfl, s6, eo6, on6, el6, ld6.pk, fun y z => ?_, ld6.sp⟩
        rw [ld6.is]
        refine ⟨fun ⟨a1, a2⟩ => ⟨(take_key hk1 z).mpr (.inl a1), a2⟩, fun ⟨a1, a2⟩ => ⟨((take_key hk1 z).mp a1).elim id fun w => ?_, a2⟩⟩
        rw [w, hc] at a2
        cases a2
      | some y =>
        obtain ⟨c, h1, h2⟩ := fC.ye x y hc
        rw [h1] at hv
        cases hv
        refine rd_ifT (et_test (ev_notN (ev_dget (ev_var rfl) (ev_var rfl) g) ev_c)) rfl ?_
        refine ev_c _ (ev_var rfl _ (te_tup (ea_cons (ev_dget (ev_var rfl) (ev_var rfl) g) (ea_cons (ev_var rfl) ea_nil)) (by show 2 ≤ sizeLine; decide) fun p np => ?_))
        have s7 : Same H6 (upd H6 p (.tup [.ref c, .ref b])) := (Same.refl H6).upd np
        have e7 : upd H6 p (.tup [.ref c, .ref b]) p = some (.tup [.ref c, .ref b]) := upd_same
        revert s7 e7
        generalize upd H6 p (.tup [.ref c, .ref b]) = H7
        intro s7 e7
        have pkb : PkAt H7 (y, x) p := ⟨c, b, e7, s7 _ _ (s6 _ _ h2), iK_back (s7 _ _ hb6)⟩
        have ld7 := ld6.tups fun b ys eb => s7 b _ eb
        refine ⟨ld, p, (y, x), xs, rfl, rfl, rfl, s7 _ _ el6, ld7.pk, pkb, ?_⟩
        have tk2 : ∀ b ys, H7 b = some (.tup ys) → upd H7 ld (dP ld (addP xs (y, x) p)) b = some (.tup ys) := fun b ys eb => by rw [upd_ne (ne_of eb (s7 _ _ el6) (by intro z; cases z))]; exact eb
        refine ⟨_, _, _, rfl, same_at (s6.trans s7) fld, (by rw [upd_ne ol]; exact s7 _ _ eo6), on6, upd_same, (ld7.add pkb (hC.vl x y hc) sx ?_).tups tk2⟩
        intro u z
        constructor
        · rintro ⟨a1, a2⟩
          rcases (take_key hk1 z).mp a1 with w | w
          · exact .inl ⟨w, a2⟩
          · rw [w, hc] at a2
            cases a2
            exact .inr ⟨rfl, w⟩
        · rintro (⟨a1, a2⟩ | ⟨rfl, rfl⟩)
          · exact ⟨(take_key hk1 z).mpr (.inl a1), a2⟩
          · exact ⟨(take_key hk1 _).mpr (.inr rfl), hc⟩
  · rintro σ H5 ⟨kvo, xs, x4, rfl, s5, eo, on5, el, ld5⟩
    have ef5 := s5 _ _ ef
    refine ⟨ef5, ?_⟩
    have sB : Same H (upd H5 e (.dT kvs)) := back s5
    have eoB : upd H5 e (.dT kvs) on = some (.dT kvo) := by rw [upd_ne eon.symm]; exact eo
    have elB : upd H5 e (.dT kvs) ld = some (dP ld xs) := by rw [upd_ne eld.symm]; exact el
    have ldB := ld5.tups (H' := upd H5 e (.dT kvs)) fun b ys eb => by rw [upd_ne (ne_of eb ef5 (by intro z; cases z))]; exact eb
    revert sB eoB elB ldB
    generalize upd H5 e (.dT kvs) = HB
    intro sB eoB elB ldB
    rw [show szU (.dT kvs) = kvs.length from rfl, List.take_length] at on5 ldB
    have on0 : OnAt n kvo (On C (rAt row) 0) := ⟨on5.nd, on5.sp, fun x => (on5.is x).trans (hC.key x)⟩
    have ld0 : LdAt HB n xs (Ld C (rAt row) 0) := ⟨ldB.pk, (fun y x => (ldB.is y x).trans ⟨fun w => w.2, fun w => ⟨(hC.key x).mpr (by rw [show C x = some (some y) from w]; rfl), w⟩⟩), ldB.sp⟩
    dsimp only
    have hlB := sB _ _ hl
    refine sq_rng1 (ea_cons (ev_I0 (ev_cb (ea_cons (ev_var rfl) ea_nil) fun Q' q' => ⟨_, _, rfl, by first | exact .inl ⟨_, by assumption, rfl⟩ | exact .inl ⟨_, SqL.of (by assumption), rfl⟩ | exact .inr ⟨_, by assumption, rfl⟩ | exact .inr ⟨_, SqT.of (by assumption), rfl⟩, q'⟩) ev_c) ea_nil) ?_ ?_ (for_range (fun i σ H' => ∃ (kvo : List (List Key × V)) (xs : List PKey) (x4 x5 x6 x7 : Option V), σ = [some (.ref e), some (.ref l), some (.ref on), some (.ref ld), x4, x5, x6, x7, none, none] ∧ Same H H' ∧ H' on = some (.dT kvo) ∧ OnAt n kvo (On C (rAt row) i) ∧ H' ld = some (dP ld xs) ∧ LdAt H' n xs (Ld C (rAt row) i))
      ⟨kvo, xs, _, _, _, _, rfl, sB, eoB, on0, elB, ld0⟩ ?_ ?_)
    · rw [List.length_map, lm]; omega
    · rw [List.length_map, lm]; omega
    · rintro i σ H6 hi ⟨kvo, xs, x4, x5, x6, x7, rfl, s6, eo, onI, el, ldI⟩
      have hi : i + 1 < ms.length := by rw [List.length_map] at hi; omega
      have hi' : i + 1 < row.length := by omega
      rw [Int.zero_add]
      refine gn ?_
      have hl6 := s6 _ _ hl
      obtain ⟨m1, l1, sp1⟩ := mAt s6 i (by omega)
      obtain ⟨m2, l2, sp2⟩ := mAt s6 (i + 1) hi
      refine sq_cut (m := rAt row i) (ev_ixL (v := .ref ms[i]) (ev_var rfl) (ev_var rfl) (SqL.of hl6) (atI_nat (by simp [show i < ms.length by omega]))) ev_c l1 m1 fun a na => ?_
      have s7 : Same H6 (upd H6 a (.tup ((rAt row i).1.map V.int))) := (Same.refl H6).upd na
      have e7 : upd H6 a (.tup ((rAt row i).1.map V.int)) a = some (.tup ((rAt row i).1.map V.int)) := upd_same
      revert s7 e7
      generalize upd H6 a (.tup ((rAt row i).1.map V.int)) = H7
      intro s7 e7
      have hl7 := s7 _ _ hl6
      refine sq_cut (m := rAt row (i + 1)) (ev_ixL (v := .ref ms[i + 1]) (i := ((i + 1 : Nat) : Int)) (ev_var rfl) (ev_of (ev_I0 (ev_var rfl) ev_c) rfl) (SqL.of hl7) (atI_nat (by simp [hi]))) ev_c l2 (s7 _ _ m2) fun b nb => ?_
      have s8 : Same H7 (upd H7 b (.tup ((rAt row (i + 1)).1.map V.int))) := (Same.refl H7).upd nb
      have e8 : upd H7 b (.tup ((rAt row (i + 1)).1.map V.int)) b = some (.tup ((rAt row (i + 1)).1.map V.int)) := upd_same
      revert s8 e8
      generalize upd H7 b (.tup ((rAt row (i + 1)).1.map V.int)) = H8
      intro s8 e8
      have s8' := (s6.trans s7).trans s8
      have hl8 := s8' _ _ hl
      have a8 := s8 _ _ e7
      have m8 := s8 _ _ (s7 _ _ m1)
      have eo8 := s8 _ _ (s7 _ _ eo)
      have el8 := s8 _ _ (s7 _ _ el)
      have ld8 := ldI.tups fun b ys eb => s8 _ _ (s7 b _ eb)
      have tO : ∀ (kv : List (List Key × V)) b ys, H8 b = some (.tup ys) → upd H8 on (.dT kv) b = some (.tup ys) := fun kv b ys eb => by rw [upd_ne (ne_of eb eo8 (by intro z; cases z))]; exact eb
      have hk8 : kvo.length < sizeLine := small1000 (by have := keys13 onI.nd onI.sp; omega)
      have ga : EvT (tTest (tOp rEq (tOp (rIxT K) (tOp (rIxL K) (tVar 1) (tVar 5)) (tC (.int 3))) (tC (.int 0)))) [some (.ref e), some (.ref l), some (.ref on), some (.ref ld), x4, some (.int i), some (.ref a), some (.ref b), none, none] H8 (!(rAt row i).2) :=
        et_of (et_test (ev_eqI (mk_ix (m := rAt row i) (ev_ixL (v := .ref ms[i]) (ev_var rfl) (ev_var rfl) (SqL.of hl8) (atI_nat (by simp [show i < ms.length by omega]))) ev_c l1 m8) ev_c)) (by cases (rAt row i).2 <;> rfl)
      have gb : EvT (tTest (tOp (rEqD K) (tVar 6) (tVar 7))) [some (.ref e), some (.ref l), some (.ref on), some (.ref ld), x4, some (.int i), some (.ref a), some (.ref b), none, none] H8 (decide ((rAt row i).1 = (rAt row (i + 1)).1)) :=
        et_of (et_test (ev_eqD (ev_var rfl) (ev_var rfl) (Dp.ints (SqT.of a8)) (Dp.ints (SqT.of e8)) (dep _))) (eqv_tints _ _)
      have eOn : ∀ x, On C (rAt row) (i + 1) x ↔ if (rAt row i).1 = (rAt row (i + 1)).1 then (if (rAt row i).2 = true then On C (rAt row) i x ∧ x ≠ (rAt row i).1 else On C (rAt row) i x ∨ x = (rAt row i).1) else On C (rAt row) i x := fun x => Iff.rfl
      have eLd : ∀ y x, Ld C (rAt row) (i + 1) y x ↔ if (rAt row i).1 = (rAt row (i + 1)).1 then Ld C (rAt row) i y x else if (rAt row i).2 = true then Ld C (rAt row) i y x ∨ (y = (rAt row i).1 ∧ x = (rAt row (i + 1)).1) else Ld C (rAt row) i y x ∧ ¬ (y = (rAt row (i + 1)).1 ∧ x = (rAt row i).1) := fun y x => Iff.rfl
      by_cases hq : (rAt row i).1 = (rAt row (i + 1)).1
      · rw [decide_eq_true hq] at gb
        simp only [if_pos hq] at eOn eLd
        have ld9 : LdAt H8 n xs (Ld C (rAt row) (i + 1)) := ⟨ld8.pk, (fun y x => (ld8.is y x).trans (eLd y x).symm), ld8.sp⟩
        cases hd : (rAt row i).2 with
        | false =>
          rw [hd] at ga eOn
          simp only [Bool.false_eq_true, if_false] at eOn
          refine rd_ifT (et_and ga fun _ => gb) rfl ?_
          refine rd_dput ev_c (ev_var rfl) (ev_var rfl) (DPut.t eo8 (iK_at a8) hk8) ?_
          exact ⟨_, xs, _, _, _, _, rfl, same_at s8' non, upd_same, onI.put sp1 _ eOn, (by rw [upd_ne ol.symm]; exact el8), ld9.tups (tO _)⟩
        | true =>
          rw [hd] at ga eOn
          simp only [if_true] at eOn
          refine rd_ifF (et_and ga fun _ => gb) rfl ?_
          refine rd_ifF ga rfl ?_
          refine rd_ifT gb rfl ?_
          obtain ⟨_, po⟩ := pop_own L hi' hd hq
          obtain ⟨v, hv⟩ := Option.isSome_iff_exists.mp ((onI.is _).mpr po)
          refine ⟨_, rfl, .inr (.inr (.inl ⟨rfl, .inr ⟨_, eo8⟩⟩)), _, rfl, on, a, kvo, iK (rAt row i).1, v, rfl, rfl, eo8, iK_at a8, hv, ?_⟩
          exact ⟨_, xs, _, _, _, _, rfl, same_at s8' non, upd_same, onI.del _ eOn, (by rw [upd_ne ol.symm]; exact el8), ld9.tups (tO _)⟩
      · rw [decide_eq_false hq] at gb
        simp only [if_neg hq] at eOn eLd
        have on9 : OnAt n kvo (On C (rAt row) (i + 1)) := ⟨onI.nd, onI.sp, fun x => (onI.is x).trans (eOn x).symm⟩
        cases hd : (rAt row i).2 with
        | false =>
          rw [hd] at ga eLd
          simp only [Bool.false_eq_true, if_false] at eLd
          refine rd_ifF (et_and ga fun _ => gb) rfl ?_
          refine rd_ifT ga rfl ?_
          refine ⟨_, rfl, ⟨ld, xs, rfl, el8⟩, te_tup (ea_cons (ev_var rfl) (ea_cons (ev_var rfl) ea_nil)) (by show 2 ≤ sizeLine; decide) fun p np => ?_⟩
          have s9 : Same H8 (upd H8 p (.tup [.ref b, .ref a])) := (Same.refl H8).upd np
          have e9 : upd H8 p (.tup [.ref b, .ref a]) p = some (.tup [.ref b, .ref a]) := upd_same
          revert s9 e9
          generalize upd H8 p (.tup [.ref b, .ref a]) = H9
          intro s9 e9
          have ld9 := ld8.tups fun b ys eb => s9 b _ eb
          have pkb : PkAt H9 ((rAt row (i + 1)).1, (rAt row i).1) p := ⟨b, a, e9, s9 _ _ e8, s9 _ _ a8⟩
          refine ⟨ld, p, ((rAt row (i + 1)).1, (rAt row i).1), xs, rfl, rfl, s9 _ _ el8, ld9.pk, pkb, (ld9.is _ _).mpr (pop_laid L hi' hd hq), ?_⟩
          have tk2 : ∀ b ys, H9 b = some (.tup ys) → upd H9 ld (dP ld (delP xs ((rAt row (i + 1)).1, (rAt row i).1))) b = some (.tup ys) := fun b ys eb => by rw [upd_ne (ne_of eb (s9 _ _ el8) (by intro z; cases z))]; exact eb
          exact ⟨kvo, _, _, _, _, _, rfl, same_at (s8'.trans s9) hld, (by rw [upd_ne ol]; exact s9 _ _ eo8), on9, upd_same, (ld9.del _ _ eLd).tups tk2⟩
        | true =>
          rw [hd] at ga eLd
          simp only [if_true] at eLd
          refine rd_ifF (et_and ga fun _ => gb) rfl ?_
          refine rd_ifF ga rfl ?_
          refine rd_ifF gb rfl ?_
          refine ev_c _ (ev_var rfl _ (te_tup (ea_cons (ev_var rfl) (ea_cons (ev_var rfl) ea_nil)) (by show 2 ≤ sizeLine; decide) fun p np => ?_))
          have s9 : Same H8 (upd H8 p (.tup [.ref a, .ref b])) := (Same.refl H8).upd np
          have e9 : upd H8 p (.tup [.ref a, .ref b]) p = some (.tup [.ref a, .ref b]) := upd_same
          revert s9 e9
          generalize upd H8 p (.tup [.ref a, .ref b]) = H9
          intro s9 e9
          have ld9 := ld8.tups fun b ys eb => s9 b _ eb
          have pkb : PkAt H9 ((rAt row i).1, (rAt row (i + 1)).1) p := ⟨a, b, e9, s9 _ _ a8, s9 _ _ e8⟩
          refine ⟨ld, p, ((rAt row i).1, (rAt row (i + 1)).1), xs, rfl, rfl, rfl, s9 _ _ el8, ld9.pk, pkb, ?_⟩
          have tk2 : ∀ b ys, H9 b = some (.tup ys) → upd H9 ld (dP ld (addP xs ((rAt row i).1, (rAt row (i + 1)).1) p)) b = some (.tup ys) := fun b ys eb => by rw [upd_ne (ne_of eb (s9 _ _ el8) (by intro z; cases z))]; exact eb
          exact ⟨kvo, _, _, _, _, _, rfl, same_at (s8'.trans s9) hld, (by rw [upd_ne ol]; exact s9 _ _ eo8), on9, upd_same, (ld9.add pkb sp1 sp2 eLd).tups tk2⟩
    · rintro σ H6 ⟨kvo, xs, x4, x5, x6, x7, rfl, s6, eo, onE, el, ldE⟩
      rw [List.length_map, lm, show ((row.length : Nat) - 1 : Int).toNat = row.length - 1 by omega] at onE ldE
      dsimp only
      refine sq_asg fun du ndu => ?_
      have s7 : Same H6 (upd H6 du (.dT [])) := (Same.refl H6).upd ndu
      have e7 : upd H6 du (.dT []) du = some (.dT []) := upd_same
      revert s7 e7
      generalize upd H6 du (.dT []) = H7
      intro s7 e7
      have hdu : H du = none := s6.free ndu
      have dun : du ≠ on := fun z => by rw [z, eo] at ndu; cases ndu
      have dul : du ≠ ld := fun z => by rw [z, el] at ndu; cases ndu
      have eo7 := s7 _ _ eo
      refine ⟨on, .dT kvo, eo7, trivial, fun o2 => ?_⟩
      have ef : upd H6 on (.frz o2 (.dT kvo)) on = some (.frz o2 (.dT kvo)) := upd_same
      have fdu : upd H6 on (.frz o2 (.dT kvo)) du = none := by rw [upd_ne dun]; exact ndu
      have back : ∀ {H2 : Hp}, Same (upd H6 on (.frz o2 (.dT kvo))) H2 → Same H6 (upd H2 on (.dT kvo)) := fun s b u eb => by
        by_cases hb : b = on
        · subst hb; rw [eo] at eb; cases eb; exact upd_same
        · rw [upd_ne hb]; exact s _ _ (by rw [upd_ne hb]; exact eb)
      have sF : Same (upd H6 on (.frz o2 (.dT kvo))) (upd H7 on (.frz o2 (.dT kvo))) := fun b u eb => by
        by_cases hb : b = on
        · subst hb; rw [upd_same] at eb ⊢; exact eb
        · rw [upd_ne hb] at eb ⊢; exact s7 _ _ eb
      have e8 : upd H7 on (.frz o2 (.dT kvo)) du = some (.dT []) := by rw [upd_ne dun]; exact e7
      revert ef fdu back sF e8
      generalize upd H6 on (.frz o2 (.dT kvo)) = HG
      generalize upd H7 on (.frz o2 (.dT kvo)) = H8
      intro ef fdu back sF e8
      refine ⟨_, rfl, on, o2, .dT kvo, rfl, sF _ _ ef, trivial, for_keys (u := .dT kvo) (fun i σ H' => ∃ (kvd : List (List Key × V)) (x4 : Option V), σ = [some (.ref e), some (.ref l), some (.ref on), some (.ref ld), x4, x5, x6, x7, some (.ref du), none] ∧ Same HG H' ∧ H' du = some (.dT kvd) ∧ CmAt H' n kvd (keyF (kvo.take i)))
        ⟨[], _, rfl, sF, e8, cm_nil.congr fun x => (keyF_neg (by simp)).symm⟩ (fun i σ H' _ ⟨_, _, _, s, _⟩ => s _ _ ef) ?_ ?_⟩
      · rintro i x v σ H9 hka hi ⟨kvd, x4, rfl, s9, ed9, c9⟩
        obtain ⟨kk, b, hk1, rfl, hb⟩ := hka
        obtain ⟨x, ek, sx⟩ := onE.sp (kk, v) (List.mem_of_getElem? hk1)
        dsimp only at ek
        subst ek
        refine gn ?_
        refine rd_dput ev_c (ev_var rfl) (ev_var rfl) (DPut.t ed9 hb (small1000 (by have := c9.len; omega))) ?_
        refine ⟨_, _, rfl, same_at s9 fdu, upd_same, ((c9.put sx (.inl ⟨rfl, rfl⟩)).congr fun z => ?_).tups fun b ys eb => by rw [upd_ne (ne_of eb ed9 (by intro z; cases z))]; exact eb⟩
        have tkk := take_key hk1 z
        by_cases w : z = x
        · rw [if_pos w, keyF_pos (tkk.mpr (.inr w))]
        · rw [if_neg w]
          by_cases w2 : iK z ∈ (kvo.take i).map (·.1)
          · rw [keyF_pos w2, keyF_pos (tkk.mpr (.inl w2))]
          · rw [keyF_neg w2, keyF_neg (fun w3 => (tkk.mp w3).elim w2 w)]
      · rintro σ H9 ⟨kvd, x4, rfl, s9, ed9, c9⟩
        rw [show szU (.dT kvo) = kvo.length from rfl, List.take_length] at c9
        have ef9 := s9 _ _ ef
        refine ⟨ef9, ?_⟩
        have sB : Same H6 (upd H9 on (.dT kvo)) := back s9
        have edB : upd H9 on (.dT kvo) du = some (.dT kvd) := by rw [upd_ne dun]; exact ed9
        have cB := c9.tups (H' := upd H9 on (.dT kvo)) fun b ys eb => by rw [upd_ne (ne_of eb ef9 (by intro z; cases z))]; exact eb
        revert sB edB cB
        generalize upd H9 on (.dT kvo) = HB
        intro sB edB cB
        dsimp only
        refine ⟨ld, dP ld xs, sB _ _ el, trivial, fun o3 => ?_⟩
        have ef3 : upd H6 ld (.frz o3 (dP ld xs)) ld = some (.frz o3 (dP ld xs)) := upd_same
        have fdu3 : upd H6 ld (.frz o3 (dP ld xs)) du = none := by rw [upd_ne dul]; exact ndu
        have back3 : ∀ {H2 : Hp}, Same (upd H6 ld (.frz o3 (dP ld xs))) H2 → Same H6 (upd H2 ld (dP ld xs)) := fun s b u eb => by
          by_cases hb : b = ld
          · subst hb; rw [el] at eb; cases eb; exact upd_same
          · rw [upd_ne hb]; exact s _ _ (by rw [upd_ne hb]; exact eb)
        have sF3 : Same (upd H6 ld (.frz o3 (dP ld xs))) (upd HB ld (.frz o3 (dP ld xs))) := fun b u eb => by
          by_cases hb : b = ld
          · subst hb; rw [upd_same] at eb ⊢; exact eb
          · rw [upd_ne hb] at eb ⊢; exact sB _ _ eb
        have ed3 : upd HB ld (.frz o3 (dP ld xs)) du = some (.dT kvd) := by rw [upd_ne dul]; exact edB
        have c3 := cB.tups (H' := upd HB ld (.frz o3 (dP ld xs))) fun b ys eb => by rw [upd_ne (ne_of eb (sB _ _ el) (by intro z; cases z))]; exact eb
        have ld3 := ldE.tups (H' := upd H6 ld (.frz o3 (dP ld xs))) fun b ys eb => by rw [upd_ne (ne_of eb el (by intro z; cases z))]; exact eb
        revert ef3 fdu3 back3 sF3 ed3 c3 ld3
        generalize upd H6 ld (.frz o3 (dP ld xs)) = HG3
        generalize upd HB ld (.frz o3 (dP ld xs)) = H10
        intro ef3 fdu3 back3 sF3 ed3 c3 ld3
        refine ⟨_, rfl, ld, o3, xs, rfl, sF3 _ _ ef3, for_keysP (fun i σ H' => ∃ (kvd : List (List Key × V)) (x9 : Option V), σ = [some (.ref e), some (.ref l), some (.ref on), some (.ref ld), x4, x5, x6, x7, some (.ref du), x9] ∧ Same HG3 H' ∧ H' du = some (.dT kvd) ∧ CmAt H' n kvd ((xs.take i).foldl layF (keyF kvo)))
          ⟨kvd, _, rfl, sF3, ed3, c3⟩ (fun i σ H' _ ⟨_, _, _, s, _⟩ => s _ _ ef3) ?_ ?_⟩
        · rintro i p σ H11 hp hi ⟨kvd, x9, rfl, s11, ed11, c11⟩
          have pm := List.mem_of_getElem? hp
          obtain ⟨c, d, g1, g2, g3⟩ := ld3.pk.2.2 p pm
          obtain ⟨sy, sx⟩ := ld3.sp p pm
          have g1 := s11 _ _ g1
          have g2 := s11 _ _ g2
          have g3 := s11 _ _ g3
          refine gn ?_
          refine rd_dput (ev_ixT (v := .ref c) (ev_var rfl) ev_c (SqT.of g1) rfl) (ev_var rfl) (ev_ixT (v := .ref d) (ev_var rfl) ev_c (SqT.of g1) rfl) (DPut.t ed11 (iK_at g3) (small1000 (by have := c11.len; omega))) ?_
          refine ⟨_, _, rfl, same_at s11 fdu3, upd_same, ((c11.put sx (.inr ⟨p.1.1, c, rfl, rfl, sy, g2⟩)).congr fun z => ?_).tups fun b ys eb => by rw [upd_ne (ne_of eb ed11 (by intro z; cases z))]; exact eb⟩
          rw [show xs.take (i + 1) = xs.take i ++ [p] by rw [List.take_succ, hp]; rfl, List.foldl_append]
          rfl
        · rintro σ H11 ⟨kvd, x9, rfl, s11, ed11, c11⟩
          rw [List.take_length] at c11
          have ef11 := s11 _ _ ef3
          refine ⟨ef11, _, rfl, q du _ kvd (s6.trans (back3 s11)) hdu (by rw [upd_ne dul]; exact ed11) ?_⟩
          refine CmAt.congr (c11.tups fun b ys eb => by rw [upd_ne (ne_of eb ef11 (by intro z; cases z))]; exact eb) fun x => ?_
          have key : iK x ∈ kvo.map (·.1) ↔ On C (rAt row) (row.length - 1) x := valV_key.symm.trans (onE.is x)
          rcases layF_all xs (keyF kvo) x with ⟨h1, h2⟩ | ⟨p, hp, ep, h1⟩
          · rw [h1]
            have nl : ∀ y, ¬ Ld C (rAt row) (row.length - 1) y x := fun y w => by
              obtain ⟨p, hp, ep⟩ := List.mem_map.mp ((ldE.is y x).mpr w)
              exact h2 p hp (by rw [ep])
            rcases final_due L x with ⟨a1, a2, _⟩ | ⟨a1, a2, _⟩ | ⟨y, a1, a2⟩
            · rw [a1]; exact keyF_neg fun w => a2 (key.mp w)
            · rw [a1]; exact keyF_pos (key.mpr a2)
            · exact (nl y ((a2 y).mpr rfl)).elim
          · rw [h1]
            have yl : Ld C (rAt row) (row.length - 1) p.1.1 x := (ldE.is _ _).mp (List.mem_map.mpr ⟨p, hp, by rw [← ep]⟩)
            rcases final_due L x with ⟨_, _, a3⟩ | ⟨_, _, a3⟩ | ⟨y, a1, a2⟩
            · exact (a3 _ yl).elim
            · exact (a3 _ yl).elim
            · rw [a1, (a2 _).mp yl]
theorem ok_First {f : Addr} {fd : FuncData} (F : Fun K "_law_firsts" "_law_firsts" sFirst f fd) (T : Txt K mg) : FnOk P w K mg base CX0 1 f fd ["comes"] (spFirst K) := by
  have sc : FnScope ["comes"] ["comes"] (defScope sFirst) := ⟨rfl, rfl, rfl, by decide +kernel, rfl, by decide +kernel, by decide +kernel⟩
  refine F.ok sc (fun vs H Q E h => by repeat (first | (obtain ⟨rfl, _⟩ := h; rfl) | (obtain ⟨_, h⟩ := h))) (fun cdv A outer s H vs Q E hr h => ?_)
  obtain ⟨e, n, kvs, C, rfl, he, hC, hl, q⟩ := h
  refine ⟨_, (pss_one (ps_ret (pe_callB call_len (by rfl) T.len_ bt_len (pa_cons (pe_frz (pe_lc (ls := ["spot"]) (ys := ["comes"]) (ix := [0]) rfl ⟨rfl, by rfl, by rfl, by rfl, by rfl, rfl⟩ (pi_keys (pv 0)) (fun _ _ _ _ _ => (pg_name (i := 0) (show (["spot", "comes"] : List Str).Nodup by decide +kernel) rfl (Or.inl rfl))) (fun _ _ _ _ _ => (pf_one (pt_cmpR op_isN (pe_dget (by exact (Room.one hr)) (pv 1) (pv 0) (fun _ _ => rfl)) pe_non (nomark _)))) (fun _ _ _ _ _ => (pv 0)))) pa_nil)))), ?_⟩
  refine ⟨e, .dT kvs, he, trivial, fun o => ?_⟩
  have ef : upd H e (.frz o (.dT kvs)) e = some (.frz o (.dT kvs)) := upd_same
  have back : ∀ {H2 : Hp}, Same (upd H e (.frz o (.dT kvs))) H2 → Same H (upd H2 e (.dT kvs)) := fun s b u eb => by
    by_cases hb : b = e
    · subst hb; rw [he] at eb; cases eb; exact upd_same
    · rw [upd_ne hb]; exact s _ _ (by rw [upd_ne hb]; exact eb)
  revert ef back
  generalize upd H e (.frz o (.dT kvs)) = HF
  intro ef back
  refine ⟨_, rfl, e, o, .dT kvs, rfl, ef, trivial, fun D nD => ?_⟩
  have De : D ≠ e := fun z => by rw [z, ef] at nD; cases nD
  refine lc_keys (u := .dT kvs) (fun i τ H2 => ∃ (x0 : Option V) (rs : List V), τ = [x0, some (.ref e)] ∧ Same HF H2 ∧ H2 D = some (.lst rs) ∧ rs.length = ((kvs.take i).filter fun p => decide (p.2 = V.non)).length)
    ⟨none, [], rfl, (Same.refl HF).upd nD, upd_same, rfl⟩ (fun i τ H2 _ ⟨_, _, _, s, _⟩ => s _ _ ef) ?_ ?_
  · rintro i x v τ H2 hka hi ⟨x0, rs, rfl, s2, hD2, hrl⟩
    obtain ⟨kk, b, hk1, rfl, hb⟩ := hka
    have hv : valV kvs kk = some v := valV_mem hC.nd (p := (kk, v)) (List.mem_of_getElem? hk1)
    have g : DGet H2 e (.ref b) (some v) := .inr ⟨kvs, kk, b, .inr ⟨o, s2 _ _ ef⟩, rfl, hb, hv.symm⟩
    rw [show kvs.take (i + 1) = kvs.take i ++ [(kk, v)] by rw [List.take_succ, hk1]; rfl, List.filter_append, List.length_append]
    have rl : rs.length ≤ 1000 := by
      have h1 := List.length_filter_le (fun p : List Key × V => decide (p.2 = V.non)) (kvs.take i)
      have h2 := List.length_take_le i kvs
      have h3 : (kvs.take i).length ≤ kvs.length := by rw [List.length_take]; exact Nat.min_le_right _ _
      omega
    refine (et_test (ev_isN (ev_dget (ev_var rfl) (ev_var rfl) g) ev_c)) _ ?_
    by_cases ev : v = .non
    · rw [decide_eq_true ev]
      refine iteT ?_
      refine ⟨_, rfl, rs, hD2, small1000 rl, _, rs ++ [_], rfl, same_at s2 nD, upd_same, ?_⟩
      rw [List.length_append, hrl, List.filter_cons_of_pos (by simpa using ev)]
      rfl
    · rw [decide_eq_false ev]
      refine iteF ?_
      refine ⟨_, rs, rfl, s2, hD2, ?_⟩
      rw [hrl, List.filter_cons_of_neg (by simpa using ev)]
      rfl
  · rintro τ H2 ⟨x0, rs, rfl, s2, hD2, hrl⟩
    rw [show szU (.dT kvs) = kvs.length from rfl, List.take_length] at hrl
    refine ⟨s2 _ _ ef, _, rs.length, rfl, .inl ⟨_, SqL.of (by rw [upd_ne De]; exact hD2), rfl⟩, ?_⟩
    exact q _ (back s2) rs.length (fun xs nd hx => by rw [hrl]; exact firsts_len hC nd hx)
theorem ok_SpotOf {f : Addr} {fd : FuncData} (F : Fun K "spot_of_mark" "spot_of_mark" sSpotOf f fd) (T : Txt K mg) : FnOk P w K mg base CX0 1 f fd ["mark"] spSpotOf := by
  have sc : FnScope ["mark"] ["mark"] (defScope sSpotOf) := ⟨rfl, rfl, rfl, by decide +kernel, rfl, by decide +kernel, by decide +kernel⟩
  refine F.ok sc (fun vs H Q E h => by repeat (first | (obtain ⟨rfl, _⟩ := h; rfl) | (obtain ⟨_, h⟩ := h))) (fun cdv A outer s H vs Q E hr h => ?_)
  obtain ⟨b, m, rfl, hl, hb, q⟩ := h
  refine ⟨_, (pss_one (ps_ret (pe_slice sl_tup (pv 0) po_none (po_some pe_int)))), ?_⟩
  refine ⟨_, rfl, 3, rfl, b, _, rfl, SqT.of hb, ?_, fun p hp => ?_⟩
  · rw [List.length_map, mkI_len hl]
    decide
  · rw [mkI_cut hl]
    exact q p hp
theorem ok_Door {f : Addr} {fd : FuncData} (F : Fun K "is_door" "is_door" sDoor f fd) (T : Txt K mg) : FnOk P w K mg base CX0 1 f fd ["mark"] spDoor := by
  have sc : FnScope ["mark"] ["mark"] (defScope sDoor) := ⟨rfl, rfl, rfl, by decide +kernel, rfl, by decide +kernel, by decide +kernel⟩
  refine F.ok sc (fun vs H Q E h => by repeat (first | (obtain ⟨rfl, _⟩ := h; rfl) | (obtain ⟨_, h⟩ := h))) (fun cdv A outer s H vs Q E hr h => ?_)
  obtain ⟨b, ⟨x, d⟩, rfl, hl, hb, q⟩ := h
  refine ⟨_, (pss_one (ps_ret (pe_cmpR op_eq (pe_ix ix_tup (pv 0) pe_int (fun _ _ => rfl)) pe_int (nomark _)))), ?_⟩
  match x, hl, hb with
  | [i, j, k], _, hb =>
    cases d
    · exact rd_ret (ev_eqI (ev_ixT (v := .int 0) (ev_var rfl) ev_c (SqT.of hb) rfl) ev_c) q
    · exact rd_ret (ev_eqI (ev_ixT (v := .int 1) (ev_var rfl) ev_c (SqT.of hb) rfl) ev_c) q
theorem ok_Rr {f : Addr} {fd : FuncData} (F : Fun K "rerouted" "rerouted" sRr f fd) (T : Txt K mg) (gSpotOf : Callee P w K mg base "spot_of_mark" 1 ["mark"] spSpotOf) (gDoor : Callee P w K mg base "is_door" 1 ["mark"] spDoor) : FnOk P w K mg base CX0 2 f fd ["comes", "marks"] (spRr K) := by
  have sc : FnScope ["comes", "marks", "turned", "one", "two", "spot"] ["comes", "marks"] (defScope sRr) := ⟨rfl, rfl, rfl, by decide +kernel, rfl, by decide +kernel, by decide +kernel⟩
  refine F.ok sc (fun vs H Q E h => by repeat (first | (obtain ⟨rfl, _⟩ := h; rfl) | (obtain ⟨_, h⟩ := h))) (fun cdv A outer s H vs Q E hr h => ?_)
  obtain ⟨e, l, n, kvs, C, ms, row, s0, rfl, hn, he, hC, ⟨hl, ht, hz, h3⟩, hsp, L, q⟩ := h
  refine ⟨_, (pss_cons (ps_set (i := 2) sc.nd rfl (Or.inl rfl) (pe_callTy call_dict (by rfl) T.dict_ bt_dict (pa_cons (pv 0) pa_nil)))
  (pss_cons (ps_dput (Room.one hr) (pv 2) (pe_cal gSpotOf (hr.mono (by decide)) (by rfl) (pa_cons (pe_ix ix_list (pv 1) pe_int (fun _ _ => rfl)) pa_nil)) pe_non (by rfl))
  (pss_cons (ps_for PassesOwn.never rfl (pi_zipL (by rfl) T.zip_ (pa_cons (pv 1) (pa_cons (pe_slice sl_list (pv 1) (po_some pe_int) po_none) pa_nil))) (pg_tup rfl (pgs_cons (pg_name (i := 3) sc.nd rfl (Or.inl rfl)) (pgs_cons (pg_name (i := 4) sc.nd rfl (Or.inl rfl)) pgs_nil)))
  (pss_cons (ps_set (i := 5) sc.nd rfl (Or.inl rfl) (pe_cal gSpotOf (hr.mono (by decide)) (by rfl) (pa_cons (pv 4) pa_nil)))
  (pss_one (ps_if (pw_and (pt_val (pe_cal gDoor (hr.mono (by decide)) (by rfl) (pa_cons (pv 3) pa_nil))) (pw_and1 (pt_cmpR (op_eqD hr) (pv 5) (pe_cal gSpotOf (hr.mono (by decide)) (by rfl) (pa_cons (pv 3) pa_nil)) (nomark _)))).pt
  (pss_one (ps_expr (pe_bm PySem.F.plainAttrs_dict PySem.F.slot_dict_pop PySem.F.type_dict_pop (mt_popT hr) (pv 2) (pa_cons (pv 5) pa_nil))))
  (pss_one (ps_if (pt_val (pe_cal gDoor (hr.mono (by decide)) (by rfl) (pa_cons (pv 3) pa_nil)))
  (pss_one (ps_dput (Room.one hr) (pv 2) (pv 5) (pe_cal gSpotOf (hr.mono (by decide)) (by rfl) (pa_cons (pv 3) pa_nil)) (by rfl)))
  pss_nil))))))
  (pss_one (ps_ret (pv 2)))))), ?_⟩
  have lm : ms.length = row.length := by have := Paired.length ht; rwa [List.length_map] at this
  have mAt : ∀ {H' : Hp}, Same H H' → ∀ i (hi : i < ms.length), H' ms[i] = some (.tup ((mkI (rAt row i)).map V.int)) ∧ (rAt row i).1.length = 3 ∧ SpotN n (rAt row i).1 := fun s i hi => by
    obtain ⟨c, ec, g⟩ := (ht.same s).at (i := i) (a := ms[i]) (by simp [hi])
    rw [List.getElem?_map, List.getElem?_eq_getElem (by omega : i < row.length)] at ec
    have er : rAt row i = row[i]'(by omega) := by unfold rAt; rw [List.getD_eq_getElem?_getD, List.getElem?_eq_getElem (by omega : i < row.length)]; rfl
    rw [er]
    have : mkI (row[i]'(by omega)) = c := Option.some.inj ec
    rw [this]
    exact ⟨g, h3 _ (List.getElem_mem _), hsp _ (List.getElem_mem _)⟩
  have p0 : 0 < ms.length := by rw [lm]; exact L.pos
  refine sq_asg ⟨_, rfl, e, rfl, .inr ⟨kvs, .inl he, hC.hash hn, fun d nd => ?_⟩⟩
  have s1 : Same H (upd H d (.dT kvs)) := (Same.refl H).upd nd
  have ed : upd H d (.dT kvs) d = some (.dT kvs) := upd_same
  revert s1 ed
  generalize upd H d (.dT kvs) = H1
  intro s1 ed
  obtain ⟨m0, l0, sp0⟩ := mAt s1 0 p0
  have hk0 : kvs.length < sizeLine := small1000 (by have := hC.len; omega)
  dsimp only
  refine ⟨_, rfl, te_cal (ea_cons (ev_ixL (v := .ref ms[0]) (ev_var rfl) ev_c (SqL.of (s1 _ _ hl)) (atI_nat (j := 0) (by simp [p0]))) ea_nil) ⟨ms[0], rAt row 0, rfl, l0, m0, fun p np => ⟨d, _, rfl, DPut.t (k := iK (rAt row 0).1) (by rw [upd_ne (ne_of_none ed np)]; exact ed) (iK_at upd_same) hk0, ?_⟩⟩⟩
  have s2 : Same H1 (upd H1 p (.tup ((rAt row 0).1.map V.int))) := (Same.refl H1).upd np
  revert s2
  generalize upd H1 p (.tup ((rAt row 0).1.map V.int)) = H2
  intro s2
  have s3 : Same H (upd H2 d (.dT (putK kvs (iK (rAt row 0).1) .non))) := same_at (s1.trans s2) nd
  have ed3 : upd H2 d (.dT (putK kvs (iK (rAt row 0).1) .non)) d = some (.dT (putK kvs (iK (rAt row 0).1) .non)) := upd_same
  have c3 := ((hC.put sp0 (.inl ⟨rfl, rfl⟩)).same s3)
  have e0 : (rAt row 0).1 = s0 := by rw [L.h0]
  rw [e0] at s3 ed3 c3 ⊢
  revert s3 ed3 c3
  generalize upd H2 d (.dT (putK kvs (iK s0) .non)) = H3
  generalize putK kvs (iK s0) .non = kv3
  intro s3 ed3 c3
  dsimp only
  refine ⟨_, rfl, _, rfl, 1, rfl, l, _, rfl, SqL.of (s3 _ _ hl), fun sl nsl => ?_⟩
  have s4 : Same H (upd H3 sl (.lst (cutV (ms.map V.ref) (some 1) none))) := s3.upd nsl
  have ed4 : upd H3 sl (.lst (cutV (ms.map V.ref) (some 1) none)) d = some (.dT kv3) := by rw [upd_ne (ne_of_none ed3 nsl)]; exact ed3
  have c4 := c3.same (show Same H3 (upd H3 sl (.lst (cutV (ms.map V.ref) (some 1) none))) from (Same.refl H3).upd nsl)
  have hsl : upd H3 sl (.lst (cutV (ms.map V.ref) (some 1) none)) sl = some (.lst ((ms.drop 1).map V.ref)) := by rw [upd_same, cut1, List.map_drop]
  have dsl : d ≠ sl := ne_of_none ed3 nsl
  have hnsl : H sl = none := s3.free nsl
  revert s4 ed4 c4 hsl
  generalize upd H3 sl (.lst (cutV (ms.map V.ref) (some 1) none)) = H4
  intro s4 ed4 c4 hsl
  refine ⟨l, sl, rfl, ⟨_, SqL.of (s4 _ _ hl)⟩, ⟨_, SqL.of hsl⟩, for_zipS (K := K) (xs := ms.map V.ref) (ys := (ms.drop 1).map V.ref) (by simp) (fun i σ H' => ∃ (kvs' : List (List Key × V)) (x3 x4 x5 : Option V), σ = [some (.ref e), some (.ref l), some (.ref d), x3, x4, x5] ∧ Same H H' ∧ H' d = some (.dT kvs') ∧ H' sl = some (.lst ((ms.drop 1).map V.ref)) ∧ CmAt H' n kvs' (tT C row s0 i))
    ⟨kv3, none, none, none, rfl, s4, ed4, hsl, c4⟩ (fun i σ H' _ ⟨_, _, _, _, _, s, _, h5, _⟩ => ⟨SqL.of (s _ _ hl), SqL.of h5⟩) ?_ ?_⟩
  · rintro i x y p σ H5 hx hy np ⟨kv5, x3, x4, x5, rfl, s5, ed5, hsl5, c5⟩
    have hi : i + 1 < ms.length := by have := (List.getElem?_eq_some_iff.mp hy).1; simp at this; omega
    have hx : x = .ref ms[i] := by
      rw [List.getElem?_map, List.getElem?_eq_getElem (by omega : i < ms.length)] at hx
      exact (Option.some.inj hx).symm
    have hy : y = .ref ms[i + 1] := by
      rw [List.getElem?_map, List.getElem?_drop, show 1 + i = i + 1 by omega, List.getElem?_eq_getElem hi] at hy
      exact (Option.some.inj hy).symm
    subst hx hy
    refine ⟨p, _, rfl, SqT.of upd_same, rfl, _, _, rfl, _, _, rfl, rfl, ?_⟩
    have s6 : Same H5 (upd H5 p (.tup [.ref ms[i], .ref ms[i + 1]])) := (Same.refl H5).upd np
    revert s6
    generalize upd H5 p (.tup [.ref ms[i], .ref ms[i + 1]]) = H6
    intro s6
    have s6' := s5.trans s6
    obtain ⟨m1, l1, sp1⟩ := mAt s6' i (by omega)
    obtain ⟨m2, l2, sp2⟩ := mAt s6' (i + 1) hi
    have ed6 := s6 _ _ ed5
    have hsl6 := s6 _ _ hsl5
    have c6 := c5.same s6
    refine sq_cal (ea_cons (ev_var rfl) ea_nil) ⟨ms[i + 1], rAt row (i + 1), rfl, l2, m2, fun sp nsp => ?_⟩
    have s7 : Same H6 (upd H6 sp (.tup ((rAt row (i + 1)).1.map V.int))) := (Same.refl H6).upd nsp
    have e7 : upd H6 sp (.tup ((rAt row (i + 1)).1.map V.int)) sp = some (.tup ((rAt row (i + 1)).1.map V.int)) := upd_same
    revert s7 e7
    generalize upd H6 sp (.tup ((rAt row (i + 1)).1.map V.int)) = H7
    intro s7 e7
    have s7' := s6'.trans s7
    have ed7 := s7 _ _ ed6
    have hsl7 := s7 _ _ hsl6
    have c7 := c6.same s7
    have hk7 : kv5.length < sizeLine := small1000 (by have := c5.len; omega)
    have dep : ∀ y : T3, (PyData.tuple (y.map PyData.int)).depth ≤ 60 := fun y => Nat.le_trans (depth_tints _) (by decide)
    have hi' : i + 1 < row.length := by omega
    refine te_cal (ea_cons (ev_var rfl) ea_nil) ⟨ms[i], rAt row i, rfl, l1, s7 _ _ m1, _, rfl, ?_⟩
    cases hd : (rAt row i).2 with
    | true =>
      rw [if_pos rfl]
      refine ⟨_, rfl, te_cal (ea_cons (ev_var rfl) ea_nil) ⟨ms[i], rAt row i, rfl, l1, s7 _ _ m1, fun t nt => ⟨_, _, Dp.ints (SqT.of (by rw [upd_ne (ne_of_none e7 nt)]; exact e7)), Dp.ints (SqT.of upd_same), dep _, _, rfl, ?_⟩⟩⟩
      have s8 : Same H7 (upd H7 t (.tup ((rAt row i).1.map V.int))) := (Same.refl H7).upd nt
      revert s8
      generalize upd H7 t (.tup ((rAt row i).1.map V.int)) = H8
      intro s8
      have s8' := s7'.trans s8
      have ed8 := s8 _ _ ed7
      have hsl8 := s8 _ _ hsl7
      have e8 := s8 _ _ e7
      have m8 := s8 _ _ (s7 _ _ m1)
      have c8 := c7.same s8
      have tk : ∀ {H' : Hp} {kv kv' : List (List Key × V)}, H' d = some (.dT kv) → ∀ b ys, H' b = some (.tup ys) → upd H' d (.dT kv') b = some (.tup ys) := fun ed b ys eb => by rw [upd_ne (ne_of eb ed (by intro z; cases z))]; exact eb
      by_cases he : (rAt row (i + 1)).1 = (rAt row i).1
      · rw [eqv_tints, decide_eq_true he]
        refine iteT ?_
        obtain ⟨po, _⟩ := pop_own L hi' hd he.symm
        rw [← he, ← c8.isS] at po
        obtain ⟨v, hv⟩ := Option.isSome_iff_exists.mp po
        refine ⟨_, rfl, .inr (.inr (.inl ⟨rfl, .inr ⟨_, ed8⟩⟩)), _, rfl, d, sp, kv5, iK (rAt row (i + 1)).1, v, rfl, rfl, ed8, iK_at e8, hv, ?_⟩
        refine ⟨_, _, _, _, rfl, same_at s8' nd, upd_same, (by rw [upd_ne dsl.symm]; exact hsl8), ?_⟩
        have eT : tT C row s0 (i + 1) = fun z => if z = (rAt row (i + 1)).1 then none else tT C row s0 i z := by
          funext z
          show (if (rAt row i).2 = true then (if z = (rAt row (i + 1)).1 then (if (rAt row i).1 = (rAt row (i + 1)).1 then none else some (some (rAt row i).1)) else tT C row s0 i z) else tT C row s0 i z) = _
          rw [if_pos hd, if_pos he.symm]
        rw [eT]
        exact (c8.del _).tups (tk ed8)
      · rw [eqv_tints, decide_eq_false he]
        refine iteF ?_
        refine te_cal (ea_cons (ev_var rfl) ea_nil) ⟨ms[i], rAt row i, rfl, l1, m8, _, rfl, ?_⟩
        rw [hd]
        refine iteT ?_
        refine te_cal (ea_cons (ev_var rfl) ea_nil) ⟨ms[i], rAt row i, rfl, l1, m8, fun u nu => ⟨_, rfl, _, rfl, d, _, rfl, DPut.t (k := iK (rAt row (i + 1)).1) (by rw [upd_ne (ne_of_none ed8 nu)]; exact ed8) (iK_at (by rw [upd_ne (ne_of_none e8 nu)]; exact e8)) hk7, ?_⟩⟩
        have s9 : Same H8 (upd H8 u (.tup ((rAt row i).1.map V.int))) := (Same.refl H8).upd nu
        have e9 : upd H8 u (.tup ((rAt row i).1.map V.int)) u = some (.tup ((rAt row i).1.map V.int)) := upd_same
        revert s9 e9
        generalize upd H8 u (.tup ((rAt row i).1.map V.int)) = H9
        intro s9 e9
        refine ⟨_, _, _, _, rfl, same_at (s8'.trans s9) nd, upd_same, (by rw [upd_ne dsl.symm]; exact s9 _ _ hsl8), ?_⟩
        have eT : tT C row s0 (i + 1) = fun z => if z = (rAt row (i + 1)).1 then some (some (rAt row i).1) else tT C row s0 i z := by
          funext z
          show (if (rAt row i).2 = true then (if z = (rAt row (i + 1)).1 then (if (rAt row i).1 = (rAt row (i + 1)).1 then none else some (some (rAt row i).1)) else tT C row s0 i z) else tT C row s0 i z) = _
          have he' : ¬ (rAt row i).1 = (rAt row (i + 1)).1 := fun z => he z.symm
          rw [if_pos hd, if_neg he']
        rw [eT]
        exact ((c8.same s9).put sp2 (.inr ⟨_, u, rfl, rfl, sp1, e9⟩)).tups (tk (s9 _ _ ed8))
    | false =>
      rw [if_neg (by simp)]
      refine iteF ?_
      refine te_cal (ea_cons (ev_var rfl) ea_nil) ⟨ms[i], rAt row i, rfl, l1, s7 _ _ m1, _, rfl, ?_⟩
      rw [hd]
      refine iteF ?_
      refine ⟨_, _, _, _, rfl, s7', ed7, hsl7, ?_⟩
      have eT : tT C row s0 (i + 1) = tT C row s0 i := by
        funext z
        show (if (rAt row i).2 = true then (if z = (rAt row (i + 1)).1 then (if (rAt row i).1 = (rAt row (i + 1)).1 then none else some (some (rAt row i).1)) else tT C row s0 i z) else tT C row s0 i z) = _
        rw [if_neg (by rw [hd]; simp)]
      rw [eT]
      exact c7
  · rintro σ H5 ⟨kv5, x3, x4, x5, rfl, s5, ed5, hsl5, c5⟩
    rw [List.length_map, List.length_drop, lm] at c5
    exact ⟨_, rfl, q d H5 kv5 s5 nd ed5 c5⟩
theorem ok_law {f : Addr} {fd : FuncData} (F : Fun K "law" "law" slaw f fd) (T : Txt K mg) (gCell : Callee P w K mg base "_law_cell_at" 1 ["script", "k"] (spCell K)) (gLinks : Callee P w K mg base "_law_links" 2 ["script", "spots"] (spLinks K)) (gLying : Callee P w K mg base "_law_lying" 2 ["script", "spots", "links"] (spLying K)) (gRow : Callee P w K mg base "_law_row" 2 ["script", "spots", "links", "comes"] (spRow K)) (gDue : Callee P w K mg base "_law_due" 1 ["comes", "row"] (spDue K)) (gFirst : Callee P w K mg base "_law_firsts" 1 ["comes"] (spFirst K)) (gRr : Callee P w K mg base "rerouted" 2 ["comes", "marks"] (spRr K)) : FnOk P w K mg base CX0 3 f fd ["script"] (spLaw K) := by
  have sc : FnScope ["script", "spots", "links", "comes", "row", "due", "handed", "found", "behind"] ["script"] (defScope slaw) := ⟨rfl, rfl, rfl, by decide +kernel, rfl, by decide +kernel, by decide +kernel⟩
  refine F.ok sc (fun vs H Q E h => by repeat (first | (obtain ⟨rfl, _⟩ := h; rfl) | (obtain ⟨_, h⟩ := h))) (fun cdv A outer s H vs Q E hr h => ?_)
  obtain ⟨a, ns, rfl, ha, hn, q⟩ := h
  refine ⟨_, (pss_cons (ps_lcset (i := 1) (ls := ["k"]) (ys := []) (ix := []) rfl sc.nd rfl (Or.inl rfl) ⟨rfl, by rfl, by rfl, by rfl, by rfl, rfl⟩ (pi_range1 (by rfl) T.range_ (pa_cons (pe_op op_add pe_int (pe_op op_mod (pe_cal gCell (hr.mono (by decide)) (by rfl) (pa_cons (pv 0) (pa_cons pe_int pa_nil))) pe_int)) pa_nil)) (fun _ _ _ _ _ => (pg_name (i := 0) (show (["k"] : List Str).Nodup by decide +kernel) rfl (Or.inl rfl))) (fun _ _ _ _ _ => pf_nil) (fun _ _ _ _ _ => (pe_tup (pa_cons (pe_op op_mod (pv 0) pe_int) (pa_cons (pe_op op_mod (pe_op op_fdivB (pv 0) pe_int) pe_int) (pa_cons (pe_op op_fdivB (pv 0) pe_int) pa_nil))))))
  (pss_cons (ps_if (pt_cmpR op_eq (pe_op op_mod (pe_op op_fdivB (pe_cal gCell (hr.mono (by decide)) (by rfl) (pa_cons (pv 0) (pa_cons pe_int pa_nil))) pe_int) pe_int) pe_int (nomark _))
  (pss_one (ps_asg (pe_tup (pa_cons pe_int (pa_cons pe_int (pa_cons (pe_op op_mod (pe_op op_fdivB (pe_cal gCell (hr.mono (by decide)) (by rfl) (pa_cons (pv 0) (pa_cons pe_int pa_nil))) pe_int) (pe_op op_pow pe_int pe_int)) pa_nil)))) (pg_sub (pv 1) pe_int set_list)))
  pss_nil)
  (pss_cons (ps_set (i := 2) sc.nd rfl (Or.inl rfl) (pe_cal gLinks (hr.mono (by decide)) (by rfl) (pa_cons (pv 0) (pa_cons (pv 1) pa_nil))))
  (pss_cons (ps_set (i := 3) sc.nd rfl (Or.inl rfl) (pe_cal gLying (hr.mono (by decide)) (by rfl) (pa_cons (pv 0) (pa_cons (pv 1) (pa_cons (pv 2) pa_nil)))))
  (pss_cons (ps_set (i := 4) sc.nd rfl (Or.inl rfl) (pe_cal gRow (hr.mono (by decide)) (by rfl) (pa_cons (pv 0) (pa_cons (pv 1) (pa_cons (pv 2) (pa_cons (pv 3) pa_nil))))))
  (pss_cons (ps_set (i := 5) sc.nd rfl (Or.inl rfl) (pe_cal gDue (hr.mono (by decide)) (by rfl) (pa_cons (pv 3) (pa_cons (pv 4) pa_nil))))
  (pss_cons (ps_set (i := 6) sc.nd rfl (Or.inl rfl) (pe_lst (pa_cons (pe_callTy call_dict (by rfl) T.dict_ bt_dict (pa_cons (pv 3) pa_nil)) (pa_cons (pe_callTy call_list_of (by rfl) T.list_ bt_list (pa_cons (pv 4) pa_nil)) pa_nil))))
  (pss_cons (ps_set (i := 7) sc.nd rfl (Or.inr rfl) (pe_cal gRr (hr.mono (by decide)) (by rfl) (pa_cons (pe_ix ix_list (pv 6) pe_int (fun _ _ => rfl)) (pa_cons (pe_ix ix_list (pv 6) pe_int (fun _ _ => rfl)) pa_nil))))
  (pss_cons (ps_if (pw_or (pt_not (pt_val (pe_callB call_isinst (by rfl) T.isinstance_ bt_isinstance (pa_cons (pv 7) (pa_cons (pe_bltn (v := .ty "dict") (by rfl) T.dict_ bt_dict (by rfl)) pa_nil))))) (pw_or (pt_cmpR (op_neDic hr) (pv 7) (pv 5) (nomark _)) (pw_or (pt_cmpR (op_neDic hr) (pe_ix ix_list (pv 6) pe_int (fun _ _ => rfl)) (pv 3) (nomark _)) (pw_or1 (pt_cmpR (op_neD hr) (pe_ix ix_list (pv 6) pe_int (fun _ _ => rfl)) (pv 4) (nomark _)))))).pt
  (pss_one (ps_ret pe_bl))
  pss_nil)
  (pss_cons (ps_frz (ps_lcset (i := 8) (ls := ["spot"]) (ys := ["found"]) (ix := [7]) rfl sc.nd rfl (Or.inl rfl) ⟨rfl, by rfl, by rfl, by rfl, by rfl, rfl⟩ (pi_keys (pv 7)) (fun _ _ _ _ _ => (pg_name (i := 0) (show (["spot", "found"] : List Str).Nodup by decide +kernel) rfl (Or.inl rfl))) (fun _ _ _ _ _ => (pf_one (pt_cmpR op_notN (pe_dget (by exact (Room.one hr)) (pv 1) (pv 0) (fun _ _ => rfl)) pe_non (nomark _)))) (fun _ _ _ _ _ => (pe_dget (by exact (Room.one hr)) (pv 1) (pv 0) (fun _ _ => rfl)))))
  (pss_cons (ps_if (pw_or (pt_cmpR op_ne (pe_callB call_lenSt (by rfl) T.len_ bt_len (pa_cons (pe_callTy (call_setN rfl hr) (by rfl) T.set_ bt_set (pa_cons (pv 8) pa_nil)) pa_nil)) (pe_callB call_len (by rfl) T.len_ bt_len (pa_cons (pv 8) pa_nil)) (nomark _)) (pw_or1 (pt_cmpR op_ne (pe_cal gFirst (hr.mono (by decide)) (by rfl) (pa_cons (pv 7) pa_nil)) (pe_op op_add (pe_cal gFirst (hr.mono (by decide)) (by rfl) (pa_cons (pv 3) pa_nil)) pe_int) (nomark _)))).pt
  (pss_one (ps_ret pe_bl))
  pss_nil)
  (pss_cons (ps_expr (pe_bm0 PySem.F.plainAttrs_dict PySem.F.slot_dict_clear PySem.F.type_dict_clear mt_clearT (pe_ix ix_list (pv 6) pe_int (fun _ _ => rfl))))
  (pss_cons (ps_expr (pe_bm PySem.F.plainAttrs_list PySem.F.slot_list_append PySem.F.type_list_append mt_append (pe_ix ix_list (pv 6) pe_int (fun _ _ => rfl)) (pa_cons (pe_ix ix_list (pv 4) pe_int (fun _ _ => rfl)) pa_nil)))
  (pss_one (ps_ret (pe_and (pe_cmpR (op_eqDic hr) (pv 7) (pv 5) (nomark _)) (pe_one (pe_cmpR (op_eqDic hr) (pe_cal gRr (hr.mono (by decide)) (by rfl) (pa_cons (pv 3) (pa_cons (pv 4) pa_nil))) (pv 5) (nomark _))))))))))))))))))), ?_⟩
  dsimp only
  refine te_cal (ea_cons (ev_var rfl) (ea_cons ev_c ea_nil)) ⟨a, ns, 0, rfl, ha, by decide, fun v => ⟨v, 10, rfl, rfl, (by show (0 : Int) < 10; decide), 3, _, rfl, rfl, ?_⟩⟩
  have v0 := Int.emod_nonneg v (show (10 : Int) ≠ 0 by decide)
  have v1 := Int.emod_lt_of_pos v (show (0 : Int) < 10 by decide)
  obtain ⟨N, eN⟩ := Int.eq_ofNat_of_zero_le (show 0 ≤ 3 + v % 10 by omega)
  have N3 : 3 ≤ N := by omega
  have N12 : N ≤ 12 := by omega
  refine ⟨3 + v % 10, rfl, by omega, by omega, fun p np => ?_⟩
  rw [eN]
  refine lc_range (fun i τ H' => ∃ (x0 : Option V) (rs : List Addr), τ = [x0] ∧ Same H H' ∧ H' p = some (.lst (rs.map V.ref)) ∧ Tups H' rs ((List.range i).map spI) ∧ rs.length = i)
    ⟨none, [], rfl, (Same.refl _).upd np, upd_same, .nil, rfl⟩ ?_ ?_
  · rintro i τ H5 hi ⟨x0, rs, rfl, s5, hp, hrs, hrl⟩
    have hi : i < N := hi
    rw [Int.zero_add]
    dsimp only [gName, tYes]
    rw [if_pos rfl]
    refine te_tup (ea_cons (ev_I (ev_var rfl) ev_c (by show (0 : Int) < 2; decide)) (ea_cons (ev_I (ev_I (ev_var rfl) ev_c (by constructor <;> decide)) ev_c (by show (0 : Int) < 3; decide)) (ea_cons (ev_I (ev_var rfl) ev_c (by constructor <;> decide)) ea_nil))) (by show 3 ≤ sizeLine; decide) fun b nb => ?_
    have s6 : Same H5 (upd H5 b (.tup [.int ((i : Int) % 2), .int ((i : Int) / 2 % 3), .int ((i : Int) / 6)])) := (Same.refl H5).upd nb
    have e6 : upd H5 b (.tup [.int ((i : Int) % 2), .int ((i : Int) / 2 % 3), .int ((i : Int) / 6)]) b = some (.tup ((spI i).map V.int)) := upd_same
    revert s6 e6
    generalize upd H5 b (.tup [.int ((i : Int) % 2), .int ((i : Int) / 2 % 3), .int ((i : Int) / 6)]) = H6
    intro s6 e6
    have hp6 := s6 _ _ hp
    refine ⟨_, hp6, (by rw [List.length_map]; exact small1000 (by omega)), _, rs ++ [b], rfl, same_at (s5.trans s6) np, ?_, ?_, ?_⟩
    · rw [upd_same, List.map_append]; rfl
    · have up : ∀ b' ys, H6 b' = some (.tup ys) → upd H6 p (.lst (rs.map V.ref ++ [.ref b])) b' = some (.tup ys) := fun b' ys eb => by rw [upd_ne (ne_of eb hp6 (by intro z; cases z))]; exact eb
      rw [List.range_succ, List.map_append]
      exact tups_app (Paired.mapP (hrs.same s6) fun _ _ z => up _ _ z) (.cons (up _ _ e6) .nil)
    · rw [List.length_append, hrl]; rfl
  · rintro τ H5 ⟨x0, rs, rfl, s5, hp, hrs, hrl⟩
    have hrl : rs.length = N := hrl
    have hrs : Tups H5 rs ((List.range N).map spI) := hrs
    have ha5 := s5.seq ha
    dsimp only
    refine sq_R (fun σ H' => ∃ (n : Nat) (as : List Addr) (sps : List T3), n < 10000000000 ∧ σ = [some (.ref a), some (.ref p), none, none, none, none, none, none, none] ∧ Same H H' ∧ SpsAt K H' n p as sps) (fun R hR => ?_) ?_
    · refine te_cal (ea_cons (ev_var rfl) (ea_cons ev_c ea_nil)) ⟨a, ns, 0, rfl, ha5, by decide, fun v => ⟨v, 10, rfl, rfl, (by constructor <;> decide), _, 2, rfl, rfl, (by show (0 : Int) < 2; decide), rfl, _, rfl, ?_⟩⟩
      dsimp only
      split
      · refine te_cal (ea_cons (ev_var rfl) (ea_cons ev_c ea_nil)) ⟨a, ns, 0, rfl, ha5, by decide, fun u => ⟨u, 20, rfl, rfl, (by constructor <;> decide), 10, 9, rfl, rfl, ⟨by decide, by decide, by decide⟩, _, _, rfl, rfl, (by show (0 : Int) < 10 ^ (9 : Int).toNat; decide), ?_⟩⟩
        dsimp only [tNil]
        have m0 := Int.emod_nonneg (u / 20) (show (10 : Int) ^ Int.toNat 9 ≠ 0 by decide)
        have m1 := Int.emod_lt_of_pos (u / 20) (show (0 : Int) < 10 ^ Int.toNat 9 by decide)
        revert m0 m1
        generalize u / 20 % 10 ^ Int.toNat 9 = m
        intro m0 m1
        obtain ⟨n, rfl⟩ := Int.eq_ofNat_of_zero_le m0
        have m1 : (n : Int) < 1000000000 := m1
        refine ⟨by show 3 ≤ sizeLine; decide, fun b nb => ⟨_, rfl, p, _, 0, 0, rfl, rfl, (by rw [upd_ne (ne_of_none hp nb)]; exact hp), ?_, ?_⟩⟩
        · rw [List.length_map, hrl]
          unfold ixN
          simp
          omega
        have s6 : Same H5 (upd H5 b (.tup [.int 3, .int 7, .int (n : Int)])) := (Same.refl H5).upd nb
        have e6 : upd H5 b (.tup [.int 3, .int 7, .int (n : Int)]) b = some (.tup (([3, 7, (n : Int)] : T3).map V.int)) := upd_same
        revert s6 e6
        generalize upd H5 b (.tup [.int 3, .int 7, .int (n : Int)]) = H6
        intro s6 e6
        have hp6 := s6 _ _ hp
        have up : ∀ b' ys, H6 b' = some (.tup ys) → upd H6 p (.lst ((rs.map V.ref).set 0 (.ref b))) b' = some (.tup ys) := fun b' ys eb => by rw [upd_ne (ne_of eb hp6 (by intro z; cases z))]; exact eb
        obtain ⟨k, rfl⟩ : ∃ k, N = k + 1 := ⟨N - 1, by omega⟩
        have es : ((List.range (k + 1)).map spI).set 0 [3, 7, (n : Int)] = [3, 7, (n : Int)] :: ((List.range k).map Nat.succ).map spI := by rw [List.range_succ_eq_map]; rfl
        refine hR _ _ ⟨n, rs.set 0 b, ((List.range (k + 1)).map spI).set 0 [3, 7, (n : Int)], by omega, rfl, same_at (s5.trans s6) np, ⟨SqL.of (by rw [upd_same, List.map_set]), Paired.mapP (tups_set (hrs.same s6) e6) fun _ _ z => up _ _ z, ?_, ?_, ?_, ?_⟩⟩
        · rw [es, List.nodup_cons]
          refine ⟨fun hm => ?_, ?_⟩
          · obtain ⟨j, _, ej⟩ := List.mem_map.mp hm
            exact spI_far ej
          · have : ((List.range (k + 1)).map spI).Nodup := List.Pairwise.map _ (fun _ _ ne e => ne (spI_inj e)) List.nodup_range
            rw [List.range_succ_eq_map, List.map_cons] at this
            exact (List.nodup_cons.mp this).2
        · intro x hx
          rw [es] at hx
          rcases List.mem_cons.mp hx with rfl | hx
          · exact .far
          · obtain ⟨j, hj, rfl⟩ := List.mem_map.mp hx
            obtain ⟨j', hj', rfl⟩ := List.mem_map.mp hj
            exact spI_spot (by have := List.mem_range.mp hj'; omega)
        · rw [List.length_set, List.length_map, List.length_range]; exact N3
        · rw [List.length_set, List.length_map, List.length_range]; exact N12
      · refine hR _ _ ⟨0, rs, (List.range N).map spI, by decide, rfl, s5, SqL.of hp, hrs, ?_, ?_, ?_, ?_⟩
        · exact List.Pairwise.map _ (fun _ _ ne e => ne (spI_inj e)) List.nodup_range
        · intro x hx
          obtain ⟨k, hk, rfl⟩ := List.mem_map.mp hx
          exact spI_spot (by have := List.mem_range.mp hk; omega)
        · rw [List.length_map, List.length_range]; exact N3
        · rw [List.length_map, List.length_range]; exact N12
    · rintro σ H6 ⟨n, as, sps, n10, rfl, s6, hs⟩
      have ha6 := s6.seq ha
      refine sq_cal (ea_cons (ev_var rfl) (ea_cons (ev_var rfl) ea_nil)) ⟨a, p, ns, n, as, sps, rfl, ha6, hn, hs, fun lk H7 kvl L s7 nlk elk hL => ?_⟩
      refine sq_cal (ea_cons (ev_var rfl) (ea_cons (ev_var rfl) (ea_cons (ev_var rfl) ea_nil))) ⟨a, p, lk, ns, n, as, sps, kvl, L, rfl, s7.seq ha6, hn, hs.same s7, elk, hL, fun cm H8 kvc C s8 ncm ecm hC hLie => ?_⟩
      refine sq_cal (ea_cons (ev_var rfl) (ea_cons (ev_var rfl) (ea_cons (ev_var rfl) (ea_cons (ev_var rfl) ea_nil)))) ⟨a, p, lk, cm, ns, n, as, sps, kvl, kvc, L, C, rfl, s8.seq (s7.seq ha6), hn, (hs.same s7).same s8, s8 _ _ elk, hL.same s8, ecm, hC, hLie, fun rw H9 ms row s0 s9 nrw hrow hmem Lg => ?_⟩
      obtain ⟨hrw, htr, hz, h3⟩ := hrow
      have hsp : ∀ m ∈ row, SpotN n m.1 := fun m hm => hs.sp _ (hmem m hm)
      have hC9 := hC.same s9
      have ecm9 := s9 _ _ ecm
      clear s7 elk hL s8 ncm ecm hC s9 nrw nlk
      refine sq_cal (ea_cons (ev_var rfl) (ea_cons (ev_var rfl) ea_nil)) ⟨cm, rw, n, kvc, C, ms, row, s0, rfl, ecm9, hC9, ⟨hrw, htr, hz, h3⟩, hsp, Lg, fun du H10 kvd s10 ndu edu hD => ?_⟩
      have ecm10 := s10 _ _ ecm9
      have hrw10 := s10 _ _ hrw
      refine ⟨_, rfl, cm, rfl, .inr ⟨kvc, .inl ecm10, hC9.hash n10, fun h1 nh1 => ?_⟩⟩
      have s11 : Same H10 (upd H10 h1 (.dT kvc)) := (Same.refl H10).upd nh1
      have e11 : upd H10 h1 (.dT kvc) h1 = some (.dT kvc) := upd_same
      revert s11 e11
      generalize upd H10 h1 (.dT kvc) = H11
      intro s11 e11
      refine ⟨_, rfl, rw, _, rfl, .inl (SqL.of (s11 _ _ hrw10)), fun h2 nh2 => ?_⟩
      have s12 : Same H11 (upd H11 h2 (.lst (ms.map V.ref))) := (Same.refl H11).upd nh2
      have e12 : upd H11 h2 (.lst (ms.map V.ref)) h2 = some (.lst (ms.map V.ref)) := upd_same
      revert s12 e12
      generalize upd H11 h2 (.lst (ms.map V.ref)) = H12
      intro s12 e12
      refine ⟨by show 2 ≤ sizeLine; decide, fun hd nhd => ?_⟩
      have s13 : Same H12 (upd H12 hd (.lst [.ref h1, .ref h2])) := (Same.refl H12).upd nhd
      have e13 : upd H12 hd (.lst [.ref h1, .ref h2]) hd = some (.lst [.ref h1, .ref h2]) := upd_same
      revert s13 e13
      generalize upd H12 hd (.lst [.ref h1, .ref h2]) = H13
      intro s13 e13
      have S13 := (s11.trans s12).trans s13
      have eh1 := s13 _ _ (s12 _ _ e11)
      have eh2 := s13 _ _ e12
      have hC13 := hC9.same (s10.trans S13)
      have ht13 := htr.same (s10.trans S13)
      dsimp only
      refine sq_cal (ea_cons (ev_ixL (v := .ref h1) (ev_var rfl) ev_c (SqL.of e13) (atI_nat (j := 0) rfl)) (ea_cons (ev_ixL (v := .ref h2) (ev_var rfl) ev_c (SqL.of e13) (atI_nat (j := 1) rfl)) ea_nil)) ⟨h1, h2, n, kvc, C, ms, row, s0, rfl, n10, eh1, hC13, ⟨eh2, ht13, hz, h3⟩, hsp, Lg, fun fo H14 kvf s14 nfo efo hF => ?_⟩
      have ecm14 := s14 _ _ (S13 _ _ ecm10)
      have hrw14 := s14 _ _ (S13 _ _ hrw10)
      have edu14 := s14 _ _ (S13 _ _ edu)
      have eh1' := s14 _ _ eh1
      have eh2' := s14 _ _ eh2
      have ehd := s14 _ _ e13
      have hC14 := hC13.same s14
      have hD14 := (hD.same S13).same s14
      have ht14 := ht13.same s14
      have dp1 : Dp K H14 (.ref h2) _ := .lst (SqL.of eh2') ht14.dps
      have dp2 : Dp K H14 (.ref rw) _ := .lst (SqL.of hrw14) ht14.dps
      refine sq_if (b := false) (et_of (et_or (et_not (et_B (ev_cb (v := .bl true) (ea_cons (ev_var rfl) (ea_cons ev_c ea_nil)) fun Q' q' => ⟨_, _, _, _, _, rfl, .ty "dict", .dT efo, T.dd, q'⟩))) fun _ => et_or (et_test (ev_neDic (ev_var rfl) (ev_var rfl) (cm_smd (.inl efo) (.inl edu14) hF hD14))) fun _ => et_or (et_test (ev_neDic (ev_ixL (v := .ref h1) (ev_var rfl) ev_c (SqL.of ehd) (atI_nat (j := 0) rfl)) (ev_var rfl) (cm_smd (.inl eh1') (.inl ecm14) hC14 hC14))) fun _ => et_test (ev_neD (ev_ixL (v := .ref h2) (ev_var rfl) ev_c (SqL.of ehd) (atI_nat (j := 1) rfl)) (ev_var rfl) dp1 dp2 depth_row)) (by rw [eqv_refl dp1.lay]; rfl)) (fun z => nomatch z) (fun _ => ?_)
      refine ⟨fo, .dT kvf, efo, trivial, fun o => ?_⟩
      have ef : upd H14 fo (.frz o (.dT kvf)) fo = some (.frz o (.dT kvf)) := upd_same
      have back : ∀ {H2 : Hp}, Same (upd H14 fo (.frz o (.dT kvf))) H2 → Same H14 (upd H2 fo (.dT kvf)) := fun s b u eb => by
        by_cases hb : b = fo
        · subst hb; rw [efo] at eb; cases eb; exact upd_same
        · rw [upd_ne hb]; exact s _ _ (by rw [upd_ne hb]; exact eb)
      have hFF : CmAt (upd H14 fo (.frz o (.dT kvf))) n kvf (tT C row s0 (row.length - 1)) := CmAt.tups hF fun b ys eb => by rw [upd_ne (ne_of eb efo (by intro z; cases z))]; exact eb
      revert ef back hFF
      generalize upd H14 fo (.frz o (.dT kvf)) = HF
      intro ef back hFF
      refine ⟨_, rfl, fo, o, .dT kvf, rfl, ef, trivial, fun be nbe => ?_⟩
      have bef : be ≠ fo := fun z => by rw [z, ef] at nbe; cases nbe
      refine lc_keys (u := .dT kvf) (fun i τ H2 => ∃ (x0 : Option V) (rs : List Addr) (us : List T3), τ = [x0, some (.ref fo)] ∧ Same HF H2 ∧ H2 be = some (.lst (rs.map V.ref)) ∧ Tups H2 rs us ∧ rs.length ≤ i ∧ us.Nodup ∧ ∀ y ∈ us, SpotN n y ∧ ∃ x, iK x ∈ (kvf.take i).map (·.1) ∧ tT C row s0 (row.length - 1) x = some (some y))
        ⟨none, [], [], rfl, (Same.refl HF).upd nbe, upd_same, .nil, Nat.le_refl _, .nil, fun _ h => nomatch h⟩ (fun i τ H2 _ ⟨_, _, _, _, s, _⟩ => s _ _ ef) ?_ ?_
      · rintro i x v τ H2 hka hi ⟨x0, rs, us, rfl, s2, hb2, hrs, hrl, und, uin⟩
        obtain ⟨kk, b, hk1, rfl, hb⟩ := hka
        obtain ⟨x, ek, sx⟩ := hFF.sp (kk, v) (List.mem_of_getElem? hk1)
        dsimp only at ek
        subst ek
        have hv : valV kvf (iK x) = some v := valV_mem hFF.nd (p := (iK x, v)) (List.mem_of_getElem? hk1)
        have g : DGet H2 fo (.ref b) (some v) := .inr ⟨kvf, iK x, b, .inr ⟨o, s2 _ _ ef⟩, rfl, hb, hv.symm⟩
        have hi13 : i < 13 := by have := hFF.len; have := (List.getElem?_eq_some_iff.mp hk1).1; omega
        have keep : ∀ y ∈ us, SpotN n y ∧ ∃ x, iK x ∈ (kvf.take (i + 1)).map (·.1) ∧ tT C row s0 (row.length - 1) x = some (some y) := fun y hy => by
          obtain ⟨h1, z, h2, h3⟩ := uin y hy
          exact ⟨h1, z, (take_key hk1 z).mpr (.inl h2), h3⟩
        refine (et_test (ev_notN (ev_dget (ev_var rfl) (ev_var rfl) g) ev_c)) _ ?_
        cases hc : tT C row s0 (row.length - 1) x with
        | none => rw [hFF.no x hc] at hv; cases hv
        | some oy =>
          cases oy with
          | none =>
            rw [hFF.fi x hc] at hv
            cases hv
            refine iteF ?_
            exact ⟨_, rs, us, rfl, s2, hb2, hrs, by omega, und, keep⟩
          | some y =>
            obtain ⟨c, h1', h2'⟩ := hFF.ye x y hc
            rw [h1'] at hv
            cases hv
            refine iteT ?_
            have xn : iK x ∉ (kvf.take i).map (·.1) := fun hm => by
              have nd := hFF.nd
              obtain ⟨j, hj⟩ := List.mem_iff_getElem?.mp hm
              rw [List.getElem?_map] at hj
              obtain ⟨pj, hpj, epj⟩ := Option.map_eq_some_iff.mp hj
              have hj1 : j < i := by have := (List.getElem?_eq_some_iff.mp hpj).1; rw [List.length_take] at this; omega
              rw [List.getElem?_take_of_lt hj1] at hpj
              have a1 : (kvf.map (·.1))[j]? = some (iK x) := by rw [List.getElem?_map, hpj]; exact congrArg some epj
              have a2 : (kvf.map (·.1))[i]? = some (iK x) := by rw [List.getElem?_map, hk1]; rfl
              have := (List.getElem?_inj (by have := (List.getElem?_eq_some_iff.mp a1).1; exact this) nd).mp (a1.trans a2.symm)
              omega
            have yn : y ∉ us := fun hy => by
              obtain ⟨_, z, h2, h3⟩ := uin y hy
              have : z = x := final_inj Lg h3 hc
              rw [this] at h2
              exact xn h2
            refine (ev_dget (ev_var rfl) (ev_var rfl) g) _ ?_
            refine ⟨_, hb2, (by rw [List.length_map]; exact small1000 (by omega)), _, rs ++ [c], us ++ [y], rfl, same_at s2 nbe, ?_, ?_, ?_, ?_, ?_⟩
            · rw [upd_same, List.map_append]; rfl
            · have up : ∀ b' ys, H2 b' = some (.tup ys) → upd H2 be (.lst (rs.map V.ref ++ [.ref c])) b' = some (.tup ys) := fun b' ys eb => by rw [upd_ne (ne_of eb hb2 (by intro z; cases z))]; exact eb
              exact tups_app (Paired.mapP hrs fun _ _ z => up _ _ z) (.cons (up _ _ (s2 _ _ h2')) .nil)
            · rw [List.length_append]; simp only [List.length_cons, List.length_nil]; omega
            · rw [List.nodup_append]
              exact ⟨und, by simp, fun u hu w hw e => yn (by rw [← List.mem_singleton.mp hw, ← e]; exact hu)⟩
            · intro w hw
              rcases List.mem_append.mp hw with h | h
              · exact keep w h
              · rw [List.mem_singleton.mp h]
                exact ⟨hFF.vl x y hc, x, (take_key hk1 x).mpr (.inr rfl), hc⟩
      · rintro τ H2 ⟨x0, rs, us, rfl, s2, hb2, hrs, hrl, und, uin⟩
        have ef2 := s2 _ _ ef
        refine ⟨ef2, ?_⟩
        have sB : Same H14 (upd H2 fo (.dT kvf)) := back s2
        have ebB : upd H2 fo (.dT kvf) be = some (.lst (rs.map V.ref)) := by rw [upd_ne bef]; exact hb2
        have hrB : Tups (upd H2 fo (.dT kvf)) rs us := Paired.mapP hrs fun _ _ eb => by rw [upd_ne (ne_of eb ef2 (by intro z; cases z))]; exact eb
        revert sB ebB hrB
        generalize upd H2 fo (.dT kvf) = HB
        intro sB ebB hrB
        have lus : rs.length = us.length := Paired.length hrB
        have us18 : us.length ≤ 18 := by have := hFF.len; rw [← lus]; have : rs.length ≤ kvf.length := hrl; omega
        dsimp only
        refine ⟨_, rfl, be, rs, us, rfl, SqL.of ebB, hrB, us18, nodup_hash n10 (fun y hy => (uin y hy).1) und, fun S nS => ⟨S, us.length, rfl, upd_same, by omega, ?_⟩⟩
        have sS : Same HB (upd HB S (stO S us.length)) := (Same.refl HB).upd nS
        revert sS
        generalize upd HB S (stO S us.length) = HS
        intro sS
        refine ⟨_, rfl, _, _, rfl, .inl ⟨_, SqL.of (sS _ _ ebB), rfl⟩, rfl, _, rfl, ?_⟩
        rw [show (!decide (V.int (us.length : Nat) = V.int (((rs.map V.ref).length : Nat) : Int))) = false by rw [List.length_map, lus]; simp]
        refine iteF ?_
        have S15 := sB.trans sS
        have hF15 := hF.same S15
        refine te_cal (ea_cons (ev_var rfl) ea_nil) ⟨fo, n, kvf, tT C row s0 (row.length - 1), rfl, S15 _ _ efo, hF15, (by have := hF15.len; omega), fun H16 s16 k1 hk1 => ?_⟩
        refine te_cal (ea_cons (ev_var rfl) ea_nil) ⟨cm, n, kvc, C, rfl, s16 _ _ (S15 _ _ ecm14), hC14.same (S15.trans s16), (by have := hC14.len; omega), fun H17 s17 k2 hk2 => ?_⟩
        have k12 : k1 = k2 + 1 := by
          have nd := hs.nd.sublist (List.filter_sublist (p := fun x => decide (C x = some none)))
          have mem : ∀ x, x ∈ sps.filter (fun x => decide (C x = some none)) ↔ C x = some none := fun x => by
            rw [List.mem_filter, decide_eq_true_iff]
            exact ⟨fun h => h.2, fun h => ⟨hLie.mem x (by rw [h]; rfl), h⟩⟩
          have e2 := hk2 _ nd mem
          have e1 := hk1 (s0 :: sps.filter (fun x => decide (C x = some none))) (List.nodup_cons.mpr ⟨(fun h => by have := (mem s0).mp h; rw [Lg.c0] at this; cases this), nd⟩) (fun x => by
            rw [List.mem_cons, mem]
            exact (final_none Lg x).symm)
          rw [e1, e2]
          rfl
        refine ⟨_, 1, rfl, rfl, rfl, _, rfl, ?_⟩
        rw [show (!decide (V.int (k1 : Nat) = V.int ((k2 : Nat) + 1 : Int))) = false by rw [k12]; simp]
        refine iteF ?_
        have S17 := (S15.trans s16).trans s17
        have efo' := S17 _ _ efo
        have edu' := S17 _ _ edu14
        have ecm' := S17 _ _ ecm14
        have erw' := S17 _ _ hrw14
        have e1' := S17 _ _ eh1'
        have e2' := S17 _ _ eh2'
        have ehd' := S17 _ _ ehd
        have hF' := hF.same S17
        have hD' := hD14.same S17
        have hC' := hC14.same S17
        have ht' := ht14.same S17
        have n1 : cm ≠ h1 := ne_of_none ecm10 nh1
        have n2 : du ≠ h1 := ne_of_none edu nh1
        have n3 : fo ≠ h1 := fun z => by rw [z, eh1] at nfo; cases nfo
        have n4 : rw ≠ h2 := ne_of_none (s11 _ _ hrw10) nh2
        have n5 : hd ≠ h2 := fun z => by rw [z, e12] at nhd; cases nhd
        have n6 : fo ≠ h2 := fun z => by rw [z, eh2] at nfo; cases nfo
        have p0 : 0 < ms.length := by have := Paired.length htr; rw [List.length_map] at this; rw [this]; exact Lg.pos
        dsimp only [tNext]
        refine (ev_ixL (v := .ref h1) (ev_var rfl) ev_c (SqL.of ehd') (atI_nat (j := 0) rfl)) _ ⟨.inr (.inr (.inl ⟨rfl, .inr ⟨_, e1'⟩⟩)), h1, kvc, rfl, rfl, e1', ?_⟩
        have tk : ∀ b ys, H17 b = some (.tup ys) → upd H17 h1 (.dT []) b = some (.tup ys) := fun b ys eb => by rw [upd_ne (ne_of eb e1' (by intro z; cases z))]; exact eb
        have f1 : upd H17 h1 (.dT []) fo = some (.dT kvf) := by rw [upd_ne n3]; exact efo'
        have f2 : upd H17 h1 (.dT []) du = some (.dT kvd) := by rw [upd_ne n2]; exact edu'
        have f3 : upd H17 h1 (.dT []) cm = some (.dT kvc) := by rw [upd_ne n1]; exact ecm'
        have f4 : upd H17 h1 (.dT []) rw = some (.lst (ms.map V.ref)) := by rw [upd_ne (ne_of erw' e1' (by intro z; cases z))]; exact erw'
        have f5 : upd H17 h1 (.dT []) h2 = some (.lst (ms.map V.ref)) := by rw [upd_ne (ne_of e2' e1' (by intro z; cases z))]; exact e2'
        have f6 : upd H17 h1 (.dT []) hd = some (.lst [.ref h1, .ref h2]) := by rw [upd_ne (ne_of ehd' e1' (by intro z; cases z))]; exact ehd'
        have hF2 := hF'.tups tk
        have hD2 := hD'.tups tk
        have hC2 := hC'.tups tk
        have ht2 : Tups (upd H17 h1 (.dT [])) ms (row.map mkI) := Paired.mapP ht' fun _ _ z => tk _ _ z
        revert f1 f2 f3 f4 f5 f6 hF2 hD2 hC2 ht2
        generalize upd H17 h1 (.dT []) = H18
        intro f1 f2 f3 f4 f5 f6 hF2 hD2 hC2 ht2
        dsimp only
        refine (ev_ixL (v := .ref h2) (ev_var rfl) ev_c (SqL.of f6) (atI_nat (j := 1) rfl)) _ ⟨.inl ⟨rfl, _, SqL.of f5⟩, (ea_cons (ev_ixL (v := .ref ms[0]) (ev_var rfl) ev_c (SqL.of f4) (atI_nat (j := 0) (by simp [p0]))) ea_nil) _ ⟨h2, _, _, rfl, rfl, f5, (by rw [List.length_map]; have := Paired.length htr; rw [List.length_map] at this; exact small1000 (by omega)), ?_⟩⟩
        have tk2 : ∀ b ys, H18 b = some (.tup ys) → upd H18 h2 (.lst (ms.map V.ref ++ [.ref ms[0]])) b = some (.tup ys) := fun b ys eb => by rw [upd_ne (ne_of eb f5 (by intro z; cases z))]; exact eb
        have g1 : upd H18 h2 (.lst (ms.map V.ref ++ [.ref ms[0]])) fo = some (.dT kvf) := by rw [upd_ne n6]; exact f1
        have g2 : upd H18 h2 (.lst (ms.map V.ref ++ [.ref ms[0]])) du = some (.dT kvd) := by rw [upd_ne (ne_of f2 f5 (by intro z; cases z))]; exact f2
        have g3 : upd H18 h2 (.lst (ms.map V.ref ++ [.ref ms[0]])) cm = some (.dT kvc) := by rw [upd_ne (ne_of f3 f5 (by intro z; cases z))]; exact f3
        have g4 : upd H18 h2 (.lst (ms.map V.ref ++ [.ref ms[0]])) rw = some (.lst (ms.map V.ref)) := by rw [upd_ne n4]; exact f4
        have hF3 := hF2.tups tk2
        have hD3 := hD2.tups tk2
        have hC3 := hC2.tups tk2
        have ht3 : Tups (upd H18 h2 (.lst (ms.map V.ref ++ [.ref ms[0]]))) ms (row.map mkI) := Paired.mapP ht2 fun _ _ z => tk2 _ _ z
        revert g1 g2 g3 g4 hF3 hD3 hC3 ht3
        generalize upd H18 h2 (.lst (ms.map V.ref ++ [.ref ms[0]])) = H19
        intro g1 g2 g3 g4 hF3 hD3 hC3 ht3
        refine ⟨_, rfl, _, rfl, fo, du, rfl, rfl, cm_smd (.inl g1) (.inl g2) hF3 hD3, true, rfl, ?_⟩
        rw [if_pos rfl]
        exact te_cal (ea_cons (ev_var rfl) (ea_cons (ev_var rfl) ea_nil)) ⟨cm, rw, n, kvc, C, ms, row, s0, rfl, n10, g3, hC3, ⟨g4, ht3, hz, h3⟩, hsp, Lg, fun r2 H20 kv2 s20 nr2 er2 hR2 => ⟨_, rfl, r2, du, rfl, rfl, cm_smd (.inl er2) (.inl (s20 _ _ g2)) hR2 (hD3.same s20), q _⟩⟩
end
theorem all_mk {l : PySem.W.OpenLaw} {w : World} {K : PySem.W.Frag} {h : Heap} {mg : Str → Option Value} {fa : Addr} (X : K.In h) (G : h.Ns mainGlobals mg) (hfa : mg "law" = some (.ref fa))
    {f0 : Addr} {od0 an0 : Option Addr} {sl0 : Array (Option Value)} {oc0 kV0 dc0 pm0 cd0 ct0 : Value}
    {f1 : Addr} {od1 an1 : Option Addr} {sl1 : Array (Option Value)} {oc1 kV1 dc1 pm1 cd1 ct1 : Value}
    {f2 : Addr} {od2 an2 : Option Addr} {sl2 : Array (Option Value)} {oc2 kV2 dc2 pm2 cd2 ct2 : Value}
    {f3 : Addr} {od3 an3 : Option Addr} {sl3 : Array (Option Value)} {oc3 kV3 dc3 pm3 cd3 ct3 : Value}
    {f4 : Addr} {od4 an4 : Option Addr} {sl4 : Array (Option Value)} {oc4 kV4 dc4 pm4 cd4 ct4 : Value}
    {f5 : Addr} {od5 an5 : Option Addr} {sl5 : Array (Option Value)} {oc5 kV5 dc5 pm5 cd5 ct5 : Value}
    {f6 : Addr} {od6 an6 : Option Addr} {sl6 : Array (Option Value)} {oc6 kV6 dc6 pm6 cd6 ct6 : Value}
    {f7 : Addr} {od7 an7 : Option Addr} {sl7 : Array (Option Value)} {oc7 kV7 dc7 pm7 cd7 ct7 : Value}
    {f8 : Addr} {od8 an8 : Option Addr} {sl8 : Array (Option Value)} {oc8 kV8 dc8 pm8 cd8 ct8 : Value}
    {f9 : Addr} {od9 an9 : Option Addr} {sl9 : Array (Option Value)} {oc9 kV9 dc9 pm9 cd9 ct9 : Value}
    {f10 : Addr} {od10 an10 : Option Addr} {sl10 : Array (Option Value)} {oc10 kV10 dc10 pm10 cd10 ct10 : Value}
    {f11 : Addr} {od11 an11 : Option Addr} {sl11 : Array (Option Value)} {oc11 kV11 dc11 pm11 cd11 ct11 : Value}
    (a0 : PySem.W.nsIn K mainGlobals "_law_cell_at" = some (some (.ref f0)))
    (l0 : K.lookup f0 = some ⟨oc0, od0, .func (PySem.W.fnOf "_law_cell_at" "_law_cell_at" (defArgs sCell) (defBody sCell) (defScope sCell) .none kV0 dc0 pm0 an0 cd0 ct0), sl0⟩)
    (c0 : PySem.W.codeIn K cd0 "_law_cell_at" = true)
    (k0 : PySem.W.keepIn K (.ref f0) = true)
    (a1 : PySem.W.nsIn K mainGlobals "_law_mix" = some (some (.ref f1)))
    (l1 : K.lookup f1 = some ⟨oc1, od1, .func (PySem.W.fnOf "_law_mix" "_law_mix" (defArgs sMix) (defBody sMix) (defScope sMix) .none kV1 dc1 pm1 an1 cd1 ct1), sl1⟩)
    (c1 : PySem.W.codeIn K cd1 "_law_mix" = true)
    (k1 : PySem.W.keepIn K (.ref f1) = true)
    (a2 : PySem.W.nsIn K mainGlobals "_law_links" = some (some (.ref f2)))
    (l2 : K.lookup f2 = some ⟨oc2, od2, .func (PySem.W.fnOf "_law_links" "_law_links" (defArgs sLinks) (defBody sLinks) (defScope sLinks) .none kV2 dc2 pm2 an2 cd2 ct2), sl2⟩)
    (c2 : PySem.W.codeIn K cd2 "_law_links" = true)
    (k2 : PySem.W.keepIn K (.ref f2) = true)
    (a3 : PySem.W.nsIn K mainGlobals "_law_lying" = some (some (.ref f3)))
    (l3 : K.lookup f3 = some ⟨oc3, od3, .func (PySem.W.fnOf "_law_lying" "_law_lying" (defArgs sLying) (defBody sLying) (defScope sLying) .none kV3 dc3 pm3 an3 cd3 ct3), sl3⟩)
    (c3 : PySem.W.codeIn K cd3 "_law_lying" = true)
    (k3 : PySem.W.keepIn K (.ref f3) = true)
    (a4 : PySem.W.nsIn K mainGlobals "_law_led" = some (some (.ref f4)))
    (l4 : K.lookup f4 = some ⟨oc4, od4, .func (PySem.W.fnOf "_law_led" "_law_led" (defArgs sLed) (defBody sLed) (defScope sLed) .none kV4 dc4 pm4 an4 cd4 ct4), sl4⟩)
    (c4 : PySem.W.codeIn K cd4 "_law_led" = true)
    (k4 : PySem.W.keepIn K (.ref f4) = true)
    (a5 : PySem.W.nsIn K mainGlobals "_law_row" = some (some (.ref f5)))
    (l5 : K.lookup f5 = some ⟨oc5, od5, .func (PySem.W.fnOf "_law_row" "_law_row" (defArgs sRow) (defBody sRow) (defScope sRow) .none kV5 dc5 pm5 an5 cd5 ct5), sl5⟩)
    (c5 : PySem.W.codeIn K cd5 "_law_row" = true)
    (k5 : PySem.W.keepIn K (.ref f5) = true)
    (a6 : PySem.W.nsIn K mainGlobals "_law_due" = some (some (.ref f6)))
    (l6 : K.lookup f6 = some ⟨oc6, od6, .func (PySem.W.fnOf "_law_due" "_law_due" (defArgs sDue) (defBody sDue) (defScope sDue) .none kV6 dc6 pm6 an6 cd6 ct6), sl6⟩)
    (c6 : PySem.W.codeIn K cd6 "_law_due" = true)
    (k6 : PySem.W.keepIn K (.ref f6) = true)
    (a7 : PySem.W.nsIn K mainGlobals "_law_firsts" = some (some (.ref f7)))
    (l7 : K.lookup f7 = some ⟨oc7, od7, .func (PySem.W.fnOf "_law_firsts" "_law_firsts" (defArgs sFirst) (defBody sFirst) (defScope sFirst) .none kV7 dc7 pm7 an7 cd7 ct7), sl7⟩)
    (c7 : PySem.W.codeIn K cd7 "_law_firsts" = true)
    (k7 : PySem.W.keepIn K (.ref f7) = true)
    (a8 : PySem.W.nsIn K mainGlobals "spot_of_mark" = some (some (.ref f8)))
    (l8 : K.lookup f8 = some ⟨oc8, od8, .func (PySem.W.fnOf "spot_of_mark" "spot_of_mark" (defArgs sSpotOf) (defBody sSpotOf) (defScope sSpotOf) .none kV8 dc8 pm8 an8 cd8 ct8), sl8⟩)
    (c8 : PySem.W.codeIn K cd8 "spot_of_mark" = true)
    (k8 : PySem.W.keepIn K (.ref f8) = true)
    (a9 : PySem.W.nsIn K mainGlobals "is_door" = some (some (.ref f9)))
    (l9 : K.lookup f9 = some ⟨oc9, od9, .func (PySem.W.fnOf "is_door" "is_door" (defArgs sDoor) (defBody sDoor) (defScope sDoor) .none kV9 dc9 pm9 an9 cd9 ct9), sl9⟩)
    (c9 : PySem.W.codeIn K cd9 "is_door" = true)
    (k9 : PySem.W.keepIn K (.ref f9) = true)
    (a10 : PySem.W.nsIn K mainGlobals "rerouted" = some (some (.ref f10)))
    (l10 : K.lookup f10 = some ⟨oc10, od10, .func (PySem.W.fnOf "rerouted" "rerouted" (defArgs sRr) (defBody sRr) (defScope sRr) .none kV10 dc10 pm10 an10 cd10 ct10), sl10⟩)
    (c10 : PySem.W.codeIn K cd10 "rerouted" = true)
    (k10 : PySem.W.keepIn K (.ref f10) = true)
    (a11 : PySem.W.nsIn K mainGlobals "law" = some (some (.ref f11)))
    (l11 : K.lookup f11 = some ⟨oc11, od11, .func (PySem.W.fnOf "law" "law" (defArgs slaw) (defBody slaw) (defScope slaw) .none kV11 dc11 pm11 an11 cd11 ct11), sl11⟩)
    (c11 : PySem.W.codeIn K cd11 "law" = true)
    (k11 : PySem.W.keepIn K (.ref f11) = true)
    (z_len : PySem.W.nsIn K mainGlobals "len" = some none)
    (z_range : PySem.W.nsIn K mainGlobals "range" = some none)
    (z_isinstance : PySem.W.nsIn K mainGlobals "isinstance" = some none)
    (z_dict : PySem.W.nsIn K mainGlobals "dict" = some none)
    (z_list : PySem.W.nsIn K mainGlobals "list" = some none)
    (z_set : PySem.W.nsIn K mainGlobals "set" = some none)
    (z_zip : PySem.W.nsIn K mainGlobals "zip" = some none)
    (dd : PySem.W.kitOne K (.type "dict") (.type "dict") = some true)
    : ∃ fd : FuncData, (∀ (s : Shared) (v : Value), BindsTo s fd ⟨[v], []⟩ [("script", v)]) ∧ ∀ base : Heap, K.In base → base.Ns mainGlobals mg → FnOk l.prog w K mg base CX0 3 fa fd ["script"] (spLaw K) := by
  have e := hfa.symm.trans (PySem.W.mg_of X G a11)
  cases e
  have T : Txt K mg := ⟨PySem.W.mg_none_of X G z_len, PySem.W.mg_none_of X G z_range, PySem.W.mg_none_of X G z_isinstance, PySem.W.mg_none_of X G z_dict, PySem.W.mg_none_of X G z_list, PySem.W.mg_none_of X G z_set, PySem.W.mg_none_of X G z_zip, dd⟩
  have F0 := fun_mk (st := sCell) l0 c0 k0
  have b0 := F0.binds (ps := ["script", "k"]) fun _ _ _ _ _ _ us hl => match us, hl with | [_, _], _ => rfl
  have F1 := fun_mk (st := sMix) l1 c1 k1
  have b1 := F1.binds (ps := ["cell", "k", "prime"]) fun _ _ _ _ _ _ us hl => match us, hl with | [_, _, _], _ => rfl
  have F2 := fun_mk (st := sLinks) l2 c2 k2
  have b2 := F2.binds (ps := ["script", "spots"]) fun _ _ _ _ _ _ us hl => match us, hl with | [_, _], _ => rfl
  have F3 := fun_mk (st := sLying) l3 c3 k3
  have b3 := F3.binds (ps := ["script", "spots", "links"]) fun _ _ _ _ _ _ us hl => match us, hl with | [_, _, _], _ => rfl
  have F4 := fun_mk (st := sLed) l4 c4 k4
  have b4 := F4.binds (ps := ["links", "comes", "mark"]) fun _ _ _ _ _ _ us hl => match us, hl with | [_, _, _], _ => rfl
  have F5 := fun_mk (st := sRow) l5 c5 k5
  have b5 := F5.binds (ps := ["script", "spots", "links", "comes"]) fun _ _ _ _ _ _ us hl => match us, hl with | [_, _, _, _], _ => rfl
  have F6 := fun_mk (st := sDue) l6 c6 k6
  have b6 := F6.binds (ps := ["comes", "row"]) fun _ _ _ _ _ _ us hl => match us, hl with | [_, _], _ => rfl
  have F7 := fun_mk (st := sFirst) l7 c7 k7
  have b7 := F7.binds (ps := ["comes"]) fun _ _ _ _ _ _ us hl => match us, hl with | [_], _ => rfl
  have F8 := fun_mk (st := sSpotOf) l8 c8 k8
  have b8 := F8.binds (ps := ["mark"]) fun _ _ _ _ _ _ us hl => match us, hl with | [_], _ => rfl
  have F9 := fun_mk (st := sDoor) l9 c9 k9
  have b9 := F9.binds (ps := ["mark"]) fun _ _ _ _ _ _ us hl => match us, hl with | [_], _ => rfl
  have F10 := fun_mk (st := sRr) l10 c10 k10
  have b10 := F10.binds (ps := ["comes", "marks"]) fun _ _ _ _ _ _ us hl => match us, hl with | [_, _], _ => rfl
  have F11 := fun_mk (st := slaw) l11 c11 k11
  refine ⟨PySem.W.fnOf "law" "law" (defArgs slaw) (defBody slaw) (defScope slaw) .none kV11 dc11 pm11 an11 cd11 ct11, fun s v => .of_eq rfl, fun base hB _ => ?_⟩
  have gCell : Callee l.prog w K mg base "_law_cell_at" 1 ["script", "k"] (spCell K) := ⟨f0, _, ok_Cell F0 T, PySem.W.mg_of X G a0, k0, b0⟩
  have gMix : Callee l.prog w K mg base "_law_mix" 1 ["cell", "k", "prime"] spMix := ⟨f1, _, ok_Mix F1 T, PySem.W.mg_of X G a1, k1, b1⟩
  have gLinks : Callee l.prog w K mg base "_law_links" 2 ["script", "spots"] (spLinks K) := ⟨f2, _, ok_Links F2 T gMix, PySem.W.mg_of X G a2, k2, b2⟩
  have gLying : Callee l.prog w K mg base "_law_lying" 2 ["script", "spots", "links"] (spLying K) := ⟨f3, _, ok_Lying F3 T gCell, PySem.W.mg_of X G a3, k3, b3⟩
  have gLed : Callee l.prog w K mg base "_law_led" 1 ["links", "comes", "mark"] (spLed K) := ⟨f4, _, ok_Led F4 T, PySem.W.mg_of X G a4, k4, b4⟩
  have gRow : Callee l.prog w K mg base "_law_row" 2 ["script", "spots", "links", "comes"] (spRow K) := ⟨f5, _, ok_Row F5 T gCell gMix gLed, PySem.W.mg_of X G a5, k5, b5⟩
  have gDue : Callee l.prog w K mg base "_law_due" 1 ["comes", "row"] (spDue K) := ⟨f6, _, ok_Due F6 T, PySem.W.mg_of X G a6, k6, b6⟩
  have gFirst : Callee l.prog w K mg base "_law_firsts" 1 ["comes"] (spFirst K) := ⟨f7, _, ok_First F7 T, PySem.W.mg_of X G a7, k7, b7⟩
  have gSpotOf : Callee l.prog w K mg base "spot_of_mark" 1 ["mark"] spSpotOf := ⟨f8, _, ok_SpotOf F8 T, PySem.W.mg_of X G a8, k8, b8⟩
  have gDoor : Callee l.prog w K mg base "is_door" 1 ["mark"] spDoor := ⟨f9, _, ok_Door F9 T, PySem.W.mg_of X G a9, k9, b9⟩
  have gRr : Callee l.prog w K mg base "rerouted" 2 ["comes", "marks"] (spRr K) := ⟨f10, _, ok_Rr F10 T gSpotOf gDoor, PySem.W.mg_of X G a10, k10, b10⟩
  exact ok_law F11 T gCell gLinks gLying gRow gDue gFirst gRr
theorem walk {l : PySem.W.OpenLaw} {q : Program} {loose : List Str} {XP : (Str → Option Value) → Heap → Prop} {YP : World → Heap → Prop} {d : DefRec} {K : Params → PySem.W.Frag} (hn : l.most = some 63) (hdf : d.params.defaults = [])
    (hY : ∀ (w : World) (h : Heap), YP w h → (K w.params).In h)
    (F : ∀ (w : World) (mg : Str → Option Value) (fa : Addr) (h : Heap), (K w.params).In h → h.Ns mainGlobals mg → mg d.name = some (.ref fa) →
      ∃ fd : FuncData, (∀ (s : Shared) (u : Value), BindsTo s fd ⟨[u], []⟩ [("script", u)]) ∧ ∀ base : Heap, (K w.params).In base → base.Ns mainGlobals mg → FnOk l.prog w (K w.params) mg base CX0 3 fa fd ["script"] (spLaw (K w.params))) :
    PySem.W.WalkO q loose XP YP l.row.toRowW d [] (fun f vs => PySem.call f vs) :=
  L2.walk_of (n := 63) (k := 3) (x := "script") (CX := fun _ => CX0) (sp := fun w => spLaw (K w.params)) hn (by decide) hdf ⟨rfl, by decide, by decide, rfl⟩ hY F (fun _ _ a ns hl _ hS => ⟨a, ns, rfl, hS, hl, fun _ => rfl⟩) fun _ _ _ _ _ z => z
end K33
open PySem PySem.W PyProof.Rows
set_option maxRecDepth 100000 in
set_option maxHeartbeats 0 in
theorem PySem.Challenge.cw_wirefloor_k33_ways_turned_holds : PySem.Challenge.rw_wirefloor_k33_ways_turned.Holds := by
  w_on; o_law; k_head; (case hw => w_witness2)
  k_fill
  refine K33.walk (l := PySem.Challenge.rw_wirefloor_k33_ways_turned) rfl rfl (fun w h Y => PySem.W.kIn_of Y) ?F
  case F =>
    intro w mg fa h KX G hmg
    refine' K33.all_mk KX G hmg ?a0 ?l0 ?c0 ?k0 ?a1 ?l1 ?c1 ?k1 ?a2 ?l2 ?c2 ?k2 ?a3 ?l3 ?c3 ?k3 ?a4 ?l4 ?c4 ?k4 ?a5 ?l5 ?c5 ?k5 ?a6 ?l6 ?c6 ?k6 ?a7 ?l7 ?c7 ?k7 ?a8 ?l8 ?c8 ?k8 ?a9 ?l9 ?c9 ?k9 ?a10 ?l10 ?c10 ?k10 ?a11 ?l11 ?c11 ?k11 ?z_len ?z_range ?z_isinstance ?z_dict ?z_list ?z_set ?z_zip ?dd
    (case a0 => k_is)
    (case l0 => k_is)
    (case c0 => k_is)
    (case k0 => k_is)
    (case a1 => k_is)
    (case l1 => k_is)
    (case c1 => k_is)
    (case k1 => k_is)
    (case a2 => k_is)
    (case l2 => k_is)
    (case c2 => k_is)
    (case k2 => k_is)
    (case a3 => k_is)
    (case l3 => k_is)
    (case c3 => k_is)
    (case k3 => k_is)
    (case a4 => k_is)
    (case l4 => k_is)
    (case c4 => k_is)
    (case k4 => k_is)
    (case a5 => k_is)
    (case l5 => k_is)
    (case c5 => k_is)
    (case k5 => k_is)
    (case a6 => k_is)
    (case l6 => k_is)
    (case c6 => k_is)
    (case k6 => k_is)
    (case a7 => k_is)
    (case l7 => k_is)
    (case c7 => k_is)
    (case k7 => k_is)
    (case a8 => k_is)
    (case l8 => k_is)
    (case c8 => k_is)
    (case k8 => k_is)
    (case a9 => k_is)
    (case l9 => k_is)
    (case c9 => k_is)
    (case k9 => k_is)
    (case a10 => k_is)
    (case l10 => k_is)
    (case c10 => k_is)
    (case k10 => k_is)
    (case a11 => k_is)
    (case l11 => k_is)
    (case c11 => k_is)
    (case k11 => k_is)
    (case z_len => k_is)
    (case z_range => k_is)
    (case z_isinstance => k_is)
    (case z_dict => k_is)
    (case z_list => k_is)
    (case z_set => k_is)
    (case z_zip => k_is)
    (case dd => kit_is)
