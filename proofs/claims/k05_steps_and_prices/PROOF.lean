import PyProof.Rows.All
import Wide.All
import OpenK.AllK
import Wide.FinOn
import Lean
import PyProof.EqAt
import PyProof.EqKinds
import PyProof.TupleCall
import OpenK.KRaise
import OpenK.KOwn
import KE.KTryMore
import KE.RegKTryMore
import PyProof.ExcArgsOwn
import KE.KIntText
import KE.KSortTup
import KE.KDictOf
import KE.KRevIter
import KE.KEqDict
import PyProof.Rows.SetFrom
import PyProof.TupleKey
import PyProof.Rows.SetObj
import PyProof.SetRoads
import PyProof.IsiH_list
import PyProof.ZipIter
import PyProof.Rows.TupIter
import PyProof.DictValues
import PyProof.DictWalks
import KE.KDictSum
import KE.KNest
import KE.KLam
import KE.KNestM
import KE.KDictList
import KE.KDictLaws
import PySem.Challenge.RW_wirefloor_k05_steps_and_prices
set_option Elab.async false
set_option linter.all false
set_option maxRecDepth 100000
namespace L2
open PySem PySem.Spec PyProof.Rows
abbrev Key := Sum Int Str
def keyIs : Key → Value → Bool
  | .inl k, v => Value.isInt k v
  | .inr x, v => Value.isStrOf x v
def keyH (w : World) : Key → Int
  | .inl k => hashInt k
  | .inr x => hashStr w x
theorem keyIs_shape : ∀ {k : Key} {v : Value}, keyIs k v = true → (∃ i t, k = Sum.inl i ∧ v = Value.int i t) ∨ (∃ x t, k = Sum.inr x ∧ v = Value.str x t)
  | .inl i, v, h => by
    obtain ⟨t, e⟩ := Value.isInt_shape (k := i) (v := v) h
    exact .inl ⟨i, t, rfl, e⟩
  | .inr x, v, h => by
    obtain ⟨t, e⟩ := Value.isStrOf_shape (x := x) (v := v) h
    exact .inr ⟨x, t, rfl, e⟩
theorem keyIs_int (i : Int) (t : Tok) : keyIs (.inl i) (.int i t) = true := by simp [keyIs, Value.isInt]
theorem keyIs_str (x : Str) (t : Tok) : keyIs (.inr x) (.str x t) = true := by simp [keyIs, Value.isStrOf]
theorem key_ll (a b : Int) : decide ((Sum.inl a : Key) = Sum.inl b) = (a == b) := by
  by_cases e : a = b
  · subst e; simp
  · have h : ¬ (Sum.inl a : Key) = Sum.inl b := fun q => e (Sum.inl.inj q)
    rw [decide_eq_false h]
    exact (beq_eq_false_iff_ne.mpr e).symm
theorem key_rr (a b : Str) : decide ((Sum.inr a : Key) = Sum.inr b) = decide (a = b) := by
  by_cases e : a = b
  · subst e; simp
  · have h : ¬ (Sum.inr a : Key) = Sum.inr b := fun q => e (Sum.inr.inj q)
    rw [decide_eq_false h, decide_eq_false e]
theorem key_lr (a : Int) (b : Str) : decide ((Sum.inl a : Key) = Sum.inr b) = false := decide_eq_false (fun q => nomatch q)
theorem key_rl (a : Str) (b : Int) : decide ((Sum.inr a : Key) = Sum.inl b) = false := decide_eq_false (fun q => nomatch q)
def mixKind (prog : Program) (w : World) : PySem.KeyKind prog w Key where
  is := keyIs
  hash := keyH w
  inj := fun v a b ha hb => by
    rcases keyIs_shape ha with ⟨i, t, rfl, rfl⟩ | ⟨x, t, rfl, rfl⟩
    · rcases keyIs_shape hb with ⟨j, u, rfl, e⟩ | ⟨y, u, rfl, e⟩
      · injection e with e1 _; rw [e1]
      · exact nomatch e
    · rcases keyIs_shape hb with ⟨j, u, rfl, e⟩ | ⟨y, u, rfl, e⟩
      · exact nomatch e
      · injection e with e1 _; rw [e1]
  byValue := fun k v h => by
    rcases keyIs_shape h with ⟨i, t, rfl, rfl⟩ | ⟨x, t, rfl, rfl⟩ <;> rfl
  pyHash := fun hv h => by
    rcases keyIs_shape hv with ⟨i, t, rfl, rfl⟩ | ⟨x, t, rfl, rfl⟩
    · exact wpAny_pyHash_int h
    · exact wpAny_pyHash_str h
  eqBool := fun hu hv h => by
    rcases keyIs_shape hu with ⟨i, t, rfl, rfl⟩ | ⟨x, t, rfl, rfl⟩
    · rcases keyIs_shape hv with ⟨j, u, rfl, rfl⟩ | ⟨y, u, rfl, rfl⟩
      · rw [key_ll] at h; exact wpAny_eqBool_int h
      · rw [key_lr] at h; exact SeqAt.EqAt.int_str i t y u _ _ _ _ h
    · rcases keyIs_shape hv with ⟨j, u, rfl, rfl⟩ | ⟨y, u, rfl, rfl⟩
      · rw [key_rl] at h; exact SeqAt.EqAt.str_int x t j u _ _ _ _ h
      · rw [key_rr] at h; exact wpAny_eqBool_str h
  «strs» := fun k x t v h => by
    rcases keyIs_shape h with ⟨i, u, rfl, e⟩ | ⟨y, u, rfl, e⟩
    · exact nomatch e
    · injection e with e1 _
      subst e1
      cases v <;> rfl
theorem mixKind_int (prog : Program) (w : World) (i : Int) (t : Tok) : (mixKind prog w).is (.inl i) (.int i t) = true := keyIs_int i t
theorem mixKind_str (prog : Program) (w : World) (x : Str) (t : Tok) : (mixKind prog w).is (.inr x) (.str x t) = true := keyIs_str x t
end L2
namespace L2
open PySem PySem.Spec PyProof.Rows
inductive V where
  | non | bl (b : Bool) | int (i : Int) | str (x : Str) | byt (b : Array UInt8) | flt (b : UInt64) | ref (a : Addr) | ty (n : String)
  deriving DecidableEq
def RelV : V → Value → Prop
  | .non, u => u = Value.none
  | .bl b, u => u = Value.bool b
  | .int i, u => ∃ t, u = Value.int i t
  | .str x, u => ∃ t, u = Value.str x t
  | .byt b, u => ∃ t, u = Value.bytes b t
  | .flt b, u => ∃ t, u = Value.float b t
  | .ref a, u => u = Value.ref a
  | .ty n, u => u = Value.type n
abbrev Vals : List V → List Value → Prop := Paired RelV
theorem Vals.length {xs : List V} {us : List Value} (r : Vals xs us) : xs.length = us.length := Paired.length r
theorem Vals.get : ∀ {xs : List V} {us : List Value} {i : Nat} {x : V}, Vals xs us → xs[i]? = some x → ∃ u, us[i]? = some u ∧ RelV x u
  | _, _, _, _, .nil, e => by simp at e
  | _, _, 0, _, .cons r _, e => by simp at e; subst e; exact ⟨_, rfl, r⟩
  | _, _, i + 1, x, .cons _ t, e => by
    obtain ⟨u, h1, h2⟩ := Vals.get (i := i) (x := x) t (by simpa using e)
    exact ⟨u, by simpa using h1, h2⟩
theorem Vals.append : ∀ {xs ys : List V} {us ws : List Value}, Vals xs us → Vals ys ws → Vals (xs ++ ys) (us ++ ws)
  | _, _, _, _, .nil, s => s
  | _, _, _, _, .cons r t, s => .cons r (Vals.append t s)
theorem Vals.take : ∀ {xs : List V} {us : List Value} (n : Nat), Vals xs us → Vals (xs.take n) (us.take n)
  | _, _, 0, _ => .nil
  | _, _, _ + 1, .nil => .nil
  | _, _, n + 1, .cons r t => .cons r (Vals.take n t)
theorem Vals.drop : ∀ {xs : List V} {us : List Value} (n : Nat), Vals xs us → Vals (xs.drop n) (us.drop n)
  | _, _, 0, r => r
  | _, _, _ + 1, .nil => .nil
  | _, _, n + 1, .cons _ t => Vals.drop n t
def RelO : Option V → Option Value → Prop
  | some v, some u => RelV v u
  | none, none => True
  | _, _ => False
def KV {κ : Type} : List (κ × V) → List (κ × Value) → Prop := Paired fun (p : κ × V) (q : κ × Value) => p.1 = q.1 ∧ RelV p.2 q.2
def kV : Key → V
  | .inl i => .int i
  | .inr x => .str x
inductive HO where
  | lst (xs : List V)
  | tup (xs : List V)
  | dK (kvs : List (Key × V)) | dT (kvs : List (List Key × V))
  | set (S : Int → Bool) (n : Nat)
  | ins (C dx : Addr) (fs : List (Str × V))
  | own (x : Addr)
  | xd (fs : List (Str × V))
  | met (f x : Addr)
  | rng (lo hi : Int)
  | frz (o : Obj) (u : HO)
  | tbl (ps : Array Value)
  | ext (φ : Heap → Prop)
abbrev Hp := Addr → Option HO
def upd (H : Hp) (a : Addr) (o : HO) : Hp := fun b => if b = a then some o else H b
theorem upd_same {H : Hp} {a : Addr} {o : HO} : upd H a o a = some o := by unfold upd; rw [if_pos rfl]
theorem upd_ne {H : Hp} {a b : Addr} {o : HO} (h : b ≠ a) : upd H a o b = H b := by unfold upd; rw [if_neg h]
theorem upd_upd {H : Hp} {a : Addr} {o u : HO} : upd (upd H a o) a u = upd H a u := by
  funext b; unfold upd; split <;> rfl
theorem ne_of {H : Hp} {a b : Addr} {o u : HO} (h : H a = some o) (h' : H b = some u) (d : o ≠ u) : a ≠ b := by
  intro e; subst e; rw [h] at h'; exact d (Option.some.inj h')
theorem ne_of_none {H : Hp} {a b : Addr} {o : HO} (h : H a = some o) (h' : H b = none) : a ≠ b := by
  intro e; subst e; rw [h] at h'; cases h'
section
variable (P : Program) (w : World)
def ObjOk (H : Hp) (h : Heap) (a : Addr) : HO → Prop
  | .lst xs => xs.length ≤ sizeLine ∧ ∃ (its : List Value) (n : Nat), Vals xs its ∧ h.get? a = some { cls := .type "list", data := .seq its.toArray n }
  | .tup xs => xs.length ≤ sizeLine ∧ ∃ its : List Value, Vals xs its ∧ IsTup h a its.toArray
  | .dK kvs => kvs.length ≤ sizeLine ∧ (a == sysModules) = false ∧ ∃ vs, KV kvs vs ∧ h.DictOf (mixKind P w) a vs
  | .dT kvs => kvs.length ≤ sizeLine ∧ (a == sysModules) = false ∧ ∃ xs : List (List Key × Addr × Value),
      Paired (fun (p : List Key × V) (q : List Key × Addr × Value) => p.1 = q.1 ∧ H q.2.1 = some (.tup (p.1.map kV)) ∧ RelV p.2 q.2.2) kvs xs ∧
      ∃ o es ep, h.get? a = some o ∧ o.ExactDict ∧ o.data = .dict es ep ∧ es.toList = xs.map (entryOfKey (tupleKind (mixKind P w))) ∧ (xs.map (·.1)).Nodup
  | .set S n => h.SetOf (intKind P w) a S n
  | .ins C dx fs => H dx = some (.own a) ∧ fs.length ≤ 1000 ∧ dx ≠ a ∧ h.get? a = some (PySem.W.instObj C dx) ∧
      ∃ mA, h.Ns1 dx mA ∧ (∀ f, RelO (fs.lookup f) (mA f)) ∧ PySem.Within mA (fs.map (·.1))
  | .own _ => ∃ o, h.get? a = some o
  | .xd fs => ∃ mA, h.Ns1 a mA ∧ ∀ f, RelO (fs.lookup f) (mA f)
  | .rng lo hi => ∃ t u v, h.get? a = some { cls := .type "range", data := .fields #[.int lo t, .int hi u, .int 1 v] }
  | .frz o u => h.get? a = some o ∧ ObjOk H h a u
  | .tbl ps => h.get? a = some { cls := .none, data := .fields ps }
  | .met f x => h.get? a = some (PySem.W.methodObj (.ref f) (.ref x))
  | .ext φ => φ h ∧ (∃ o, h.get? a = some o) ∧ ∀ h1 h2 : Heap, φ h1 → (∀ o, h1.get? a = some o → h2.get? a = some o) → φ h2
def HOk (H : Hp) (h : Heap) : Prop := ∀ a o, H a = some o → ObjOk P w H h a o
end
section
variable {P : Program} {w : World} {H H' : Hp} {h h' : Heap} {a : Addr} {o : HO}
theorem ObjOk.lt (x : ObjOk P w H h a o) : a < h.objs.size := by
  cases o with
  | lst xs => obtain ⟨_, _, _, _, e⟩ := x; exact Heap.lt_size e
  | tup xs => obtain ⟨_, _, _, p⟩ := x; exact p.lt
  | dK kvs => obtain ⟨_, _, _, _, o, _, _, e, _⟩ := x; exact Heap.lt_size e
  | dT kvs => obtain ⟨_, _, _, _, o, _, _, e, _⟩ := x; exact Heap.lt_size e
  | set S n => obtain ⟨o, _, _, _, e, _⟩ := x; exact Heap.lt_size e
  | ins C dx fs => obtain ⟨_, _, _, e, _⟩ := x; exact Heap.lt_size e
  | own y => obtain ⟨_, e⟩ := x; exact Heap.lt_size e
  | xd fs => obtain ⟨_, ⟨_, _, _, e, _⟩, _⟩ := x; exact Heap.lt_size e
  | rng lo hi => obtain ⟨_, _, _, e⟩ := x; exact Heap.lt_size e
  | frz ob u => obtain ⟨e, _⟩ := x; exact Heap.lt_size e
  | tbl ps => exact Heap.lt_size (show h.get? a = some _ from x)
  | met f y => exact Heap.lt_size (show h.get? a = some _ from x)
  | ext φ => obtain ⟨_, ⟨_, e⟩, _⟩ := x; exact Heap.lt_size e
theorem Paired.mapP {α β : Type} {F G : α → β → Prop} : ∀ {l₁ : List α} {l₂ : List β}, Paired F l₁ l₂ → (∀ a b, F a b → G a b) → Paired G l₁ l₂
  | _, _, .nil, _ => .nil
  | _, _, .cons r t, f => .cons (f _ _ r) (Paired.mapP t f)
theorem ObjOk.stay (x : ObjOk P w H h a o) (k : ∀ b u, (b = a ∨ H b = some (.own a)) → h.get? b = some u → h'.get? b = some u)
    (ho : ∀ b, H b = some (.own a) → H' b = some (.own a)) (ht : ∀ b xs, H b = some (.tup xs) → H' b = some (.tup xs)) : ObjOk P w H' h' a o := by
  induction o with
  | lst xs => obtain ⟨z, its, n, r, e⟩ := x; exact ⟨z, its, n, r, k _ _ (.inl rfl) e⟩
  | tup xs => obtain ⟨z, its, r, ob, e, c⟩ := x; exact ⟨z, its, r, ob, k _ _ (.inl rfl) e, c⟩
  | dK kvs => obtain ⟨z, y, vs, r, ob, es, ep, e, c⟩ := x; exact ⟨z, y, vs, r, ob, es, ep, k _ _ (.inl rfl) e, c⟩
  | dT kvs =>
    obtain ⟨z, y, xs, r, ob, es, ep, e, c⟩ := x
    exact ⟨z, y, xs, Paired.mapP r fun p q z => ⟨z.1, ht _ _ z.2.1, z.2.2⟩, ob, es, ep, k _ _ (.inl rfl) e, c⟩
  | set S n => obtain ⟨ob, es, ep, t, e, c⟩ := x; exact ⟨ob, es, ep, t, k _ _ (.inl rfl) e, c⟩
  | ins C dx fs =>
    obtain ⟨d, z, ne, e, mA, ⟨od, es, ep, e2, c⟩, r⟩ := x
    exact ⟨ho _ d, z, ne, k _ _ (.inl rfl) e, mA, ⟨od, es, ep, k _ _ (.inr d) e2, c⟩, r⟩
  | own y => obtain ⟨ob, e⟩ := x; exact ⟨ob, k _ _ (.inl rfl) e⟩
  | xd fs => obtain ⟨mA, ⟨od, es, ep, e, c⟩, r⟩ := x; exact ⟨mA, ⟨od, es, ep, k _ _ (.inl rfl) e, c⟩, r⟩
  | rng lo hi => obtain ⟨t, u, v, e⟩ := x; exact ⟨t, u, v, k _ _ (.inl rfl) e⟩
  | frz ob u ih => obtain ⟨e, q⟩ := x; exact ⟨k _ _ (.inl rfl) e, ih q⟩
  | tbl ps =>
    have e : h.get? a = some { cls := .none, data := .fields ps } := x
    show h'.get? a = some { cls := .none, data := .fields ps }
    exact k a _ (.inl rfl) e
  | met f y =>
    have e : h.get? a = some (PySem.W.methodObj (.ref f) (.ref y)) := x
    show h'.get? a = some (PySem.W.methodObj (.ref f) (.ref y))
    exact k a _ (.inl rfl) e
  | ext φ => obtain ⟨p, ⟨o, e⟩, st⟩ := x; exact ⟨st _ _ p fun o q => k _ _ (.inl rfl) q, ⟨o, k _ _ (.inl rfl) e⟩, st⟩
theorem HOk.lt (x : HOk P w H h) (e : H a = some o) : a < h.objs.size := (x a o e).lt
theorem HOk.fresh (x : HOk P w H h) (e : h.objs.size ≤ a) : H a = none := by
  cases q : H a with
  | none => rfl
  | some u => exact absurd (Nat.lt_of_lt_of_le (x.lt q) e) (Nat.lt_irrefl _)
theorem HOk.kept (x : HOk P w H h) (k : ∀ b u, h.get? b = some u → h'.get? b = some u) : HOk P w H h' := fun a o e =>
  (x a o e).stay (fun b u _ q => k b u q) (fun _ q => q) fun _ _ q => q
theorem HOk.laid (x : HOk P w H h) (k : ∀ b u, h.get? b = some u → h'.get? b = some u) (hp : h.objs.size ≤ a) (new : ObjOk P w (upd H a o) h' a o) : HOk P w (upd H a o) h' := fun b u e => by
  have hn := x.fresh hp
  by_cases hb : b = a
  · subst hb; rw [upd_same] at e; cases e; exact new
  · rw [upd_ne hb] at e
    exact (x b u e).stay (fun c v _ q => k c v q) (fun c q => by rw [upd_ne (ne_of_none q hn)]; exact q) fun c xs q => by rw [upd_ne (ne_of_none q hn)]; exact q
end
def Rd (H : Hp) (a : Addr) (u : HO) : Prop := H a = some u ∨ ∃ o, H a = some (.frz o u)
theorem Rd.ok {P : Program} {w : World} {H : Hp} {h : Heap} {a : Addr} {u : HO} (r : Rd H a u) (x : HOk P w H h) : ObjOk P w H h a u := by
  rcases r with r | ⟨o, r⟩
  · exact x a u r
  · obtain ⟨_, q⟩ := x a _ r
    exact q
def Mut : Option HO → Prop
  | some (.lst _) => True
  | some (.dK _) => True
  | some (.dT _) => True
  | some (.set _ _) => True
  | some (.ins _ _ _) => True
  | some (.ext _) => True
  | _ => False
section
variable {P : Program} {w : World} {H : Hp} {h h' : Heap} {x e : Addr} {o' : HO}
theorem HOk.write (ok : HOk P w H h) (mu : Mut (H x)) (he : e = x ∨ H e = some (.own x)) (k : ∀ b u, b ≠ e → h.get? b = some u → h'.get? b = some u) (heo : ∃ u, h'.get? e = some u)
    (new : ObjOk P w (upd H x o') h' x o') : HOk P w (upd H x o') h' := fun b u q => by
  have nown : ∀ c y, H c = some (.own y) → c ≠ x := fun c y r z => by subst z; rw [r] at mu; exact mu
  have ntup : ∀ c xs, H c = some (.tup xs) → c ≠ x := fun c xs r z => by subst z; rw [r] at mu; exact mu
  by_cases hb : b = x
  · subst hb; rw [upd_same] at q; cases q; exact new
  · rw [upd_ne hb] at q
    by_cases hbe : b = e
    · have q' : H b = some (.own x) := by
        rcases he with z | z
        · exact absurd (hbe.trans z) hb
        · rw [hbe]; exact z
      rw [q] at q'; cases q'
      obtain ⟨v, hv⟩ := heo
      exact ⟨v, by rw [hbe]; exact hv⟩
    · refine (ok b u q).stay (fun c v hc r => k c v ?_ r) (fun c r => by rw [upd_ne (nown c b r)]; exact r) fun c xs r => by rw [upd_ne (ntup c xs r)]; exact r
      rcases hc with rfl | hc
      · exact hbe
      · rintro rfl
        rcases he with z | z
        · exact nown c b hc z
        · rw [hc] at z; cases z; exact hb rfl
end
structure Un (fs ex : List Addr) (H H' : Hp) (h h' : Heap) : Prop where
  keep : ∀ b o, h.get? b = some o → H b = none → b ∉ fs → b ∉ ex → h'.get? b = some o
  slot : ∀ b o, h.get? b = some o → H b = none → b ∈ fs → b ∉ ex → ∃ sl, h'.get? b = some { o with slots := sl }
  free : ∀ b o, h.get? b = some o → H b = none → b ∉ ex → H' b = none
  there : ∀ b o, h.get? b = some o → b ∉ ex → ∃ o', h'.get? b = some o'
  tups : ∀ b xs, H b = some (.tup xs) → H' b = some (.tup xs)
  frzs : ∀ b o u, H b = some (.frz o u) → H' b = some (.frz o u)
  tbls : ∀ b ps, H b = some (.tbl ps) → ∃ more, H' b = some (.tbl (ps ++ more))
section
variable {fs fs' ex ex' : List Addr} {H H1 H2 : Hp} {h h1 h2 h' : Heap} {a x e : Addr} {o : HO}
theorem Un.any (u : Un fs ex H H1 h h1) {b : Addr} {ob : Obj} (q : h.get? b = some ob) (n : H b = none) (hx : b ∉ ex) : ∃ sl, h1.get? b = some { ob with slots := sl } := by
  by_cases hb : b ∈ fs
  · exact u.slot b ob q n hb hx
  · exact ⟨ob.slots, u.keep b ob q n hb hx⟩
theorem Un.kept (k : ∀ b u, h.get? b = some u → h'.get? b = some u) : Un fs ex H H h h' :=
  ⟨fun b ob q _ _ _ => k b ob q, fun b ob q _ _ _ => ⟨ob.slots, k b ob q⟩, fun _ _ _ n _ => n, fun b ob q _ => ⟨ob, k b ob q⟩, fun _ _ q => q, fun _ _ _ q => q, fun _ ps q => ⟨#[], by rw [q]; simp⟩⟩
theorem Un.refl : Un fs ex H H h h := Un.kept fun _ _ q => q
theorem Un.laid (k : ∀ b u, h.get? b = some u → h'.get? b = some u) (hp : h.objs.size ≤ a) (hn : H a = none) : Un fs ex H (upd H a o) h h' where
  keep := fun b u q _ _ _ => k b u q
  slot := fun b u q _ _ _ => ⟨u.slots, k b u q⟩
  free := fun b u q n _ => by rw [upd_ne (Nat.ne_of_lt (Nat.lt_of_lt_of_le (Heap.lt_size q) hp))]; exact n
  there := fun b u q _ => ⟨u, k b u q⟩
  tups := fun b xs q => by rw [upd_ne (ne_of_none q hn)]; exact q
  frzs := fun b u xs q => by rw [upd_ne (ne_of_none q hn)]; exact q
  tbls := fun b ps q => ⟨#[], by rw [upd_ne (ne_of_none q hn), q]; simp⟩
theorem Un.write (mu : Mut (H x)) (he : e = x ∨ H e = some (.own x)) (k : ∀ b u, b ≠ e → h.get? b = some u → h'.get? b = some u) (heo : ∃ u, h'.get? e = some u) : Un fs ex H (upd H x o) h h' := by
  have hx : ∀ b, H b = none → b ≠ x := fun b n z => by subst z; rw [n] at mu; exact mu
  have hb : ∀ b, H b = none → b ≠ e := fun b n z => by
    subst z
    rcases he with r | r
    · exact hx b n r
    · rw [n] at r; cases r
  have hm : ∀ b u, H b = some u → ¬ Mut (some u) → b ≠ x := fun b u q nm z => by subst z; rw [q] at mu; exact nm mu
  refine ⟨fun b u q n _ _ => k b u (hb b n) q, fun b u q n _ _ => ⟨u.slots, k b u (hb b n) q⟩, fun b u q n _ => by rw [upd_ne (hx b n)]; exact n, fun b u q _ => ?_,
    fun b xs q => by rw [upd_ne (hm b _ q fun z => z)]; exact q, fun b u xs q => by rw [upd_ne (hm b _ q fun z => z)]; exact q, fun b ps q => ⟨#[], by rw [upd_ne (hm b _ q fun z => z), q]; simp⟩⟩
  by_cases hbe : b = e
  · subst hbe; exact heo
  · exact ⟨u, k b u hbe q⟩
end
def trk (h : Heap) (H : Hp) : List Addr := (List.range h.objs.size).filter fun a => (H a).isSome
def hidT (h : Heap) (H : Hp) : Heap := PySem.W.hideAll h (trk h H)
theorem hidT_size (h : Heap) (H : Hp) : (hidT h H).objs.size = h.objs.size := PySem.W.hideAll_size _ _
theorem hidT_get {h : Heap} {H : Hp} {b : Addr} {o : Obj} (e : h.get? b = some o) (n : H b = none) : (hidT h H).get? b = some o :=
  PySem.W.hideAll_get _ e fun hm => by
    have q : (H b).isSome = true := (List.mem_filter.mp hm).2
    rw [n] at q; simp at q
theorem of_hidT {h : Heap} {H : Hp} {b : Addr} {o : Obj} (e : (hidT h H).get? b = some o) : h.get? b = some o ∧ H b = none := by
  have e' : h.get? b = some o := PySem.W.of_hideAll (trk h H) e
  refine ⟨e', ?_⟩
  cases q : H b with
  | none => rfl
  | some x =>
    have hm : b ∈ trk h H := List.mem_filter.mpr ⟨List.mem_range.mpr (Heap.lt_size e'), by simp [q]⟩
    have z : (hidT h H).get? b = none := PySem.W.hideAll_none (trk h H) hm
    rw [z] at e; cases e
def allNews (g h : Heap) (L : Addr) : List (Addr × Obj) := (List.range h.objs.size).filterMap fun a => if a = L ∨ (g.get? a).isSome = true then none else (h.get? a).map fun o => (a, o)
theorem mem_allNews {g h : Heap} {L a : Addr} {o : Obj} (h1 : a ≠ L) (h2 : g.get? a = none) (h3 : h.get? a = some o) : (a, o) ∈ allNews g h L :=
  List.mem_filterMap.mpr ⟨a, List.mem_range.mpr (Heap.lt_size h3), by simp [h1, h2, h3]⟩
theorem of_mem_allNews {g h : Heap} {L : Addr} {p : Addr × Obj} (hp : p ∈ allNews g h L) : p.1 ≠ L ∧ g.get? p.1 = none ∧ h.get? p.1 = some p.2 := by
  obtain ⟨b, _, e⟩ := List.mem_filterMap.mp hp
  split at e
  · cases e
  · rename_i hn
    cases q : h.get? b with
    | none => rw [q] at e; simp at e
    | some u =>
      rw [q] at e
      simp only [Option.map_some, Option.some.injEq] at e
      subst e
      refine ⟨fun z => hn (.inl z), ?_, q⟩
      show g.get? b = none
      cases r : g.get? b with
      | none => rfl
      | some v => exact (hn (.inr (by simp [r]))).elim
def rest (g h : Heap) (L d : Addr) : List (Addr × Obj) := (allNews g h L).filter fun p => decide (p.1 ≠ d)
theorem news_all {g h : Heap} {L : Addr} : News g L h (allNews g h L) := fun p hp => let ⟨a, b, c⟩ := of_mem_allNews hp; ⟨c, a, b⟩
end L2
namespace L2
open PySem PySem.Spec PyProof.Rows
structure Mod (K : PySem.W.Frag) (mg : Str → Option Value) (base : Heap) : Prop where
  kin : K.In base
  glob : base.Ns mainGlobals mg
  blt : ∃ mb, base.Ns builtinsNs mb ∧ ∀ x : Str, x ≠ "__name__" → mb x = bootBuiltins x
  nolimit : base.NoLimit
structure Cx where
  prog : Program
  w : World
  K : PySem.W.Frag
  mg : Str → Option Value
  base : Heap
  A : Around
  N : List Str
  s₀ : Shared
  H₀ : Hp
  env : Env
  outer : List Env
  stack : List Env
  ex : List Addr
  fn : Str → Bool
  calm : Bool
  pn : List (Addr × Obj)
  xe : Value → Shared → Prop
def frs (l : List Env) : List Addr := l.filterMap (·.frame)
abbrev Cx.fs (X : Cx) : List Addr := frs X.outer
def Vis (sc : Scope) (x : Str) : Prop := sc.names.lookup x = some .local ∨ sc.names.lookup x = some .cell ∨ sc.names.lookup x = some .free
def Loc (sc : Scope) (x : Str) : Prop := sc.names.lookup x = some .local ∨ sc.names.lookup x = some .cell
def Look (env : Env) (h : Heap) (m : Str → Option Value) (x : Str) (u : Value) : Prop :=
  (env.kindOf x = some .local ∧ m x = some u) ∨ ((env.kindOf x = some .cell ∨ env.kindOf x = some .free) ∧ ∃ c, env.cells.lookup x = some c ∧ h.IsCell c (some u))
structure Cx.Ok (X : Cx) : Prop where
  mod : Mod X.K X.mg X.base
  kind : X.env.scope.kind = .function
  glob : X.env.globals = mainGlobals
  blt : X.env.builtins = builtinsNs
  above : X.s₀.heap.objs.size ≤ X.env.locals
  inj : ∀ x y c, X.env.cells.lookup x = some c → X.env.cells.lookup y = some c → x = y
  has : ∀ x, (X.env.kindOf x = some .cell ∨ X.env.kindOf x = some .free) → ∃ c, X.env.cells.lookup x = some c
  cab : ∀ x c, X.fn x = true → X.env.cells.lookup x = some c → X.s₀.heap.objs.size ≤ c
  hd : X.calm = true → X.A.handled = none
  frames : X.A.frames = some X.stack
  stk : X.stack = X.outer ∨ (X.stack = X.env :: X.outer ∧ X.env.frame = some X.env.locals)
  exf : ∀ b ∈ X.ex, b ≠ X.env.locals ∧ ∀ x c, X.env.cells.lookup x = some c → c ≠ b
  bs : ∀ b o, X.base.get? b = some o → X.s₀.heap.get? b = some o ∧ X.H₀ b = none
  bsz : X.base.objs.size ≤ X.s₀.heap.objs.size
  noex : ∀ b o, X.base.get? b = some o → b ∉ X.ex
  exfs : ∀ b ∈ X.ex, b ∉ X.fs
  funs : X.s₀.heap.FunFrames X.base X.outer
  frf : ∀ b ∈ X.fs, X.H₀ b = none
structure Inv (X : Cx) (pins : List (Addr × Obj)) (σ : List (Option V)) (H : Hp) (s : Shared) : Prop where
  ok : X.Ok
  os : s.os = X.s₀.os
  bare : AllBare s.gens
  base : Un X.fs X.ex X.H₀ H X.s₀.heap s.heap
  loc : ∃ m, s.heap.Ns X.env.locals m ∧ ∀ (i : Nat) (x : Str) (v : V), X.N[i]? = some x → σ[i]? = some (some v) → Vis X.env.scope x → ∃ u, RelV v u ∧ Look X.env s.heap m x u
  cell : ∀ x c, X.env.cells.lookup x = some c → ∃ v, s.heap.IsCell c v
  free : H X.env.locals = none
  freeC : ∀ x c, X.env.cells.lookup x = some c → H c = none
  pin : ∀ p ∈ X.pn ++ pins, s.heap.get? p.1 = some p.2 ∧ H p.1 = none ∧ p.1 ≠ X.env.locals ∧ p.1 ∉ X.fs ∧ ∀ v, p.2.data ≠ .cell v
  hok : HOk X.prog X.w H s.heap
  len : σ.length = X.N.length
section
variable {X : Cx} {pins : List (Addr × Obj)} {σ : List (Option V)} {H H' : Hp} {s : Shared} {h' : Heap}
theorem Cx.Ok.nofr (ok : X.Ok) {b : Addr} {o : Obj} (e : X.base.get? b = some o) : b ∉ X.fs := fun hb => by
  have := (ok.funs.mem hb).1
  rw [e] at this; cases this
theorem Inv.bs (I : Inv X pins σ H s) : ∀ b o, X.base.get? b = some o → s.heap.get? b = some o ∧ H b = none := fun b o e =>
  ⟨I.base.keep b o (I.ok.bs b o e).1 (I.ok.bs b o e).2 (I.ok.nofr e) (I.ok.noex b o e), I.base.free b o (I.ok.bs b o e).1 (I.ok.bs b o e).2 (I.ok.noex b o e)⟩
theorem Inv.bk (I : Inv X pins σ H s) : ∀ b o, X.base.get? b = some o → s.heap.get? b = some o := fun b o e => (I.bs b o e).1
theorem Inv.mod (I : Inv X pins σ H s) : Mod X.K X.mg X.base := I.ok.mod
theorem Inv.kIn (I : Inv X pins σ H s) : X.K.In s.heap := I.ok.mod.kin.keeps I.bk
theorem Inv.lt (I : Inv X pins σ H s) : X.env.locals < s.heap.objs.size := let ⟨_, hn, _⟩ := I.loc; hn.lt
theorem Inv.sz (I : Inv X pins σ H s) : X.s₀.heap.objs.size ≤ s.heap.objs.size := Nat.le_trans I.ok.above (Nat.le_of_lt I.lt)
theorem Inv.nofs (I : Inv X pins σ H s) {a : Addr} (h : s.heap.objs.size ≤ a) : a ∉ X.fs := fun hb => by
  obtain ⟨_, o, ho, _⟩ := I.ok.funs.mem hb
  exact absurd (Nat.lt_of_lt_of_le (Heap.lt_size ho) (Nat.le_trans I.sz h)) (Nat.lt_irrefl _)
theorem Inv.cne (I : Inv X pins σ H s) : ∀ x c, X.env.cells.lookup x = some c → c ≠ X.env.locals := fun x c e z => by
  obtain ⟨v, o, ho, hd⟩ := I.cell x c e
  obtain ⟨m, ⟨o', es, ep, ho', hd', _⟩, _⟩ := I.loc
  rw [z, ho'] at ho; cases ho; rw [hd'] at hd; cases hd
theorem Inv.funs (I : Inv X pins σ H s) : s.heap.FunFrames X.base X.outer := by
  have all : ∀ (l : List Env), (∀ b ∈ frs l, b ∈ X.fs) → X.s₀.heap.FunFrames X.base l → s.heap.FunFrames X.base l := by
    intro l
    induction l with
    | nil => intro _ _; trivial
    | cons env r ih =>
      intro hs hl
      obtain ⟨hk, ⟨L, o, hf, hn, ho, hd⟩, hr⟩ := hl
      have hL : L ∈ X.fs := hs L (by unfold frs; rw [List.filterMap_cons, hf]; exact List.mem_cons_self)
      obtain ⟨sl, e⟩ := I.base.slot L o ho (I.ok.frf L hL) hL fun z => I.ok.exfs L z hL
      exact ⟨hk, ⟨L, _, hf, hn, e, hd⟩, ih (fun b hb => hs b (by unfold frs; rw [List.filterMap_cons, hf]; exact List.mem_cons_of_mem _ hb)) hr⟩
  exact all X.outer (fun _ hb => hb) I.ok.funs
theorem Inv.stack (I : Inv X pins σ H s) : s.heap.FunFrames X.base X.stack := by
  rcases I.ok.stk with e | ⟨e, hf⟩
  · rw [e]; exact I.funs
  · rw [e]
    obtain ⟨m, hn, _⟩ := I.loc
    refine .cons (by rw [I.ok.kind]; decide) hf hn ?_ I.funs
    exact Heap.get?_none_of_le (Nat.le_trans I.ok.bsz I.ok.above)
theorem Inv.stkSub (I : Inv X pins σ H s) : ∀ b ∈ frs X.stack, b ∈ X.env.locals :: X.fs := fun b hb => by
  rcases I.ok.stk with e | ⟨e, hf⟩
  · rw [e] at hb; exact List.mem_cons_of_mem _ hb
  · rw [e] at hb
    unfold frs at hb
    rw [List.filterMap_cons, hf] at hb
    exact hb
theorem Inv.stkFree (I : Inv X pins σ H s) : ∀ b ∈ frs X.stack, H b = none := fun b hb => by
  rcases List.mem_cons.mp (I.stkSub b hb) with e | hb
  · rw [e]; exact I.free
  · obtain ⟨_, o, ho, _⟩ := I.ok.funs.mem hb
    exact I.base.free b o ho (I.ok.frf b hb) fun z => I.ok.exfs b z hb
theorem Inv.step {g' : Array GenState} {t' : Nat} {d' : Drawn} {ch : List Addr} (I : Inv X pins σ H s)
    (hch : ∀ b ∈ ch, (b ∈ X.ex ∨ X.s₀.heap.objs.size ≤ b) ∧ b ≠ X.env.locals ∧ (∀ x c, X.env.cells.lookup x = some c → c ≠ b) ∧ ∀ p ∈ X.pn ++ pins, p.1 ≠ b)
    (keep : ∀ b o, b ≠ X.env.locals → b ∉ X.fs → b ∉ ch → s.heap.get? b = some o → H b = none → h'.get? b = some o)
    (slot : ∀ b o, b ≠ X.env.locals → b ∈ X.fs → b ∉ ch → s.heap.get? b = some o → H b = none → ∃ sl, h'.get? b = some { o with slots := sl }) (free : ∀ b o, b ∉ ch → s.heap.get? b = some o → H b = none → H' b = none)
    (there : ∀ b o, b ∉ ch → s.heap.get? b = some o → ∃ o', h'.get? b = some o')
    (tups : ∀ b xs, H b = some (.tup xs) → H' b = some (.tup xs)) (frzs : ∀ b o u, H b = some (.frz o u) → H' b = some (.frz o u)) (tbls : ∀ b ps, H b = some (.tbl ps) → ∃ more, H' b = some (.tbl (ps ++ more)))
    (ns : ∀ m, s.heap.Ns X.env.locals m → h'.Ns X.env.locals m) (hok : HOk X.prog X.w H' h') (hg : AllBare g') :
    Inv X pins σ H' { s with heap := h', gens := g', drawn := d', toks := t' } := by
  have neL : ∀ b o, X.s₀.heap.get? b = some o → b ≠ X.env.locals := fun b o e => Nat.ne_of_lt (Nat.lt_of_lt_of_le (Heap.lt_size e) I.ok.above)
  have neC : ∀ b o, X.s₀.heap.get? b = some o → b ∉ X.ex → b ∉ ch := fun b o e hx hb => by
    rcases (hch b hb).1 with z | z
    · exact hx z
    · exact absurd (Nat.lt_of_lt_of_le (Heap.lt_size e) z) (Nat.lt_irrefl _)
  have cellK : ∀ x c, X.env.cells.lookup x = some c → ∀ v, s.heap.IsCell c v → h'.IsCell c v := fun x c e v ⟨o, ho, hd⟩ => by
    have nch : c ∉ ch := fun z => (hch c z).2.2.1 x c e rfl
    by_cases hc : c ∈ X.fs
    · obtain ⟨sl, q⟩ := slot c o (I.cne x c e) hc nch ho (I.freeC x c e)
      exact ⟨_, q, hd⟩
    · exact ⟨o, keep c o (I.cne x c e) hc nch ho (I.freeC x c e), hd⟩
  refine ⟨I.ok, I.os, hg, ⟨fun b o e n hb hx => ?_, fun b o e n hb hx => ?_, fun b o e n hx => ?_, fun b o e hx => ?_, fun b xs e => tups b xs (I.base.tups b xs e), fun b o xs e => frzs b o xs (I.base.frzs b o xs e), fun b ps e => ?_⟩, ?_, fun x c e => ?_, ?_, fun x c e => ?_, fun p hp => ?_, hok, I.len⟩
  · exact keep b o (neL b o e) hb (neC b o e hx) (I.base.keep b o e n hb hx) (I.base.free b o e n hx)
  · obtain ⟨sl, e1⟩ := I.base.slot b o e n hb hx
    obtain ⟨sl', e2⟩ := slot b _ (neL b o e) hb (neC b o e hx) e1 (I.base.free b o e n hx)
    exact ⟨sl', e2⟩
  · obtain ⟨o', e1⟩ := I.base.there b o e hx
    exact free b o' (neC b o e hx) e1 (I.base.free b o e n hx)
  · obtain ⟨o', e1⟩ := I.base.there b o e hx
    exact there b o' (neC b o e hx) e1
  · obtain ⟨m1, e1⟩ := I.base.tbls b ps e
    obtain ⟨m2, e2⟩ := tbls b _ e1
    exact ⟨m1 ++ m2, by rw [e2, Array.append_assoc]⟩
  · obtain ⟨m, hn, hl⟩ := I.loc
    refine ⟨m, ns m hn, fun i x v e1 e2 e3 => ?_⟩
    obtain ⟨u, r, l⟩ := hl i x v e1 e2 e3
    refine ⟨u, r, ?_⟩
    rcases l with l | ⟨k, c, e, z⟩
    · exact .inl l
    · exact .inr ⟨k, c, e, cellK x c e _ z⟩
  · obtain ⟨v, z⟩ := I.cell x c e
    exact ⟨v, cellK x c e v z⟩
  · obtain ⟨m, ⟨o, _, _, ho, _⟩, _⟩ := I.loc
    exact free _ o (fun z => (hch _ z).2.1 rfl) ho I.free
  · obtain ⟨v, o, ho, hd⟩ := I.cell x c e
    exact free c o (fun z => (hch c z).2.2.1 x c e rfl) ho (I.freeC x c e)
  · obtain ⟨e, n, ne, nf, d⟩ := I.pin p hp
    have nch : p.1 ∉ ch := fun z => (hch p.1 z).2.2.2 p hp rfl
    exact ⟨keep p.1 p.2 ne nf nch e n, free p.1 p.2 nch e n, ne, nf, d⟩
theorem Inv.un {t' : Nat} (I : Inv X pins σ H s) (u : Un X.fs [] H H' s.heap h') (hok : HOk X.prog X.w H' h') : Inv X pins σ H' { s with heap := h', toks := t' } := by
  obtain ⟨m, ⟨o, es, ep, ho, r⟩, _⟩ := id I.loc
  obtain ⟨sl, hL⟩ := u.any ho I.free (by simp)
  exact I.step (g' := s.gens) (d' := s.drawn) (ch := []) (fun _ z => nomatch z) (fun b o _ hb _ e n => u.keep b o e n hb (by simp)) (fun b o _ hb _ e n => u.slot b o e n hb (by simp)) (fun b o _ e n => u.free b o e n (by simp)) (fun b o _ e => u.there b o e (by simp)) u.tups u.frzs u.tbls (fun m' hm => by
    obtain ⟨o', es', ep', ho', r'⟩ := hm
    rw [ho] at ho'; cases ho'
    exact ⟨_, es', ep', hL, r'⟩) hok I.bare
theorem Inv.call {g' : Array GenState} {t' : Nat} {d' : Drawn} {ch : List Addr} (I : Inv X pins σ H s) (u : Un (frs X.stack) ch H H' s.heap h') (hok : HOk X.prog X.w H' h') (hg : AllBare g')
    (hch : ∀ b ∈ ch, (b ∈ X.ex ∨ X.s₀.heap.objs.size ≤ b) ∧ b ≠ X.env.locals ∧ (∀ x c, X.env.cells.lookup x = some c → c ≠ b) ∧ ∀ p ∈ X.pn ++ pins, p.1 ≠ b) :
    Inv X pins σ H' { s with heap := h', gens := g', drawn := d', toks := t' } := by
  obtain ⟨m, ⟨o, es, ep, ho, r⟩, _⟩ := id I.loc
  obtain ⟨sl, hL⟩ := u.any ho I.free fun z => (hch _ z).2.1 rfl
  exact I.step (ch := ch) hch (fun b o hL hb hc e n => u.keep b o e n (fun z => (List.mem_cons.mp (I.stkSub b z)).elim hL hb) hc) (fun b o _ _ hc e n => u.any e n hc) (fun b o hc e n => u.free b o e n hc) (fun b o hc e => u.there b o e hc) u.tups u.frzs u.tbls (fun m' hm => by
    obtain ⟨o', es', ep', ho', r'⟩ := hm
    rw [ho] at ho'; cases ho'
    exact ⟨_, es', ep', hL, r'⟩) hok hg
theorem Inv.turned {t' : Nat} {it : Addr} (I : Inv X pins σ H s) (k : ∀ b o, b ≠ it → s.heap.get? b = some o → h'.get? b = some o) (hn : H it = none) (hL : it ≠ X.env.locals)
    (h1 : it ∈ X.ex ∨ X.s₀.heap.objs.size ≤ it) (h2 : ∀ x c, X.env.cells.lookup x = some c → c ≠ it) (h3 : ∀ p ∈ X.pn ++ pins, p.1 ≠ it) : Inv X pins σ H { s with heap := h', toks := t' } := by
  have nit : ∀ b u, H b = some u → b ≠ it := fun b u e z => by rw [z, hn] at e; cases e
  refine I.step (g' := s.gens) (d' := s.drawn) (ch := [it]) (fun b hb => ?_) (fun b o _ _ hc e _ => k b o (fun z => hc (by simp [z])) e) (fun b o _ _ hc e _ => ⟨o.slots, k b o (fun z => hc (by simp [z])) e⟩) (fun _ _ _ _ n => n)
    (fun b o hc e => ⟨o, k b o (fun z => hc (by simp [z])) e⟩) (fun _ _ e => e) (fun _ _ _ e => e) (fun b ps e => ⟨#[], by rw [e]; simp⟩) (fun m hm => ?_) (fun b u e => ?_) I.bare
  · have e : b = it := by simpa using hb
    subst e
    exact ⟨h1, hL, h2, h3⟩
  · obtain ⟨o, es, ep, ho, r⟩ := hm
    exact ⟨o, es, ep, k _ o (Ne.symm hL) ho, r⟩
  · refine (I.hok b u e).stay (fun c v hc q => k c v ?_ q) (fun _ q => q) fun _ _ q => q
    rcases hc with z | z
    · rw [z]; exact nit b u e
    · exact nit c _ z
theorem Inv.tok (I : Inv X pins σ H s) (t : Nat) : Inv X pins σ H { s with toks := t } := I.un (h' := s.heap) (t' := t) Un.refl I.hok
theorem Inv.kept {t' : Nat} (I : Inv X pins σ H s) (k : ∀ b u, s.heap.get? b = some u → h'.get? b = some u) : Inv X pins σ H { s with heap := h', toks := t' } := I.un (Un.kept k) (I.hok.kept k)
theorem Inv.laid {a : Addr} {o : HO} {t' : Nat} (I : Inv X pins σ H s) (k : ∀ b u, s.heap.get? b = some u → h'.get? b = some u) (hp : s.heap.objs.size ≤ a) (new : ObjOk X.prog X.w (upd H a o) h' a o) :
    Inv X pins σ (upd H a o) { s with heap := h', toks := t' } := I.un (Un.laid k hp (I.hok.fresh hp)) (I.hok.laid k hp new)
theorem Inv.write {x e : Addr} {o : HO} {t' : Nat} (I : Inv X pins σ H s) (mu : Mut (H x)) (he : e = x ∨ H e = some (.own x)) (k : ∀ b u, b ≠ e → s.heap.get? b = some u → h'.get? b = some u) (heo : ∃ u, h'.get? e = some u)
    (new : ObjOk X.prog X.w (upd H x o) h' x o) : Inv X pins σ (upd H x o) { s with heap := h', toks := t' } := I.un (Un.write mu he k heo) (I.hok.write mu he k heo new)
theorem Inv.pins_of {pins' : List (Addr × Obj)} (I : Inv X pins σ H s) (h : ∀ p ∈ pins', s.heap.get? p.1 = some p.2 ∧ H p.1 = none ∧ p.1 ≠ X.env.locals ∧ p.1 ∉ X.fs ∧ ∀ v, p.2.data ≠ .cell v) : Inv X pins' σ H s :=
  ⟨I.ok, I.os, I.bare, I.base, I.loc, I.cell, I.free, I.freeC, fun p hp => (List.mem_append.mp hp).elim (fun z => I.pin p (List.mem_append_left _ z)) (h p), I.hok, I.len⟩
theorem nodup_ix {N : List Str} (hN : N.Nodup) {i j : Nat} {x : Str} (a : N[i]? = some x) (b : N[j]? = some x) : i = j := by
  obtain ⟨h1, e1⟩ := List.getElem?_eq_some_iff.mp a
  obtain ⟨h2, e2⟩ := List.getElem?_eq_some_iff.mp b
  exact (List.getElem_inj hN).mp (e1.trans e2.symm)
theorem store_ok2 {M : Model} {A : Around} {E : Value → Shared → Prop} {i : Nat} {x : Str} {v : V} {u : Value} {Q : Unit → Shared → Prop} (I : Inv X pins σ H s) (hN : X.N.Nodup) (hi : X.N[i]? = some x) (hx : Loc X.env.scope x) (r : RelV v u)
    (h : ∀ s', Inv X pins (σ.set i (some v)) H s' → (∃ a, Heap.SameBut a s.heap s'.heap ∧ (a = X.env.locals ∨ X.env.cells.lookup x = some a)) → Q () s') (hf : X.fn x = true ∨ X.env.scope.names.lookup x = some .local := by first | exact .inl rfl | exact .inr rfl | assumption) : wpAny M A (storeName X.env x u) Q E s := by
  obtain ⟨m, hn, hl⟩ := id I.loc
  have hcls : (X.env.scope.kind == .class || (X.env.scope.kind == .module && X.env.locals != X.env.globals)) = false := by rw [I.ok.kind]; rfl
  have hiσ : i < σ.length := by rw [I.len]; exact (List.getElem?_eq_some_iff.mp hi).1
  have cne := I.cne
  have tracked : ∀ {a : Addr} {h' : Heap}, (∃ o, s.heap.get? a = some o ∧ H a = none) → Heap.SameBut a s.heap h' → HOk X.prog X.w H h' := fun {a h'} ha hs b ob e => by
    obtain ⟨_, _, hfree⟩ := ha
    refine (I.hok b ob e).stay (fun c w' hc q => (hs.2 c ?_).trans q) (fun _ q => q) fun _ _ q => q
    rintro rfl
    rcases hc with rfl | hc
    · rw [hfree] at e; cases e
    · rw [hfree] at hc; cases hc
  rcases hx with hk | hk
  · refine wpAny_storeName_local hk hn (fun h' hn' hs => ?_) hcls
    obtain ⟨oL, _, _, hoL, _⟩ := id hn
    refine h _ ⟨I.ok, I.os, I.bare, ⟨fun b o e n hb hx => ?_, fun b o e n hb hx => ?_, I.base.free, fun b o e hx => ?_, I.base.tups, I.base.frzs, I.base.tbls⟩, ⟨_, hn', fun j y v' e1 e2 e3 => ?_⟩, fun y c e => ?_, I.free, I.freeC, fun p hp => ?_, tracked ⟨oL, hoL, I.free⟩ hs, by simpa using I.len⟩ ⟨_, hs, .inl rfl⟩
    · exact (hs.2 b (Nat.ne_of_lt (Nat.lt_of_lt_of_le (Heap.lt_size e) I.ok.above))).trans (I.base.keep b o e n hb hx)
    · obtain ⟨sl, e1⟩ := I.base.slot b o e n hb hx
      exact ⟨sl, (hs.2 b (Nat.ne_of_lt (Nat.lt_of_lt_of_le (Heap.lt_size e) I.ok.above))).trans e1⟩
    · obtain ⟨o', e1⟩ := I.base.there b o e hx
      exact ⟨o', (hs.2 b (Nat.ne_of_lt (Nat.lt_of_lt_of_le (Heap.lt_size e) I.ok.above))).trans e1⟩
    · by_cases hj : j = i
      · subst hj
        rw [hi] at e1; cases e1
        rw [List.getElem?_set_self hiσ] at e2
        cases e2
        exact ⟨u, r, .inl ⟨hk, by simp⟩⟩
      · rw [List.getElem?_set_ne (Ne.symm hj)] at e2
        obtain ⟨u', r', q⟩ := hl j y v' e1 e2 e3
        refine ⟨u', r', ?_⟩
        rcases q with ⟨k, e⟩ | ⟨k, c, e, z⟩
        · refine .inl ⟨k, ?_⟩
          have : y ≠ x := fun e => hj (nodup_ix hN e1 (e ▸ hi))
          simp [this, e]
        · exact .inr ⟨k, c, e, z.sameBut hs (cne y c e)⟩
    · obtain ⟨w', z⟩ := I.cell y c e
      exact ⟨w', z.sameBut hs (cne y c e)⟩
    · obtain ⟨e, n, ne, nf, d⟩ := I.pin p hp
      exact ⟨(hs.2 p.1 ne).trans e, n, ne, nf, d⟩
  · have hfn : X.fn x = true := by
      rcases hf with z | z
      · exact z
      · rw [z] at hk; cases hk
    obtain ⟨c, hc⟩ := I.ok.has x (.inl hk)
    obtain ⟨w', z⟩ := I.cell x c hc
    refine wpAny_storeName_cell I.ok.kind hk hc z (fun h' hc' hs => ?_)
    obtain ⟨oc, hoc, hocd⟩ := id z
    refine h { s with heap := h' } ⟨I.ok, I.os, I.bare, ⟨fun b o e n hb hx => ?_, fun b o e n hb hx => ?_, I.base.free, fun b o e hx => ?_, I.base.tups, I.base.frzs, I.base.tbls⟩, ⟨m, hn.sameBut hs (Ne.symm (cne x c hc)), fun j y v' e1 e2 e3 => ?_⟩, fun y c' e => ?_, I.free, I.freeC, fun p hp => ?_, tracked ⟨oc, hoc, I.freeC x c hc⟩ hs, by simpa using I.len⟩ ⟨c, hs, .inr hc⟩
    · exact (hs.2 b (Nat.ne_of_lt (Nat.lt_of_lt_of_le (Heap.lt_size e) (I.ok.cab x c hfn hc)))).trans (I.base.keep b o e n hb hx)
    · obtain ⟨sl, e1⟩ := I.base.slot b o e n hb hx
      exact ⟨sl, (hs.2 b (Nat.ne_of_lt (Nat.lt_of_lt_of_le (Heap.lt_size e) (I.ok.cab x c hfn hc)))).trans e1⟩
    · obtain ⟨o', e1⟩ := I.base.there b o e hx
      exact ⟨o', (hs.2 b (Nat.ne_of_lt (Nat.lt_of_lt_of_le (Heap.lt_size e) (I.ok.cab x c hfn hc)))).trans e1⟩
    · by_cases hj : j = i
      · subst hj
        rw [hi] at e1; cases e1
        rw [List.getElem?_set_self hiσ] at e2
        cases e2
        exact ⟨u, r, .inr ⟨.inl hk, c, hc, hc'⟩⟩
      · rw [List.getElem?_set_ne (Ne.symm hj)] at e2
        obtain ⟨u', r', q⟩ := hl j y v' e1 e2 e3
        refine ⟨u', r', ?_⟩
        rcases q with q | ⟨k, c', e, z'⟩
        · exact .inl q
        · refine .inr ⟨k, c', e, z'.sameBut hs ?_⟩
          rintro rfl
          exact hj (nodup_ix hN e1 (I.ok.inj _ _ _ e hc ▸ hi))
    · by_cases hcc : c' = c
      · subst hcc; exact ⟨_, hc'⟩
      · obtain ⟨w2, z2⟩ := I.cell y c' e
        exact ⟨w2, z2.sameBut hs hcc⟩
    · obtain ⟨e, n, ne, nf, d⟩ := I.pin p hp
      refine ⟨(hs.2 p.1 ?_).trans e, n, ne, nf, d⟩
      intro q
      rw [q, hoc] at e
      have q' : oc = p.2 := Option.some.inj e
      exact d w' (by rw [← q']; exact hocd)
theorem store_ok {M : Model} {A : Around} {E : Value → Shared → Prop} {i : Nat} {x : Str} {v : V} {u : Value} {Q : Unit → Shared → Prop} (I : Inv X pins σ H s) (hN : X.N.Nodup) (hi : X.N[i]? = some x) (hx : Loc X.env.scope x) (r : RelV v u)
    (h : ∀ s', Inv X pins (σ.set i (some v)) H s' → Q () s') (hf : X.fn x = true ∨ X.env.scope.names.lookup x = some .local := by first | exact .inl rfl | exact .inr rfl | assumption) : wpAny M A (storeName X.env x u) Q E s :=
  store_ok2 I hN hi hx r (fun s' I' _ => h s' I') hf
theorem Inv.call' {s' : Shared} {ch : List Addr} (I : Inv X pins σ H s) (ho : s'.os = s.os) (u : Un (frs X.stack) ch H H' s.heap s'.heap) (hok : HOk X.prog X.w H' s'.heap) (hg : AllBare s'.gens)
    (hch : ∀ b ∈ ch, (b ∈ X.ex ∨ X.s₀.heap.objs.size ≤ b) ∧ b ≠ X.env.locals ∧ (∀ x c, X.env.cells.lookup x = some c → c ≠ b) ∧ ∀ p ∈ X.pn ++ pins, p.1 ≠ b) : Inv X pins σ H' s' := by
  obtain ⟨h', g', d', t', o'⟩ := s'
  have e : o' = s.os := ho
  subst e
  exact I.call (g' := g') (t' := t') (d' := d') u hok hg hch
end
abbrev XK := Value → Option Addr → Hp → Prop
abbrev St := List (Option V)
abbrev VK := V → Hp → Prop
abbrev TE := St → Hp → VK → Prop
abbrev TT := St → Hp → (Bool → Hp → Prop) → Prop
abbrev TA := St → Hp → (List V → Hp → Prop) → Prop
structure Ends where
  nx : St → Hp → Prop
  rt : VK
  bk : St → Hp → Prop := fun _ _ => False
  ct : St → Hp → Prop := fun _ _ => False
abbrev TS := Ends → St → Hp → Prop
def EP (X : Cx) (pins : List (Addr × Obj)) (σ : St) (Q : VK) (u : Value) (s' : Shared) : Prop := ∃ v H', Inv X pins σ H' s' ∧ RelV v u ∧ Q v H'
def TP (X : Cx) (pins : List (Addr × Obj)) (σ : St) (Q : Bool → Hp → Prop) (b : Bool) (s' : Shared) : Prop := ∃ H', Inv X pins σ H' s' ∧ Q b H'
def AP (X : Cx) (pins : List (Addr × Obj)) (σ : St) (Q : List V → Hp → Prop) (us : List Value) (s' : Shared) : Prop := ∃ vs H', Inv X pins σ H' s' ∧ Vals vs us ∧ Q vs H'
def SP (X : Cx) (pins : List (Addr × Obj)) (D : Ends) (f : Flow) (s' : Shared) : Prop :=
  match f with
  | .next => ∃ σ' H', Inv X pins σ' H' s' ∧ D.nx σ' H'
  | .brk => ∃ σ' H', Inv X pins σ' H' s' ∧ D.bk σ' H'
  | .cont => ∃ σ' H', Inv X pins σ' H' s' ∧ D.ct σ' H'
  | .ret u => ∃ v σ' H', Inv X pins σ' H' s' ∧ RelV v u ∧ D.rt v H'
def PE (X : Cx) (e : Expr) (t : TE) : Prop :=
  ∀ (pins : List (Addr × Obj)) (s : Shared) (σ : St) (H : Hp) (Q : VK), Inv X pins σ H s → t σ H Q → wpAny (model X.prog X.w) X.A (eval e X.env) (EP X pins σ Q) X.xe s
def PT (X : Cx) (e : Expr) (t : TT) : Prop :=
  ∀ (pins : List (Addr × Obj)) (s : Shared) (σ : St) (H : Hp) (Q : Bool → Hp → Prop), Inv X pins σ H s → t σ H Q → wpAny (model X.prog X.w) X.A (isTrue e X.env (eval e X.env)) (TP X pins σ Q) X.xe s
def PW (X : Cx) (e : Expr) (t : TT) : Prop :=
  ∀ (whole : Sem Value) (pins : List (Addr × Obj)) (s : Shared) (σ : St) (H : Hp) (Q : Bool → Hp → Prop), Inv X pins σ H s → t σ H Q → wpAny (model X.prog X.w) X.A (isTrue e X.env whole) (TP X pins σ Q) X.xe s
theorem PW.pt {X : Cx} {e : Expr} {t : TT} (h : PW X e t) : PT X e t := h _
def PA (X : Cx) (es : List Expr) (t : TA) : Prop :=
  ∀ (pos : Pos) (pins : List (Addr × Obj)) (s : Shared) (σ : St) (H : Hp) (Q : List V → Hp → Prop), Inv X pins σ H s → t σ H Q → wpAny (model X.prog X.w) X.A (spliced (backTo pos (starEach es X.env))) (AP X pins σ Q) X.xe s
def PS (X : Cx) (st : Stmt) (t : TS) : Prop :=
  ∀ (pins : List (Addr × Obj)) (s : Shared) (σ : St) (H : Hp) (D : Ends), Inv X pins σ H s → t D σ H → wpAny (model X.prog X.w) X.A (exec st X.env) (SP X pins D) X.xe s
def PSs (X : Cx) (st : List Stmt) (t : TS) : Prop :=
  ∀ (pins : List (Addr × Obj)) (s : Shared) (σ : St) (H : Hp) (D : Ends), Inv X pins σ H s → t D σ H → wpAny (model X.prog X.w) X.A (execs st X.env) (SP X pins D) X.xe s
theorem thn {α : Type} {t : Sem α} {Q Q' : α → Shared → Prop} {M : Model} {A : Around} {E : Value → Shared → Prop} {s : Shared} (h : wpAny M A t Q E s) (hQ : ∀ a s, Q a s → Q' a s) : wpAny M A t Q' E s := wpAny_mono h hQ fun _ _ x => x
end L2
namespace L2
open PySem PySem.Spec PyProof.Rows
section
variable {X : Cx}
def tVar (i : Nat) : TE := fun σ H Q => ∃ v, σ[i]? = some (some v) ∧ Q v H
def tC (v : V) : TE := fun _ H Q => Q v H
theorem pe_var {i : Nat} {x : Str} {pos : Pos} (hN : X.N[i]? = some x) (hv : Vis X.env.scope x) (hd : (x == ("__debug__" : Str)) = false := by decide) (hcd : (x == ("__classdict__" : Str)) = false := by decide) : PE X (.Name x pos) (tVar i) := by
  intro pins s σ H Q I h
  obtain ⟨v, e, h⟩ := h
  obtain ⟨m, hn, hl⟩ := I.loc
  obtain ⟨u, r, l⟩ := hl i x v hN e hv
  have fin : EP X pins σ Q u s := ⟨v, H, I, r, h⟩
  rcases l with ⟨hk, hm⟩ | ⟨hk, c, hc, hcell⟩
  · exact wpAny_Name (wpAny_loadName_local I.ok.kind hk hn hm fin) hd
  · rcases hk with hk | hk
    · exact wpAny_Name (wpAny_loadName_cell I.ok.kind hk hc hcell fin) hd
    · exact wpAny_Name (wpAny_loadName_free I.ok.kind hk hc hcell fin hcd) hd
theorem pe_int {i j pos} : PE X (.Constant (.int i) j pos) (tC (.int i)) := fun _ _ _ H _ I h => wpAny_Constant_int ⟨.int i, H, I.tok _, ⟨_, rfl⟩, h⟩
theorem pe_bl {b j pos} : PE X (.Constant (.bool b) j pos) (tC (.bl b)) := fun _ _ _ H _ I h => Constant_bool ⟨.bl b, H, I, rfl, h⟩
theorem pe_non {j pos} : PE X (.Constant .none j pos) (tC .non) := fun _ _ _ H _ I h => Constant_none ⟨.non, H, I, rfl, h⟩
theorem pe_str {x j pos} : PE X (.Constant (.str x) j pos) (tC (.str x)) := fun _ _ _ H _ I h => Calls.Constant_str ⟨.str x, H, I.tok _, ⟨_, rfl⟩, h⟩
def Gl (X : Cx) (x : Str) : Prop := X.env.kindOf x = some .globalImplicit
theorem ld_glob {E : Value → Shared → Prop} {pins : List (Addr × Obj)} {s : Shared} {σ : St} {H : Hp} {x : Str} {u : Value} {pos : Pos} {Q : Value → Shared → Prop} (I : Inv X pins σ H s) (hg : Gl X x) (hm : X.mg x = some u) (h : Q u s)
    (hd : (x == ("__debug__" : Str)) = false := by decide) : wpAny (model X.prog X.w) X.A (eval (.Name x pos) X.env) Q E s :=
  Calls.Name_function_global I.ok.kind hg (Calls.loadGlobal_global (by rw [I.ok.glob]; exact I.mod.glob.keeps I.bk) hm h) hd
theorem ld_blt {E : Value → Shared → Prop} {pins : List (Addr × Obj)} {s : Shared} {σ : St} {H : Hp} {x : Str} {u : Value} {pos : Pos} {Q : Value → Shared → Prop} (I : Inv X pins σ H s) (hg : Gl X x) (hm : X.mg x = none) (hv : bootBuiltins x = some u) (h : Q u s)
    (hn : x ≠ "__name__" := by decide) (hd : (x == ("__debug__" : Str)) = false := by decide) : wpAny (model X.prog X.w) X.A (eval (.Name x pos) X.env) Q E s := by
  obtain ⟨mb, h1, h2⟩ := I.mod.blt
  exact Calls.Name_function_global I.ok.kind hg (Calls.loadGlobal_builtin (by rw [I.ok.glob]; exact I.mod.glob.keeps I.bk) hm (by rw [I.ok.blt]; exact h1.keeps I.bk) ((h2 x hn).trans hv) h) hd
theorem pe_glob {x : Str} {v : V} {u : Value} {pos : Pos} (hg : Gl X x) (hm : X.mg x = some u) (r : RelV v u) (hd : (x == ("__debug__" : Str)) = false := by decide) : PE X (.Name x pos) (tC v) :=
  fun _ _ _ H _ I h => ld_glob I hg hm ⟨v, H, I, r, h⟩ hd
theorem pe_bltn {x : Str} {v : V} {u : Value} {pos : Pos} (hg : Gl X x) (hm : X.mg x = none) (hv : bootBuiltins x = some u) (r : RelV v u) (hn : x ≠ "__name__" := by decide) (hd : (x == ("__debug__" : Str)) = false := by decide) : PE X (.Name x pos) (tC v) :=
  fun _ _ _ H _ I h => ld_blt I hg hm hv ⟨v, H, I, r, h⟩ hn hd
variable {a b : Expr} {ta tb : TE} {pos : Pos}
def PC (X : Cx) (op : CmpOp) (a b : Expr) (t : TE) : Prop :=
  ∀ (pins : List (Addr × Obj)) (s : Shared) (σ : St) (H : Hp) (Q : VK), Inv X pins σ H s → t σ H Q →
    wpAny (model X.prog X.w) X.A (eval a X.env) (fun v s₁ => wpAny (model X.prog X.w) X.A (eval b X.env) (fun u s₂ => wpAny (model X.prog X.w) X.A (compareOp op v u) (EP X pins σ Q) X.xe s₂) X.xe s₁) X.xe s
theorem nobehind (b : Expr) {op : CmpOp} (h : op ≠ .In) (h2 : op ≠ .NotIn) : behindInMarks op b = false := by
  have e1 : (op == CmpOp.In) = false := by cases op <;> first | rfl | exact absurd rfl h
  have e2 : (op == CmpOp.NotIn) = false := by cases op <;> first | rfl | exact absurd rfl h2
  cases b <;> simp [behindInMarks, e1, e2]
def tB (t : TE) : TT := fun σ H Q => t σ H fun x H1 => ∃ c, x = .bl c ∧ Q c H1
theorem pe_cmp {op : CmpOp} {t : TE} (h : PC X op a b t) (h1 : behindInMarks op b = false := by first | exact nobehind _ (by decide) (by decide) | rfl) : PE X (.Compare a [op] [b] pos) t := fun pins s σ H Q I hw => wpAny_Compare1 (h pins s σ H Q I hw) h1
theorem pt_val {e : Expr} {t : TE} (h : PE X e t) (he : ∀ whole, isTrue e X.env whole = (do let v ← whole; standAt e.pos; holding [v] (truthy v)) := by intro _; rfl) : PT X e (tB t) := by
  intro pins s σ H Q I hw
  refine isTrue_plain (thn (h pins s σ H _ I hw) fun v s1 ⟨x, H1, I1, r1, q1⟩ => ?_) (he _)
  obtain ⟨d, rfl, q⟩ := q1
  cases r1
  exact wpAny_truthy_bool ⟨H1, I1, q⟩
variable {tA tB' : TT} {rest : List Expr}
def tAnd (t u : TT) : TT := fun σ H Q => t σ H fun c H1 => if c = true then u σ H1 Q else Q false H1
def tOr (t u : TT) : TT := fun σ H Q => t σ H fun c H1 => if c = true then Q true H1 else u σ H1 Q
def tNot (t : TT) : TT := fun σ H Q => t σ H fun c H1 => Q (!c) H1
theorem pw_and1 (ha : PT X a tA) : PW X (.BoolOp .And [a] pos) tA := by
  intro wh pins s σ H Q I h
  refine isTrue_and (thn (ha pins s σ H Q I h) fun c s1 e => ?_)
  cases c with
  | true => exact isTrue_and_nil e
  | false => exact e
theorem pw_or1 (ha : PT X a tA) : PW X (.BoolOp .Or [a] pos) tA := by
  intro wh pins s σ H Q I h
  refine isTrue_or (thn (ha pins s σ H Q I h) fun c s1 e => ?_)
  cases c with
  | false => exact isTrue_or_nil e
  | true => exact e
theorem pw_and (ha : PT X a tA) (hb : PW X (.BoolOp .And (b :: rest) pos) tB') : PW X (.BoolOp .And (a :: b :: rest) pos) (tAnd tA tB') := by
  intro wh pins s σ H Q I h
  refine isTrue_and (thn (ha pins s σ H _ I h) fun c s1 ⟨H1, I1, q1⟩ => ?_)
  cases c with
  | true => exact hb wh pins s1 σ H1 Q I1 q1
  | false => exact ⟨H1, I1, q1⟩
theorem pw_or (ha : PT X a tA) (hb : PW X (.BoolOp .Or (b :: rest) pos) tB') : PW X (.BoolOp .Or (a :: b :: rest) pos) (tOr tA tB') := by
  intro wh pins s σ H Q I h
  refine isTrue_or (thn (ha pins s σ H _ I h) fun c s1 ⟨H1, I1, q1⟩ => ?_)
  cases c with
  | true => exact ⟨H1, I1, q1⟩
  | false => exact hb wh pins s1 σ H1 Q I1 q1
theorem pt_not (ha : PT X a tA) : PT X (.UnaryOp .Not a pos) (tNot tA) := by
  intro pins s σ H Q I h
  exact isTrue_not (ha pins s σ H (fun c H1 => Q (!c) H1) I h)
def tAndV (ta tb : TE) : TE := fun σ H Q => ta σ H fun x H1 => ∃ c, x = .bl c ∧ if c = true then tb σ H1 Q else Q (.bl false) H1
def tNotV (ta : TE) : TE := fun σ H Q => ta σ H fun x H1 => ∃ c, x = .bl c ∧ Q (.bl (!c)) H1
theorem pe_one {op} {t : TE} (h : PE X a t) : PE X (.BoolOp op [a] pos) t := fun pins s σ H Q I hw => BoolOp_one (h pins s σ H Q I hw)
theorem pe_and (ha : PE X a ta) (hb : PE X (.BoolOp .And (b :: rest) pos) tb) : PE X (.BoolOp .And (a :: b :: rest) pos) (tAndV ta tb) := by
  intro pins s σ H Q I h
  refine BoolOp_and (thn (ha pins s σ H _ I h) fun v s1 ⟨x, H1, I1, r1, q1⟩ => ?_)
  obtain ⟨c, rfl, q1⟩ := q1
  cases r1
  refine wpAny_truthy_bool ?_
  cases c with
  | true => exact hb pins s1 σ H1 Q I1 q1
  | false => exact ⟨.bl false, H1, I1, rfl, q1⟩
theorem pe_not (ha : PE X a ta) : PE X (.UnaryOp .Not a pos) (tNotV ta) := by
  intro pins s σ H Q I h
  refine UnaryOp_ (thn (ha pins s σ H _ I h) fun v s1 ⟨x, H1, I1, r1, q1⟩ => ?_)
  obtain ⟨c, rfl, q1⟩ := q1
  cases r1
  exact not_of (wpAny_truthy_bool ⟨.bl (!c), H1, I1, rfl, q1⟩)
def tIf (t : TT) (ta tb : TE) : TE := fun σ H Q => t σ H fun c H1 => if c = true then ta σ H1 Q else tb σ H1 Q
theorem pe_ifExp {c : Expr} (hc : PT X c tA) (ha : PE X a ta) (hb : PE X b tb) : PE X (.IfExp c a b pos) (tIf tA ta tb) := by
  intro pins s σ H Q I h
  refine wpAny_IfExp (thn (hc pins s σ H _ I h) fun d s1 ⟨H1, I1, q1⟩ => ?_)
  cases d with
  | true => exact ha pins s1 σ H1 Q I1 q1
  | false => exact hb pins s1 σ H1 Q I1 q1
end
end L2
namespace L2
open PySem PySem.Spec PyProof.Rows
def SqL (K : PySem.W.Frag) (H : Hp) (a : Addr) (xs : List V) : Prop :=
  Rd H a (.lst xs) ∨
    ∃ (o : Obj) (its : Array Value) (n : Nat), K.lookup a = some o ∧ o.cls = .type "list" ∧ o.dict = none ∧ o.data = .seq its n ∧ its.size ≤ sizeLine ∧ Vals xs its.toList
def SqT (K : PySem.W.Frag) (H : Hp) (a : Addr) (xs : List V) : Prop :=
  Rd H a (.tup xs) ∨
    ∃ (o : Obj) (its : Array Value) (n : Nat), K.lookup a = some o ∧ o.cls = .type "tuple" ∧ o.data = .seq its n ∧ its.size ≤ sizeLine ∧ Vals xs its.toList
def absV : Value → Option V
  | .none => some .non
  | .bool b => some (.bl b)
  | .int i _ => some (.int i)
  | .str x _ => some (.str x)
  | .bytes b _ => some (.byt b)
  | .float b _ => some (.flt b)
  | .ref a => some (.ref a)
  | .type n => some (.ty n)
  | _ => none
theorem RelV.abs {x : V} {u : Value} (r : RelV x u) : absV u = some x := by
  cases x with
  | non => cases r; rfl
  | bl _ => cases r; rfl
  | int _ => obtain ⟨t, rfl⟩ := r; rfl
  | str _ => obtain ⟨t, rfl⟩ := r; rfl
  | byt _ => obtain ⟨t, rfl⟩ := r; rfl
  | flt _ => obtain ⟨t, rfl⟩ := r; rfl
  | ref _ => cases r; rfl
  | ty _ => cases r; rfl
theorem RelV.inj {x y : V} {u : Value} (r : RelV x u) (q : RelV y u) : x = y := Option.some.inj (r.abs.symm.trans q.abs)
theorem Vals.inj : ∀ {xs ys : List V} {us : List Value}, Vals xs us → Vals ys us → xs = ys
  | _, _, _, .nil, .nil => rfl
  | _, _, _, .cons r t, .cons r' t' => by rw [r.inj r', Vals.inj t t']
section
variable {X : Cx} {pins : List (Addr × Obj)} {σ : St} {H : Hp} {s : Shared} {a : Addr} {xs ys : List V}
theorem SqL.of {K : PySem.W.Frag} (h : H a = some (.lst xs)) : SqL K H a xs := .inl (.inl h)
theorem SqT.of {K : PySem.W.Frag} (h : H a = some (.tup xs)) : SqT K H a xs := .inl (.inl h)
theorem Inv.list (I : Inv X pins σ H s) (h : SqL X.K H a xs) : ∃ its : List Value, Vals xs its ∧ PlainL s.heap a its.toArray ∧ xs.length ≤ sizeLine := by
  rcases h with h | ⟨o, its, n, hk, hc, hd, hs, hz, r⟩
  · obtain ⟨z, its, n, r, e⟩ := h.ok I.hok
    exact ⟨its, r, ⟨_, n, e, rfl, rfl, rfl⟩, z⟩
  · refine ⟨its.toList, r, ⟨o, n, I.kIn a o hk, hc, hd, by simpa using hs⟩, ?_⟩
    have e := r.length
    simp only [Array.length_toList] at e
    omega
theorem Inv.tuple (I : Inv X pins σ H s) (h : SqT X.K H a xs) : ∃ its : List Value, Vals xs its ∧ IsTup s.heap a its.toArray ∧ xs.length ≤ sizeLine := by
  rcases h with h | ⟨o, its, n, hk, hc, hs, hz, r⟩
  · obtain ⟨z, its, r, p⟩ := h.ok I.hok
    exact ⟨its, r, p, z⟩
  · refine ⟨its.toList, r, ⟨o, I.kIn a o hk, hc, n, by simpa using hs⟩, ?_⟩
    have e := r.length
    simp only [Array.length_toList] at e
    omega
theorem Inv.list_inj (I : Inv X pins σ H s) (h : SqL X.K H a xs) (h' : SqL X.K H a ys) : xs = ys := by
  obtain ⟨its, r, ⟨o, n, e, _, _, d⟩, _⟩ := I.list h
  obtain ⟨its', r', ⟨o', n', e', _, _, d'⟩, _⟩ := I.list h'
  rw [e] at e'; cases e'
  rw [d] at d'
  injection d' with d1 _
  have : its = its' := by simpa using congrArg Array.toList d1
  subst this
  exact r.inj r'
theorem Inv.tuple_inj (I : Inv X pins σ H s) (h : SqT X.K H a xs) (h' : SqT X.K H a ys) : xs = ys := by
  obtain ⟨its, r, ⟨o, e, _, n, d⟩, _⟩ := I.tuple h
  obtain ⟨its', r', ⟨o', e', _, n', d'⟩, _⟩ := I.tuple h'
  rw [e] at e'; cases e'
  rw [d] at d'
  injection d' with d1 _
  have : its = its' := by simpa using congrArg Array.toList d1
  subst this
  exact r.inj r'
end
abbrev Cx.wish (X : Cx) (E : Value → Shared → Prop) : Cx := { X with xe := E }
abbrev Cx.nox (X : Cx) : Cx := X.wish fun _ _ => False
theorem Cx.Ok.wish {X : Cx} (ok : X.Ok) (E : Value → Shared → Prop) : (X.wish E).Ok :=
  ⟨ok.mod, ok.kind, ok.glob, ok.blt, ok.above, ok.inj, ok.has, ok.cab, ok.hd, ok.frames, ok.stk, ok.exf, ok.bs, ok.bsz, ok.noex, ok.exfs, ok.funs, ok.frf⟩
theorem Cx.Ok.unwish {X : Cx} {E : Value → Shared → Prop} (ok : (X.wish E).Ok) : X.Ok :=
  ⟨ok.mod, ok.kind, ok.glob, ok.blt, ok.above, ok.inj, ok.has, ok.cab, ok.hd, ok.frames, ok.stk, ok.exf, ok.bs, ok.bsz, ok.noex, ok.exfs, ok.funs, ok.frf⟩
section
variable {X : Cx} {pins : List (Addr × Obj)} {σ : St} {H : Hp} {s : Shared} {E : Value → Shared → Prop}
theorem Inv.wish (I : Inv X pins σ H s) (E : Value → Shared → Prop) : Inv (X.wish E) pins σ H s := ⟨I.ok.wish E, I.os, I.bare, I.base, I.loc, I.cell, I.free, I.freeC, I.pin, I.hok, I.len⟩
theorem Inv.unwish (I : Inv (X.wish E) pins σ H s) : Inv X pins σ H s := ⟨I.ok.unwish, I.os, I.bare, I.base, I.loc, I.cell, I.free, I.freeC, I.pin, I.hok, I.len⟩
theorem SP.unwish {D : Ends} {f : Flow} {s' : Shared} (h : SP (X.wish E) pins D f s') : SP X pins D f s' := by
  cases f with
  | next => obtain ⟨σ', H', I, q⟩ := h; exact ⟨σ', H', I.unwish, q⟩
  | brk => obtain ⟨σ', H', I, q⟩ := h; exact ⟨σ', H', I.unwish, q⟩
  | cont => obtain ⟨σ', H', I, q⟩ := h; exact ⟨σ', H', I.unwish, q⟩
  | ret u => obtain ⟨v, σ', H', I, r, q⟩ := h; exact ⟨v, σ', H', I.unwish, r, q⟩
theorem PSs.nox {st : List Stmt} {t : TS} (h : PSs X.nox st t) : PSs X st t := fun pins s σ H D I hw =>
  wpAny_mono (h pins s σ H D (I.wish _) hw) (fun _ _ q => q.unwish) fun _ _ z => False.elim z
end
section
variable {X : Cx} {st : Stmt} {rest : List Stmt} {t u : TS} {e : Expr} {te : TE} {pos : Pos}
def tNext : TS := fun D σ H => D.nx σ H
def tSeq (t u : TS) : TS := fun D σ H => t { D with nx := u D } σ H
theorem pss_nil : PSs X [] tNext := fun _ _ σ H _ I h => wpAny_execs_nil ⟨σ, H, I, h⟩
theorem pss_cons (h1 : PS X st t) (h2 : PSs X rest u) : PSs X (st :: rest) (tSeq t u) := by
  intro pins s σ H D I h
  refine wpAny_execs_cons (thn (h1 pins s σ H { D with nx := u D } I h) fun f s1 q => ?_)
  cases f with
  | next =>
    obtain ⟨σ', H', I', q⟩ := q
    exact h2 pins s1 σ' H' D I' q
  | ret v => exact q
  | brk => exact q
  | cont => exact q
theorem pss_one (h1 : PS X st t) : PSs X [st] t := by
  intro pins s σ H D I h
  refine wpAny_execs_cons (thn (h1 pins s σ H D I h) fun f s1 q => ?_)
  cases f with
  | next => exact wpAny_execs_nil q
  | ret v => exact q
  | brk => exact q
  | cont => exact q
theorem Inv.quiet {pins : List (Addr × Obj)} {σ : St} {H : Hp} {s : Shared} (I : Inv X pins σ H s) : interactive X.env = false := by simp [interactive, I.ok.kind]
def tDrop (te : TE) : TS := fun D σ H => te σ H fun _ H1 => D.nx σ H1
theorem ps_expr (he : PE X e te) (hs : swapsWith e none pos.line X.env = pure false := by rfl) : PS X (.Expr e pos) (tDrop te) := by
  intro pins s σ H D I h
  exact wpAny_Expr_any (thn (he pins s σ H _ I h) fun v s1 ⟨x, H1, I1, r1, q1⟩ => ⟨σ, H1, I1, q1⟩) I.quiet hs
def tRet (te : TE) : TS := fun D σ H => te σ H D.rt
theorem ps_ret (he : PE X e te) : PS X (.Return (some e) pos) (tRet te) := by
  intro pins s σ H D I h
  exact wpAny_Return_some (thn (he pins s σ H _ I h) fun v s1 ⟨x, H1, I1, r1, q1⟩ => ⟨x, σ, H1, I1, r1, q1⟩)
def tIfS (c : TT) (t u : TS) : TS := fun D σ H => c σ H fun b H1 => if b = true then t D σ H1 else u D σ H1
theorem ps_if {c : Expr} {a b : List Stmt} {tc : TT} (hc : PT X c tc) (ha : PSs X a t) (hb : PSs X b u) : PS X (.If c a b pos) (tIfS tc t u) := by
  intro pins s σ H D I h
  refine wpAny_If (thn (hc pins s σ H _ I h) fun d s1 ⟨H1, I1, q1⟩ => ?_)
  cases d with
  | true => exact ha pins s1 σ H1 D I1 q1
  | false => exact hb pins s1 σ H1 D I1 q1
def tNever : TS := fun _ _ _ => False
theorem ps_never : PS X st tNever := fun _ _ _ _ _ _ h => h.elim
end
abbrev TG := V → St → Hp → (St → Hp → Prop) → Prop
abbrev TGs := List V → St → Hp → (St → Hp → Prop) → Prop
def PG (X : Cx) (target : Expr) (t : TG) : Prop :=
  ∀ (pins : List (Addr × Obj)) (s : Shared) (σ : St) (H : Hp) (v : V) (u : Value) (Q : St → Hp → Prop), Inv X pins σ H s → RelV v u → t v σ H Q →
    wpAny (model X.prog X.w) X.A (assign target X.env u) (fun _ s' => ∃ σ' H', Inv X pins σ' H' s' ∧ Q σ' H') X.xe s
def PGs (X : Cx) (ts : List Expr) (t : TGs) : Prop :=
  ∀ (pins : List (Addr × Obj)) (s : Shared) (σ : St) (H : Hp) (vs : List V) (us : List Value) (Q : St → Hp → Prop), Inv X pins σ H s → Vals vs us → t vs σ H Q →
    wpAny (model X.prog X.w) X.A (assignInOrder ((assignEach ts X.env).map (·.2)) us) (fun _ s' => ∃ σ' H', Inv X pins σ' H' s' ∧ Q σ' H') X.xe s
section
variable {X : Cx} {pos : Pos}
def gName (i : Nat) : TG := fun v σ H Q => Q (σ.set i (some v)) H
theorem pg_name {i : Nat} {x : Str} (hN : X.N.Nodup) (hi : X.N[i]? = some x) (hx : Loc X.env.scope x) (hf : X.fn x = true ∨ X.env.scope.names.lookup x = some .local := by first | exact .inl rfl | exact .inr rfl | assumption) : PG X (.Name x pos) (gName i) := by
  intro pins s σ H v u Q I r h
  exact wpAny_assign_Name (store_ok I hN hi hx r (fun s' I' => ⟨_, H, I', h⟩) hf)
def gNil : TGs := fun vs σ H Q => vs = [] ∧ Q σ H
def gCons (t : TG) (u : TGs) : TGs := fun vs σ H Q => ∃ v r, vs = v :: r ∧ t v σ H fun σ' H' => u r σ' H' Q
theorem pgs_nil : PGs X [] gNil := by
  intro pins s σ H vs us Q I r h
  obtain ⟨e, h⟩ := h
  subst e
  cases r
  exact assignInOrder_nil ⟨σ, H, I, h⟩
theorem pgs_cons {e : Expr} {es : List Expr} {t : TG} {u : TGs} (h1 : PG X e t) (h2 : PGs X es u)
    (hs : (assignEach (e :: es) X.env).map (·.2) = assign e X.env :: (assignEach es X.env).map (·.2) := by rfl) : PGs X (e :: es) (gCons t u) := by
  intro pins s σ H vs us Q I r h
  obtain ⟨v, vr, e1, h⟩ := h
  subst e1
  cases r with
  | cons r rr =>
    rw [hs]
    refine assignInOrder_cons (thn (h1 pins s σ H _ _ _ I r h) fun _ s1 ⟨σ1, H1, I1, q1⟩ => ?_)
    exact h2 pins s1 σ1 H1 _ _ Q I1 rr q1
def gTup (K : PySem.W.Frag) (n : Nat) (t : TGs) : TG := fun v σ H Q => ∃ a xs, v = .ref a ∧ SqT K H a xs ∧ xs.length = n ∧ t xs σ H Q
theorem pg_tup {es : List Expr} {k : Nat} {t : TGs} {n : Nat} (hc : X.calm = true) (h : PGs X es t)
    (hn : (assignEach es X.env).length = n := by rfl) (hst : (assignEach es X.env).findIdx? (·.1) = none := by rfl) : PG X (.Tuple es k pos) (gTup X.K n t) := by
  intro pins s σ H v u Q I r hw
  obtain ⟨a, xs, e1, hq, hl, hw⟩ := hw
  subst e1
  cases r
  obtain ⟨its, rv, ht, hz⟩ := I.tuple hq
  refine assign_Tuple_tuple (I.ok.hd hc) ht (by simp [hn, ← hl, rv.length]) hst fun h' hx => ?_
  have I1 : Inv X pins σ H { s with heap := h' } := I.kept (t' := s.toks) fun b o e => hx b o (Nat.ne_of_lt (Heap.lt_size e)) e
  exact h pins _ σ H xs _ Q I1 (by simpa using rv) hw
def tAsg (te : TE) (g : TG) : TS := fun D σ H => te σ H fun x H1 => g x σ H1 D.nx
theorem ps_asg {tg e : Expr} {te : TE} {g : TG} (he : PE X e te) (hg : PG X tg g) (hs : swapsWithSole [tg] e pos.line X.env = pure false := by rfl) (hw : swappedStores [tg] e X.env = pure none := by rfl)
    (h1 : (assignEach [tg] X.env).map (·.2) = [assign tg X.env] := by rfl) : PS X (.Assign [tg] e pos) (tAsg te g) := by
  intro pins s σ H D I h
  refine wpAny_Assign_stores (thn (he pins s σ H _ I h) fun v s1 ⟨x, H1, I1, r1, q1⟩ => ?_) hs hw
  rw [h1]
  exact thn (hg pins s1 σ H1 x v _ I1 r1 q1) fun _ s2 q => q
theorem ps_set {i : Nat} {x : Str} {e : Expr} {te : TE} {pos' : Pos} (hN : X.N.Nodup) (hi : X.N[i]? = some x) (hx : Loc X.env.scope x) (he : PE X e te) (hs : swapsWith e (some (.Name x pos')) pos.line X.env = pure false := by rfl) (hf : X.fn x = true ∨ X.env.scope.names.lookup x = some .local := by first | exact .inl rfl | exact .inr rfl | assumption) :
    PS X (.Assign [.Name x pos'] e pos) (tAsg te (gName i)) := by
  intro pins s σ H D I h
  refine wpAny_Assign_Name (thn (he pins s σ H _ I h) fun v s1 ⟨y, H1, I1, r1, q1⟩ => ?_) hs
  exact store_ok I1 hN hi hx r1 (fun s2 I2 => ⟨_, H1, I2, q1⟩) hf
end
section
variable {X : Cx} {pos : Pos}
end
structure It where
  go : Nat → Hp → Prop
  yld : Nat → Hp → V → Hp → Prop
  stop : Nat → Hp → Prop
def FpOk (X : Cx) (pins : List (Addr × Obj)) (H : Hp) (b : Addr) : Prop :=
  H b = none ∧ b ≠ X.env.locals ∧ b ∉ X.fs ∧ (b ∈ X.ex ∨ X.s₀.heap.objs.size ≤ b) ∧ (∀ x c, X.env.cells.lookup x = some c → c ≠ b) ∧ ∀ p ∈ X.pn ++ pins, p.1 ≠ b
theorem Inv.fpOk {X : Cx} {pins : List (Addr × Obj)} {σ : St} {H H' : Hp} {s : Shared} {b : Addr} (I : Inv X pins σ H s) (hb : s.heap.objs.size ≤ b) (hn : H' b = none) : FpOk X pins H' b := by
  refine ⟨hn, Nat.ne_of_gt (Nat.lt_of_lt_of_le I.lt hb), I.nofs hb, .inr (Nat.le_trans I.sz hb), fun x c e z => ?_, fun p hp z => ?_⟩
  · obtain ⟨v, q⟩ := I.cell x c e
    exact absurd (Nat.lt_of_lt_of_le q.lt (by rw [z]; exact hb)) (Nat.lt_irrefl _)
  · exact absurd (Nat.lt_of_lt_of_le (Heap.lt_size (I.pin p hp).1) (by rw [z]; exact hb)) (Nat.lt_irrefl _)
structure Turn (P : Program) (w : World) (K : PySem.W.Frag) (tg : Expr) (J : It) (fp : List Addr) (it : Addr) (tn : Nat → Heap → Prop) : Prop where
  mem : it ∈ fp
  obj : ∀ i h, tn i h → ∀ b ∈ fp, ∃ o, h.get? b = some o ∧ ∀ v, o.data ≠ .cell v
  keep : ∀ i h h', tn i h → (∀ b ∈ fp, ∀ o, h.get? b = some o → h'.get? b = some o) → tn i h'
  item : ∀ (X : Cx), X.prog = P → X.w = w → X.K = K → X.calm = true → ∀ (i : Nat) (pins : List (Addr × Obj)) (s : Shared) (σ : St) (H : Hp) (E : Value → Shared → Prop), Inv X pins σ H s → (∀ b ∈ fp, FpOk X pins H b) → tn i s.heap → J.go i H →
    wpAny (model P w) X.A (pyNext (.ref it)) (fun r s1 => ∃ u, r = some u ∧
      wpAny (model P w) X.A (letOwnedTupleGo tg (.ref it) u) (fun _ s2 => ∃ x H', Inv X pins σ H' s2 ∧ RelV x u ∧ J.yld i H x H' ∧ tn (i + 1) s2.heap ∧ ∀ b ∈ fp, H' b = none) E s1) E s
  done : ∀ (X : Cx), X.prog = P → X.w = w → X.K = K → X.calm = true → ∀ (i : Nat) (pins : List (Addr × Obj)) (s : Shared) (σ : St) (H : Hp) (E : Value → Shared → Prop), Inv X pins σ H s → (∀ b ∈ fp, FpOk X pins H b) → tn i s.heap → J.stop i H →
    wpAny (model P w) X.A (pyNext (.ref it)) (fun r s1 => r = none ∧ Inv X pins σ H s1) E s
  self : ∀ (A : Around) (i : Nat) (s : Shared) (Q : Value → Shared → Prop) (E : Value → Shared → Prop), tn i s.heap → Q (.ref it) s → wpAny (model P w) A (pyIter (.ref it)) Q E s
abbrev TI := St → Hp → (It → Hp → Prop) → Prop
def PIE (X : Cx) (pins : List (Addr × Obj)) (σ : St) (tg : Expr) (R : It → Hp → Prop) (itv : Value) (s2 : Shared) : Prop :=
  ∃ (it : Addr) (fp : List Addr) (tn : Nat → Heap → Prop) (J : It) (H' : Hp), itv = .ref it ∧ Inv X pins σ H' s2 ∧ Turn X.prog X.w X.K tg J fp it tn ∧ tn 0 s2.heap ∧ (∀ b ∈ fp, FpOk X pins H' b) ∧ R J H'
def PI (X : Cx) (tg iter : Expr) (wi : TI) : Prop :=
  ∀ (pins : List (Addr × Obj)) (s : Shared) (σ : St) (H : Hp) (R : It → Hp → Prop), Inv X pins σ H s → wi σ H R →
    wpAny (model X.prog X.w) X.A (eval iter X.env) (fun v s1 => wpAny (model X.prog X.w) X.A (pyIter v) (PIE X pins σ tg R) X.xe s1) X.xe s
theorem go_of {M : Model} {A : Around} {E : Value → Shared → Prop} {s : Shared} {tg : Expr} {it : Addr} {u : Value} {o : Obj} {n : String} {vs : Array Value} {Q : Unit → Shared → Prop} (ho : s.heap.get? it = some o) (hc : o.cls = .type n) (hd : o.data = .fields vs)
    (hn : ["enumerate", "zip", "dict_itemiterator", "dict_reverseitemiterator", "odict_iterator", "itertools.zip_longest", "itertools.pairwise"].contains n = false) (hQ : Q () s) : wpAny M A (letOwnedTupleGo tg (.ref it) u) Q E s := by
  unfold letOwnedTupleGo
  cases tg <;> first
    | exact wpAny_pure hQ
    | (cases u <;> first
        | exact wpAny_pure hQ
        | (refine wpAny_bind (wpAny_load ho ?_)
           rw [hc, hd]
           show wpAny M A (if (["enumerate", "zip", "dict_itemiterator", "dict_reverseitemiterator", "odict_iterator", "itertools.zip_longest", "itertools.pairwise"].contains n && vs[0]? == some (rawInt _)) = true then _ else _) Q E s
           rw [if_neg (by intro h; rw [hn, Bool.false_and] at h; cases h)]
           exact wpAny_pure hQ))
def Itl (K : PySem.W.Frag) (a : Addr) : It :=
  ⟨fun i H => ∃ xs x, SqL K H a xs ∧ xs[i]? = some x, fun i H x H' => H' = H ∧ ∀ xs, SqL K H a xs → xs[i]? = some x, fun i H => ∃ xs, SqL K H a xs ∧ xs.length ≤ i⟩
def Itr (lo : Int) (n : Nat) : It := ⟨fun i _ => i < n, fun i H x H' => H' = H ∧ x = .int (lo + i), fun i _ => n ≤ i⟩
theorem turn_list {P : Program} {w : World} {K : PySem.W.Frag} {tg : Expr} (a it : Addr) : Turn P w K tg (Itl K a) [it] it (fun i h => h.IsListIter it a i) where
  mem := by simp
  obj := fun i h st b hb => by
    have e : b = it := by simpa using hb
    subst e
    obtain ⟨o, e, c, d⟩ := st
    exact ⟨o, e, fun v z => by rw [d] at z; cases z⟩
  keep := fun i h h' st k => st.at fun o e => k it (by simp) o e
  item := by
    intro X hP hw hK hc i pins s σ H E I hf st hg
    subst hP hw hK
    obtain ⟨xs, x, hq, hx⟩ := hg
    obtain ⟨its, rv, p, hz⟩ := I.list hq
    obtain ⟨u, hu, ru⟩ := rv.get hx
    obtain ⟨f0, f1, f2, f3, f4, f5⟩ := hf it (by simp)
    refine wpAny_pyNext_list_item st p.isList (x := u) (by simpa using hu) fun h' st' sb => ?_
    have I1 : Inv X pins σ H { s with heap := h' } := I.turned (t' := s.toks) (fun b o hb e => (sb.2 b hb).trans e) f0 f1 f3 f4 f5
    obtain ⟨o, e, c, d⟩ := id st'
    exact ⟨u, rfl, go_of (s := { s with heap := h' }) e c d (by decide) ⟨x, H, I1, ru, ⟨rfl, fun ys hy => by rw [I.list_inj hy hq]; exact hx⟩, st', fun b hb => (hf b hb).1⟩⟩
  done := by
    intro X hP hw hK hc i pins s σ H E I hf st hg
    subst hP hw hK
    obtain ⟨xs, hq, hx⟩ := hg
    obtain ⟨its, rv, p, hz⟩ := I.list hq
    obtain ⟨f0, f1, f2, f3, f4, f5⟩ := hf it (by simp)
    have hl := rv.length
    exact wpAny_pyNext_list_end (I.ok.hd hc) st p.isList (by simp; omega) fun h' eb => ⟨rfl, I.turned (t' := s.toks) (fun b o hb e => eb b o hb e) f0 f1 f3 f4 f5⟩
  self := fun _ _ _ _ _ st h => wpAny_pyIter_listiter st h
theorem turn_range {P : Program} {w : World} {K : PySem.W.Frag} {tg : Expr} (it : Addr) (lo : Int) (n : Nat) : Turn P w K tg (Itr lo n) [it] it (fun i h => IsRangeIter h it (lo + (i : Nat) * 1) ((n : Int) - (i : Nat)) 1) where
  mem := by simp
  obj := fun i h st b hb => by
    have e : b = it := by simpa using hb
    subst e
    exact ⟨_, st, fun v z => by
      have z' : Data.fields _ = Data.cell v := z
      cases z'⟩
  keep := fun i h h' st k => k it (by simp) _ st
  item := by
    intro X hP hw hK hc i pins s σ H E I hf st hg
    subst hP hw hK
    obtain ⟨f0, f1, f2, f3, f4, f5⟩ := hf it (by simp)
    have W := Walks.range (prog := X.prog) (w := X.w) (I.ok.hd hc) it lo 1 n
    refine W.item i s _ _ hg st fun v h' tk hv st' kk => ?_
    obtain ⟨t, rfl⟩ := hv
    have I1 : Inv X pins σ H { s with heap := h', toks := tk } := I.turned (fun b o hb e => kk b o (by simpa using hb) e) f0 f1 f3 f4 f5
    refine ⟨_, rfl, go_of (s := { s with heap := h', toks := tk }) (n := "range_iterator") st' rfl rfl (by decide) ⟨.int (lo + i), H, I1, ⟨t, ?_⟩, ⟨rfl, rfl⟩, st', fun b hb => (hf b hb).1⟩⟩
    rw [Int.mul_one]
  done := by
    intro X hP hw hK hc i pins s σ H E I hf st hg
    subst hP hw hK
    obtain ⟨f0, f1, f2, f3, f4, f5⟩ := hf it (by simp)
    exact wpAny_pyNext_range_end (I.ok.hd hc) st (by have : n ≤ i := hg; omega) fun h' eb => ⟨rfl, I.turned (t' := s.toks) (fun b o hb e => eb b o hb e) f0 f1 f3 f4 f5⟩
  self := fun _ _ _ _ _ st h => wpAny_pyIter_rangeiter st h
end L2
namespace L2
open PySem PySem.Spec PyProof.Rows
section
variable {X : Cx} {tg : Expr}
def iList (K : PySem.W.Frag) (tl : TE) : TI := fun σ H R => tl σ H fun x H1 => ∃ a, x = .ref a ∧ (∃ xs, SqL K H1 a xs) ∧ R (Itl K a) H1
theorem pi_list {l : Expr} {tl : TE} (hl : PE X l tl) : PI X tg l (iList X.K tl) := by
  intro pins s σ H R I h
  refine thn (hl pins s σ H _ I h) fun v s1 ⟨x, H1, I1, r1, q1⟩ => ?_
  obtain ⟨a, e, ⟨xs, hq⟩, q⟩ := q1
  subst e
  cases r1
  obtain ⟨its, rv, p, hz⟩ := I1.list hq
  refine wpAny_pyIter_list p.isList ?_
  refine ⟨s1.heap.objs.size, [s1.heap.objs.size], _, _, H1, rfl, I1.kept (t' := s1.toks) fun b o e => Heap.get?_push_of_some _ e, turn_list a _, ⟨_, Heap.get?_push_size _ rfl, rfl, rfl⟩, fun b hb => ?_, q⟩
  have e : b = s1.heap.objs.size := by simpa using hb
  subst e
  exact I1.fpOk (Nat.le_refl _) (I1.hok.fresh (Nat.le_refl _))
theorem range_it {pins : List (Addr × Obj)} {σ : St} {H : Hp} {s : Shared} {R : It → Hp → Prop} {E : Value → Shared → Prop} {lo hi : Int} {t u v : Tok} {tk : Nat} (I : Inv X pins σ H s) (h1 : -(2 ^ 62) ≤ lo) (h2 : lo < 2 ^ 62) (h3 : -(2 ^ 62) ≤ hi) (h4 : hi < 2 ^ 62)
    (q : R (Itr lo (hi - lo).toNat) H) : wpAny (model X.prog X.w) X.A (pyIter (.ref s.heap.objs.size)) (PIE X pins σ tg R) E { s with heap := s.heap.push { cls := .type "range", data := .fields #[.int lo t, .int hi u, .int 1 v] }, toks := tk } := by
  refine wpAny_pyIter_range (IsRange.new ..) (small_one h1 h2 h3 h4) ?_
  have I1 : Inv X pins σ H { s with heap := s.heap.push { cls := .type "range", data := .fields #[.int lo t, .int hi u, .int 1 v] }, toks := tk } := I.kept fun b o e => Heap.get?_push_of_some _ e
  refine ⟨(s.heap.push { cls := .type "range", data := .fields #[.int lo t, .int hi u, .int 1 v] }).objs.size, [(s.heap.push { cls := .type "range", data := .fields #[.int lo t, .int hi u, .int 1 v] }).objs.size], _, _, H, rfl,
    I1.kept (t' := tk) fun b o e => Heap.get?_push_of_some _ e, turn_range _ lo (hi - lo).toNat, ?_, fun b hb => ?_, q⟩
  · have e1 : lo + ((0 : Nat) : Int) * 1 = lo := by simp
    have e2 : (((hi - lo).toNat : Nat) : Int) - ((0 : Nat) : Int) = Builtin.Range.rangeSize lo hi 1 := by rw [rangeSize_one]; split <;> omega
    show IsRangeIter _ _ (lo + ((0 : Nat) : Int) * 1) ((((hi - lo).toNat : Nat) : Int) - ((0 : Nat) : Int)) 1
    rw [e1, e2]
    exact Heap.get?_push_size _ rfl
  · have e : b = (s.heap.push { cls := .type "range", data := .fields #[.int lo t, .int hi u, .int 1 v] }).objs.size := by simpa using hb
    subst e
    exact I1.fpOk (Nat.le_refl _) (I1.hok.fresh (Nat.le_refl _))
def iRng1 (ta : TA) : TI := fun σ H R => ta σ H fun vs H1 => ∃ j : Int, vs = [.int j] ∧ -(2 ^ 62) ≤ j ∧ j < 2 ^ 62 ∧ R (Itr 0 j.toNat) H1
def iRng2 (ta : TA) : TI := fun σ H R => ta σ H fun vs H1 => ∃ i j : Int, vs = [.int i, .int j] ∧ (-(2 ^ 62) ≤ i ∧ i < 2 ^ 62 ∧ -(2 ^ 62) ≤ j ∧ j < 2 ^ 62) ∧ R (Itr i (j - i).toNat) H1
theorem pi_range1 {a : Expr} {ta : TA} {p pos : Pos} (hg : Gl X "range") (hm : X.mg "range" = none) (ha : PA X [a] ta) (hs : starEach [a] X.env = [(false, eval a X.env)] := by rfl) : PI X tg (.Call (.Name "range" p) [a] [] pos) (iRng1 ta) := by
  intro pins s σ H R I h
  refine Call_ (ld_blt I hg hm boot_range (PyProof.Rows.callWith_type1 (thn (ha pos pins s σ H _ I h) fun us s1 ⟨vs, H1, I1, r1, q1⟩ => ?_) hs rfl))
  obtain ⟨j, e, q1, q2, q⟩ := q1
  subst e
  cases r1 with
  | cons r rr =>
    cases rr
    obtain ⟨t, rfl⟩ := r
    exact call_range_1 (range_it I1 (by omega) (by omega) q1 q2 (by simpa using q))
theorem pi_range2 {a b : Expr} {ta : TA} {p pos : Pos} (hg : Gl X "range") (hm : X.mg "range" = none) (ha : PA X [a, b] ta) (hs : starEach [a, b] X.env = [(false, eval a X.env), (false, eval b X.env)] := by rfl) (hs2 : starEach [b] X.env = [(false, eval b X.env)] := by rfl) :
    PI X tg (.Call (.Name "range" p) [a, b] [] pos) (iRng2 ta) := by
  intro pins s σ H R I h
  refine Call_ (ld_blt I hg hm boot_range (PyProof.Rows.callWith_type1 (thn (ha pos pins s σ H _ I h) fun us s1 ⟨vs, H1, I1, r1, q1⟩ => ?_) (by rw [hs, hs2]) (by rw [hs2]; rfl)))
  obtain ⟨i, j, e, ⟨q1, q2, q3, q4⟩, q⟩ := q1
  subst e
  cases r1 with
  | cons r rr =>
    cases rr with
    | cons r' rr =>
      cases rr
      obtain ⟨t, rfl⟩ := r
      obtain ⟨t', rfl⟩ := r'
      exact call_range_2 (range_it I1 q1 q2 q3 q4 q)
def tFor (wi : TI) (g : TG) (tb : TS) : TS := fun D σ H => wi σ H fun J H1 => ∃ W : Nat → Nat → St → Hp → Prop, (∃ m, W 0 m σ H1) ∧ ∀ i m σ H, W i m σ H →
  (J.stop i H ∧ D.nx σ H) ∨ (J.go i H ∧ ∃ N : St → Hp → Prop, (∀ σ' H', N σ' H' → ∃ m', m' < m ∧ W (i + 1) m' σ' H') ∧ ∀ x H', J.yld i H x H' → g x σ H' fun σ2 H2 => tb { D with nx := N, ct := N, bk := D.nx } σ2 H2)
def pinsAt (fp : List Addr) (h : Heap) : List (Addr × Obj) := fp.filterMap fun b => (h.get? b).map fun o => (b, o)
theorem mem_pinsAt {fp : List Addr} {h : Heap} {b : Addr} {o : Obj} (hb : b ∈ fp) (e : h.get? b = some o) : (b, o) ∈ pinsAt fp h := List.mem_filterMap.mpr ⟨b, hb, by rw [e]; rfl⟩
theorem of_pinsAt {fp : List Addr} {h : Heap} {p : Addr × Obj} (hp : p ∈ pinsAt fp h) : p.1 ∈ fp ∧ h.get? p.1 = some p.2 := by
  obtain ⟨b, hb, e⟩ := List.mem_filterMap.mp hp
  cases q : h.get? b with
  | none => rw [q] at e; cases e
  | some o =>
    rw [q] at e
    have e' : (b, o) = p := Option.some.inj e
    subst e'
    exact ⟨hb, q⟩
theorem Inv.pinned {pins : List (Addr × Obj)} {σ : St} {H : Hp} {s : Shared} {fp : List Addr} (I : Inv X pins σ H s) (hf : ∀ b ∈ fp, FpOk X pins H b) (ho : ∀ b ∈ fp, ∃ o, s.heap.get? b = some o ∧ ∀ v, o.data ≠ .cell v) : Inv X (pins ++ pinsAt fp s.heap) σ H s :=
  I.pins_of fun p hp => (List.mem_append.mp hp).elim (fun z => I.pin p (List.mem_append_right _ z)) fun z => by
    obtain ⟨hb, e⟩ := of_pinsAt z
    obtain ⟨f0, f1, f2, _⟩ := hf p.1 hb
    obtain ⟨o, e', d⟩ := ho p.1 hb
    rw [e] at e'; cases e'
    exact ⟨e, f0, f1, f2, d⟩
theorem Inv.unpinned {pins pl : List (Addr × Obj)} {σ : St} {H : Hp} {s : Shared} (I : Inv X (pins ++ pl) σ H s) : Inv X pins σ H s := I.pins_of fun p hp => I.pin p (List.mem_append_right _ (List.mem_append_left _ hp))
theorem ps_for {iter : Expr} {body : List Stmt} {wi : TI} {g : TG} {tb : TS} {pos : Pos} (hp : PassesOwn (model X.prog X.w) X.A X.env X.xe) (hc : X.calm = true) (hi : PI X tg iter wi) (hg : PG X tg g) (hb : PSs X body tb)
    (hs : ∀ x, foldedSetIterable iter X.env x = pure x := by intro _; rfl) : PS X (.For tg iter body [] pos) (tFor wi g tb) := by
  intro pins s σ H D I h
  refine wpAny_For (thn (hi pins s σ H _ I h) fun v s1 h1 => thn h1 fun itv s2 h2 => ?_) hs
  obtain ⟨it, fp, tn, J, H2, e, I2, T, st2, f2, W, ⟨m0, w0⟩, turn⟩ := h2
  subst e
  have stat : ∀ {H' : Hp}, (∀ b ∈ fp, H' b = none) → ∀ b ∈ fp, FpOk X pins H' b := fun hn b hb => ⟨hn b hb, (f2 b hb).2⟩
  refine codeAny_forLoop_any (fun n s' => ∃ i σ' H', Inv X pins σ' H' s' ∧ tn i s'.heap ∧ (∀ b ∈ fp, H' b = none) ∧ W i n σ' H') ?_ m0 ⟨0, σ, H2, I2, st2, fun b hb => (f2 b hb).1, w0⟩
  rintro n s3 ⟨i, σ3, H3, I3, st3, fr3, w3⟩
  rcases turn i n σ3 H3 w3 with ⟨stop, qn⟩ | ⟨go, N, hN, step⟩
  · refine wpAny_passesOwn hp (thn (T.done X rfl rfl rfl hc i pins s3 σ3 H3 X.xe I3 (stat fr3) st3 stop) fun r s4 ⟨hr, I4⟩ => ?_)
    subst hr
    exact wpAny_execs_nil ⟨σ3, H3, I4, qn⟩
  · refine wpAny_passesOwn hp (thn (T.item X rfl rfl rfl hc i pins s3 σ3 H3 X.xe I3 (stat fr3) st3 go) fun r s4 ⟨u, hr, h4⟩ => ?_)
    subst hr
    refine wpAny_passesOwn hp (thn h4 fun _ s5 ⟨x, H5, I5, r5, y5, st5, fr5⟩ => ?_)
    have I5' := I5.pinned (stat fr5) (T.obj _ _ st5)
    refine wpAny_passesOwn hp (thn (hg _ s5 σ3 H5 x u _ I5' r5 (step x H5 y5)) fun _ s6 ⟨σ6, H6, I6, q6⟩ => ?_)
    refine wpAny_passesOwn hp (thn (hb _ s6 σ6 H6 _ I6 q6) fun f s7 q7 => ?_)
    have again : ∀ {σ7 : St} {H7 : Hp}, Inv X (pins ++ pinsAt fp s5.heap) σ7 H7 s7 → N σ7 H7 → ∃ m, m < n ∧ ∃ i σ' H', Inv X pins σ' H' s7 ∧ tn i s7.heap ∧ (∀ b ∈ fp, H' b = none) ∧ W i m σ' H' := fun {σ7 H7} I7 n7 => by
      obtain ⟨m', hm, w7⟩ := hN σ7 H7 n7
      refine ⟨m', hm, i + 1, σ7, H7, I7.unpinned, T.keep _ _ _ st5 fun b hb o e => (I7.pin (b, o) (List.mem_append_right _ (List.mem_append_right _ (mem_pinsAt hb e)))).1, fun b hb => ?_, w7⟩
      obtain ⟨o, e, d⟩ := T.obj _ _ st5 b hb
      exact (I7.pin (b, o) (List.mem_append_right _ (List.mem_append_right _ (mem_pinsAt hb e)))).2.1
    cases f with
    | next => obtain ⟨σ7, H7, I7, n7⟩ := q7; exact again I7 n7
    | cont => obtain ⟨σ7, H7, I7, n7⟩ := q7; exact again I7 n7
    | brk => obtain ⟨σ7, H7, I7, q7⟩ := q7; exact ⟨σ7, H7, I7.unpinned, q7⟩
    | ret v => obtain ⟨x7, σ7, H7, I7, r7, q7⟩ := q7; exact ⟨x7, σ7, H7, I7.unpinned, r7, q7⟩
end
theorem for_list {K : PySem.W.Frag} {a : Addr} {xs : List V} {g : TG} {tb : TS} {D : Ends} {σ : St} {H : Hp} (Pv : Nat → St → Hp → Prop) (h0 : Pv 0 σ H) (hl : ∀ i σ H, i ≤ xs.length → Pv i σ H → SqL K H a xs)
    (hs : ∀ i x σ H, xs[i]? = some x → Pv i σ H → g x σ H fun σ2 H2 => tb { D with nx := Pv (i + 1), ct := Pv (i + 1), bk := D.nx } σ2 H2) (hd : ∀ σ H, Pv xs.length σ H → D.nx σ H) :
    ∃ W : Nat → Nat → St → Hp → Prop, (∃ m, W 0 m σ H) ∧ ∀ i m σ H, W i m σ H →
      ((Itl K a).stop i H ∧ D.nx σ H) ∨ ((Itl K a).go i H ∧ ∃ N : St → Hp → Prop, (∀ σ' H', N σ' H' → ∃ m', m' < m ∧ W (i + 1) m' σ' H') ∧ ∀ x H', (Itl K a).yld i H x H' → g x σ H' fun σ2 H2 => tb { D with nx := N, ct := N, bk := D.nx } σ2 H2) := by
  refine ⟨fun i m σ H => m = xs.length - i ∧ i ≤ xs.length ∧ Pv i σ H, ⟨xs.length, by simp, Nat.zero_le _, h0⟩, ?_⟩
  rintro i m σ H ⟨rfl, hi, p⟩
  have q := hl i σ H hi p
  by_cases hlt : i < xs.length
  · refine .inr ⟨⟨xs, xs[i], q, by simp [hlt]⟩, Pv (i + 1), fun σ' H' p' => ⟨xs.length - (i + 1), by omega, rfl, hlt, p'⟩, fun x H' y => ?_⟩
    obtain ⟨e, y⟩ := y
    subst e
    exact hs i x σ _ (y xs q) p
  · have e : i = xs.length := by omega
    subst e
    exact .inl ⟨⟨xs, q, Nat.le_refl _⟩, hd σ H p⟩
theorem for_range {lo : Int} {n : Nat} {g : TG} {tb : TS} {D : Ends} {σ : St} {H : Hp} (Pv : Nat → St → Hp → Prop) (h0 : Pv 0 σ H)
    (hs : ∀ i σ H, i < n → Pv i σ H → g (.int (lo + i)) σ H fun σ2 H2 => tb { D with nx := Pv (i + 1), ct := Pv (i + 1), bk := D.nx } σ2 H2) (hd : ∀ σ H, Pv n σ H → D.nx σ H) :
    ∃ W : Nat → Nat → St → Hp → Prop, (∃ m, W 0 m σ H) ∧ ∀ i m σ H, W i m σ H →
      ((Itr lo n).stop i H ∧ D.nx σ H) ∨ ((Itr lo n).go i H ∧ ∃ N : St → Hp → Prop, (∀ σ' H', N σ' H' → ∃ m', m' < m ∧ W (i + 1) m' σ' H') ∧ ∀ x H', (Itr lo n).yld i H x H' → g x σ H' fun σ2 H2 => tb { D with nx := N, ct := N, bk := D.nx } σ2 H2) := by
  refine ⟨fun i m σ H => m = n - i ∧ i ≤ n ∧ Pv i σ H, ⟨n, by simp, Nat.zero_le _, h0⟩, ?_⟩
  rintro i m σ H ⟨rfl, hi, p⟩
  by_cases hlt : i < n
  · refine .inr ⟨hlt, Pv (i + 1), fun σ' H' p' => ⟨n - (i + 1), by omega, rfl, hlt, p'⟩, fun x H' y => ?_⟩
    obtain ⟨e, y⟩ := y
    subst e y
    exact hs i σ _ hlt p
  · have e : i = n := by omega
    subst e
    exact .inl ⟨Nat.le_refl _, hd σ H p⟩
end L2
namespace L2
open PySem PySem.Spec PyProof.Rows
abbrev R2 := V → V → Hp → VK → Prop
def OpR (X : Cx) (f : Value → Value → Sem Value) (r : R2) : Prop :=
  ∀ (pins : List (Addr × Obj)) (s : Shared) (σ : St) (H : Hp) (x y : V) (v u : Value) (Q : VK), Inv X pins σ H s → RelV x v → RelV y u → r x y H Q →
    wpAny (model X.prog X.w) X.A (f v u) (EP X pins σ Q) X.xe s
def UnR (X : Cx) (f : Value → Sem Value) (r : V → Hp → VK → Prop) : Prop :=
  ∀ (pins : List (Addr × Obj)) (s : Shared) (σ : St) (H : Hp) (x : V) (v : Value) (Q : VK), Inv X pins σ H s → RelV x v → r x H Q →
    wpAny (model X.prog X.w) X.A (f v) (EP X pins σ Q) X.xe s
def CallR (X : Cx) (f : Value) (r : List V → Hp → VK → Prop) : Prop :=
  ∀ (pins : List (Addr × Obj)) (s : Shared) (σ : St) (H : Hp) (xs : List V) (us : List Value) (Q : VK), Inv X pins σ H s → Vals xs us → r xs H Q →
    wpAny (model X.prog X.w) X.A (call f us) (EP X pins σ Q) X.xe s
def tOp (r : R2) (ta tb : TE) : TE := fun σ H Q => ta σ H fun x H1 => tb σ H1 fun y H2 => r x y H2 Q
def tUn (r : V → Hp → VK → Prop) (ta : TE) : TE := fun σ H Q => ta σ H fun x H1 => r x H1 Q
def rI (C : Int → Int → Prop) (g : Int → Int → V) : R2 := fun x y H Q => ∃ i j, x = .int i ∧ y = .int j ∧ C i j ∧ Q (g i j) H
def rI0 (g : Int → Int → V) : R2 := fun x y H Q => ∃ i j, x = .int i ∧ y = .int j ∧ Q (g i j) H
def rU (g : Int → V) : V → Hp → VK → Prop := fun x H Q => ∃ i, x = .int i ∧ Q (g i) H
section
variable {X : Cx} {a b c : Expr} {ta tb tc : TE} {pos : Pos}
theorem binT (ha : PE X a ta) (hb : PE X b tb) {pins : List (Addr × Obj)} {s : Shared} {σ : St} {H : Hp} {R : V → V → Hp → Prop} (I : Inv X pins σ H s)
    (h : ta σ H fun x H1 => tb σ H1 fun y H2 => R x y H2) {Q : Value → Shared → Prop} {f : Value → Value → Sem Value}
    (hf : ∀ v u s2 x y H2, Inv X pins σ H2 s2 → RelV x v → RelV y u → R x y H2 → wpAny (model X.prog X.w) X.A (f v u) Q X.xe s2) :
    wpAny (model X.prog X.w) X.A (eval a X.env) (fun v s₁ => wpAny (model X.prog X.w) X.A (eval b X.env) (fun u s₂ => wpAny (model X.prog X.w) X.A (f v u) Q X.xe s₂) X.xe s₁) X.xe s := by
  refine thn (ha pins s σ H _ I h) fun v s1 ⟨x, H1, I1, r1, q1⟩ => ?_
  refine thn (hb pins s1 σ H1 _ I1 q1) fun u s2 ⟨y, H2, I2, r2, q2⟩ => ?_
  exact hf v u s2 x y H2 I2 r1 r2 q2
theorem pe_op {op : Operator} {r : R2} (ho : OpR X (binaryOp op) r) (ha : PE X a ta) (hb : PE X b tb) : PE X (.BinOp a op b pos) (tOp r ta tb) := by
  intro pins s σ H Q I h
  exact wpAny_BinOp (binT ha hb I h fun v u s2 x y H2 I2 rx ry q => ho pins s2 σ H2 x y v u Q I2 rx ry q)
theorem pe_un {op : UnaryOp} {r : V → Hp → VK → Prop} (ho : UnR X (unaryOp op) r) (ha : PE X a ta) : PE X (.UnaryOp op a pos) (tUn r ta) := by
  intro pins s σ H Q I h
  exact UnaryOp_ (thn (ha pins s σ H _ I h) fun v s1 ⟨x, H1, I1, r1, q1⟩ => ho pins s1 σ H1 x v Q I1 r1 q1)
theorem opI {f : Value → Value → Sem Value} {C : Int → Int → Prop} {g : Int → Int → Int}
    (rule : ∀ (i j : Int) (t u : Tok) (s : Shared) (Q : Value → Shared → Prop) (E : Value → Shared → Prop), C i j → Q (.int (g i j) s.toks) { s with toks := s.toks + 1 } → wpAny (model X.prog X.w) X.A (f (.int i t) (.int j u)) Q E s) :
    OpR X f (rI C fun i j => .int (g i j)) := by
  intro pins s σ H x y v u Q I rx ry h
  obtain ⟨i, j, rfl, rfl, hc, q⟩ := h
  obtain ⟨t, rfl⟩ := rx
  obtain ⟨t', rfl⟩ := ry
  exact rule i j t t' s _ _ hc ⟨.int (g i j), H, I.tok _, ⟨_, rfl⟩, q⟩
theorem opI0 {f : Value → Value → Sem Value} {g : Int → Int → Int}
    (rule : ∀ (i j : Int) (t u : Tok) (s : Shared) (Q : Value → Shared → Prop) (E : Value → Shared → Prop), Q (.int (g i j) s.toks) { s with toks := s.toks + 1 } → wpAny (model X.prog X.w) X.A (f (.int i t) (.int j u)) Q E s) :
    OpR X f (rI0 fun i j => .int (g i j)) := by
  intro pins s σ H x y v u Q I rx ry h
  obtain ⟨i, j, rfl, rfl, q⟩ := h
  obtain ⟨t, rfl⟩ := rx
  obtain ⟨t', rfl⟩ := ry
  exact rule i j t t' s _ _ ⟨.int (g i j), H, I.tok _, ⟨_, rfl⟩, q⟩
theorem opB0 {f : Value → Value → Sem Value} {g : Int → Int → Bool}
    (rule : ∀ (i j : Int) (t u : Tok) (s : Shared) (Q : Value → Shared → Prop) (E : Value → Shared → Prop), Q (.bool (g i j)) s → wpAny (model X.prog X.w) X.A (f (.int i t) (.int j u)) Q E s) :
    OpR X f (rI0 fun i j => .bl (g i j)) := by
  intro pins s σ H x y v u Q I rx ry h
  obtain ⟨i, j, rfl, rfl, q⟩ := h
  obtain ⟨t, rfl⟩ := rx
  obtain ⟨t', rfl⟩ := ry
  exact rule i j t t' s _ _ ⟨.bl (g i j), H, I, rfl, q⟩
def CPow (i j : Int) : Prop := 0 ≤ j ∧ j ≤ 1000000 ∧ i.natAbs < 2 ^ 64
def CMul (i j : Int) : Prop := (-(2 ^ 64) < i ∧ i < 2 ^ 64) ∨ (-(2 ^ 64) < j ∧ j < 2 ^ 64)
theorem CMul.ok {i j : Int} (h : CMul i j) : IntMulOk i j := by
  rcases h with ⟨h1, h2⟩ | ⟨h1, h2⟩
  · exact .of_left (intBits_le_64 h1 h2)
  · exact .of_right (intBits_le_64 h1 h2)
theorem op_add : OpR X (binaryOp .Add) (rI0 fun i j => .int (i + j)) := opI0 fun _ _ _ _ _ _ _ q => add_int q
theorem op_sub : OpR X (binaryOp .Sub) (rI0 fun i j => .int (i - j)) := opI0 fun _ _ _ _ _ _ _ q => sub_int q
theorem op_mul : OpR X (binaryOp .Mult) (rI CMul fun i j => .int (i * j)) := opI fun _ _ _ _ _ _ _ hc q => mul_int q hc.ok
theorem op_mod : OpR X (binaryOp .Mod) (rI (fun _ j => 0 < j) fun i j => .int (i % j)) := opI fun i j _ _ _ _ _ hc q => by
  have h1 : (0 : Int) < j := hc
  exact mod_int' (by omega) (by rw [Int.fmod_eq_emod_of_nonneg i (by omega)]; exact q)
theorem op_pow : OpR X (binaryOp .Pow) (rI CPow fun i j => .int (i ^ j.toNat)) := opI fun _ _ _ _ _ _ _ hc q => pow_int_small hc.1 hc.2.1 hc.2.2 q
theorem unI {f : Value → Sem Value} {g : Int → Int}
    (rule : ∀ (i : Int) (t : Tok) (s : Shared) (Q : Value → Shared → Prop) (E : Value → Shared → Prop), Q (.int (g i) s.toks) { s with toks := s.toks + 1 } → wpAny (model X.prog X.w) X.A (f (.int i t)) Q E s) :
    UnR X f (rU fun i => .int (g i)) := by
  intro pins s σ H x v Q I rx h
  obtain ⟨i, rfl, q⟩ := h
  obtain ⟨t, rfl⟩ := rx
  exact rule i t s _ _ ⟨.int (g i), H, I.tok _, ⟨_, rfl⟩, q⟩
theorem un_neg : UnR X (unaryOp .USub) (rU fun i => .int (-i)) := unI fun _ _ _ _ _ q => neg_int q
end
def scal : V → V → Bool
  | .non, .non => true | .non, .int _ => true | .int _, .non => true | .non, .bl _ => true | .bl _, .non => true | .non, .str _ => true | .str _, .non => true
  | .int _, .int _ => true | .bl _, .bl _ => true | .str _, .str _ => true | .byt _, .byt _ => true
  | .int _, .str _ => true | .str _, .int _ => true | .bl _, .str _ => true | .str _, .bl _ => true
  | _, _ => false
def rEq : R2 := fun x y H Q => scal x y = true ∧ Q (.bl (decide (x = y))) H
def rNe : R2 := fun x y H Q => scal x y = true ∧ Q (.bl (!decide (x = y))) H
theorem dec_int {i j : Int} : decide (V.int i = V.int j) = (i == j) := by
  rw [Bool.eq_iff_iff]
  simp
theorem dec_bl {i j : Bool} : decide (V.bl i = V.bl j) = (i == j) := by
  rw [Bool.eq_iff_iff]
  simp
theorem dec_str {i j : Str} : decide (V.str i = V.str j) = (i == j) := by
  rw [Bool.eq_iff_iff]
  simp
theorem dec_byt {i j : Array UInt8} : decide (V.byt i = V.byt j) = (i.toList == j.toList) := by
  rw [Bool.eq_iff_iff]
  cases i
  cases j
  simp
section
variable {X : Cx} {a b c : Expr} {ta tb tc : TE} {pos : Pos}
theorem fin_bl {pins : List (Addr × Obj)} {σ : St} {H : Hp} {s : Shared} {Q : VK} {k k' : Bool} (I : Inv X pins σ H s) (q : Q (.bl k) H) (e : k = k') : EP X pins σ Q (.bool k') s := by
  subst e
  exact ⟨.bl k, H, I, rfl, q⟩
theorem op_eq : OpR X (compareOp .Eq) rEq := by
  intro pins s σ H x y v u Q I rx ry h
  obtain ⟨hs, q⟩ := h
  cases x with
  | non =>
    cases rx
    cases y with
    | non => cases ry; exact PySem.EqNone.eq_none_none (fin_bl I q (by simp))
    | bl j => cases ry; exact PySem.EqNone.eq_none_bool (fin_bl I q (by simp))
    | int j => obtain ⟨t', rfl⟩ := ry; exact PySem.EqNone.eq_none_int (fin_bl I q (by simp))
    | str j => obtain ⟨t', rfl⟩ := ry; exact PySem.EqNone.eq_none_str (fin_bl I q (by simp))
    | _ => exact absurd (show false = true from hs) Bool.false_ne_true
  | bl i =>
    cases rx
    cases y with
    | non => cases ry; exact PySem.EqNone.eq_bool_none (fin_bl I q (by simp))
    | bl j => cases ry; exact eq_bool (fin_bl I q dec_bl)
    | str j => obtain ⟨t', rfl⟩ := ry; exact PySem.EqMixed.eq_bool_str (fin_bl I q (by simp))
    | _ => exact absurd (show false = true from hs) Bool.false_ne_true
  | int i =>
    obtain ⟨t, rfl⟩ := rx
    cases y with
    | non => cases ry; exact PySem.EqNone.eq_int_none (fin_bl I q (by simp))
    | int j => obtain ⟨t', rfl⟩ := ry; exact eq_int (fin_bl I q dec_int)
    | str j => obtain ⟨t', rfl⟩ := ry; exact PySem.EqMixed.eq_int_str (fin_bl I q (by simp))
    | _ => exact absurd (show false = true from hs) Bool.false_ne_true
  | str i =>
    obtain ⟨t, rfl⟩ := rx
    cases y with
    | non => cases ry; exact PySem.EqNone.eq_str_none (fin_bl I q (by simp))
    | bl j => cases ry; exact PySem.EqMixed.eq_str_bool (fin_bl I q (by simp))
    | int j => obtain ⟨t', rfl⟩ := ry; exact PySem.EqMixed.eq_str_int (fin_bl I q (by simp))
    | str j => obtain ⟨t', rfl⟩ := ry; exact eq_str (fin_bl I q dec_str)
    | _ => exact absurd (show false = true from hs) Bool.false_ne_true
  | byt i =>
    obtain ⟨t, rfl⟩ := rx
    cases y with
    | byt j => obtain ⟨t', rfl⟩ := ry; exact PySem.W.eq_bytes (fin_bl I q dec_byt)
    | _ => exact absurd (show false = true from hs) Bool.false_ne_true
  | _ => cases y <;> exact absurd (show false = true from hs) Bool.false_ne_true
theorem op_ne : OpR X (compareOp .NotEq) rNe := by
  intro pins s σ H x y v u Q I rx ry h
  obtain ⟨hs, q⟩ := h
  cases x with
  | non =>
    cases rx
    cases y with
    | non => cases ry; exact PySem.EqNone.ne_none_none (fin_bl I q (by simp))
    | bl j => cases ry; exact PySem.EqNone.ne_none_bool (fin_bl I q (by simp))
    | int j => obtain ⟨t', rfl⟩ := ry; exact PySem.EqNone.ne_none_int (fin_bl I q (by simp))
    | str j => obtain ⟨t', rfl⟩ := ry; exact PySem.EqNone.ne_none_str (fin_bl I q (by simp))
    | _ => exact absurd (show false = true from hs) Bool.false_ne_true
  | bl i =>
    cases rx
    cases y with
    | non => cases ry; exact PySem.EqNone.ne_bool_none (fin_bl I q (by simp))
    | bl j => cases ry; exact ne_bool (fin_bl I q (congrArg not dec_bl))
    | str j => obtain ⟨t', rfl⟩ := ry; exact PySem.EqMixed.ne_bool_str (fin_bl I q (by simp))
    | _ => exact absurd (show false = true from hs) Bool.false_ne_true
  | int i =>
    obtain ⟨t, rfl⟩ := rx
    cases y with
    | non => cases ry; exact PySem.EqNone.ne_int_none (fin_bl I q (by simp))
    | int j => obtain ⟨t', rfl⟩ := ry; exact ne_int (fin_bl I q (congrArg not dec_int))
    | str j => obtain ⟨t', rfl⟩ := ry; exact PySem.EqMixed.ne_int_str (fin_bl I q (by simp))
    | _ => exact absurd (show false = true from hs) Bool.false_ne_true
  | str i =>
    obtain ⟨t, rfl⟩ := rx
    cases y with
    | non => cases ry; exact PySem.EqNone.ne_str_none (fin_bl I q (by simp))
    | bl j => cases ry; exact PySem.EqMixed.ne_str_bool (fin_bl I q (by simp))
    | int j => obtain ⟨t', rfl⟩ := ry; exact PySem.EqMixed.ne_str_int (fin_bl I q (by simp))
    | str j => obtain ⟨t', rfl⟩ := ry; exact ne_str (fin_bl I q (congrArg not dec_str))
    | _ => exact absurd (show false = true from hs) Bool.false_ne_true
  | byt i =>
    obtain ⟨t, rfl⟩ := rx
    cases y with
    | byt j => obtain ⟨t', rfl⟩ := ry; exact PySem.W.ne_bytes (fin_bl I q (congrArg not dec_byt))
    | _ => exact absurd (show false = true from hs) Bool.false_ne_true
  | _ => cases y <;> exact absurd (show false = true from hs) Bool.false_ne_true
theorem op_lt : OpR X (compareOp .Lt) (rI0 fun i j => .bl (decide (i < j))) := opB0 fun _ _ _ _ _ _ _ q => lt_int q
theorem op_le : OpR X (compareOp .LtE) (rI0 fun i j => .bl (decide (i ≤ j))) := opB0 fun _ _ _ _ _ _ _ q => le_int q
theorem op_gt : OpR X (compareOp .Gt) (rI0 fun i j => .bl (decide (j < i))) := opB0 fun _ _ _ _ _ _ _ q => gt_int q
theorem op_isN : OpR X (compareOp .Is) (fun x y H Q => y = .non ∧ Q (.bl (decide (x = .non))) H) := by
  intro pins s σ H x y v u Q I rx ry h
  obtain ⟨rfl, q⟩ := h
  cases ry
  refine is_none_gen (fin_bl I q ?_)
  cases x <;> first
    | (cases rx; rfl)
    | (obtain ⟨t, rfl⟩ := rx; rfl)
theorem nomark (b : Expr) {op : CmpOp} (h : op ≠ .In := by decide) (h2 : op ≠ .NotIn := by decide) : behindInMarks op b = false := by
  have e1 : (op == CmpOp.In) = false := by cases op <;> first | rfl | exact absurd rfl h
  have e2 : (op == CmpOp.NotIn) = false := by cases op <;> first | rfl | exact absurd rfl h2
  cases b <;> simp [behindInMarks, e1, e2]
theorem pe_cmpR {op : CmpOp} {r : R2} (ho : OpR X (compareOp op) r) (ha : PE X a ta) (hb : PE X b tb) (hm : behindInMarks op b = false) : PE X (.Compare a [op] [b] pos) (tOp r ta tb) := by
  intro pins s σ H Q I h
  exact wpAny_Compare1 (binT ha hb I h fun v u s2 x y H2 I2 rx ry q => ho pins s2 σ H2 x y v u Q I2 rx ry q) hm
def tTest (t : TE) : TT := fun σ H Q => t σ H fun x H' => ∃ k, x = .bl k ∧ Q k H'
theorem pt_cmpR {op : CmpOp} {r : R2} (ho : OpR X (compareOp op) r) (ha : PE X a ta) (hb : PE X b tb) (hm : behindInMarks op b = false) : PT X (.Compare a [op] [b] pos) (tTest (tOp r ta tb)) := by
  intro pins s σ H Q I h
  refine wpAny_isTrue_Compare1 (thn (ha pins s σ H _ I h) fun v s1 ⟨x, H1, I1, r1, q1⟩ => thn (hb pins s1 σ H1 _ I1 q1) fun u s2 ⟨y, H2, I2, r2, q2⟩ =>
    thn (ho pins s2 σ H2 x y v u _ I2 r1 r2 q2) fun c s3 ⟨z, H3, I3, r3, k, e, q3⟩ => ?_) hm
  subst e
  cases r3
  exact wpAny_truthy_bool ⟨H3, I3, q3⟩
def tChain (r r' : R2) (ta tb tc : TE) : TE := fun σ H Q => ta σ H fun x H1 => tb σ H1 fun y H2 => r x y H2 fun z H3 => ∃ k, z = .bl k ∧
  (if k = true then tc σ H3 fun w' H4 => r' y w' H4 Q else Q (.bl false) H3)
theorem pe_chain {op op' : CmpOp} {r r' : R2} (ho : OpR X (compareOp op) r) (ho' : OpR X (compareOp op') r') (ha : PE X a ta) (hb : PE X b tb) (hc : PE X c tc)
    (hm : lastMarks [op, op'] [b, c] = false := by with_unfolding_all rfl) : PE X (.Compare a [op, op'] [b, c] pos) (tChain r r' ta tb tc) := by
  intro pins s σ H Q I h
  refine Compare_chain (thn (ha pins s σ H _ I h) fun v s1 ⟨x, H1, I1, r1, q1⟩ => chain_link (thn (hb pins s1 σ H1 _ I1 q1) fun u s2 ⟨y, H2, I2, r2, q2⟩ =>
    thn (ho pins s2 σ H2 x y v u _ I2 r1 r2 q2) fun d s3 ⟨z, H3, I3, r3, k, e, q3⟩ => ?_)) hm
  subst e
  cases r3
  refine wpAny_truthy_bool ?_
  cases k with
  | false => exact ite_ff ⟨.bl false, H3, I3, rfl, q3⟩
  | true => exact ite_tt (chain_last (thn (hc pins s3 σ H3 _ I3 q3) fun w' s4 ⟨z', H4, I4, r4, q4⟩ => ho' pins s4 σ H4 y z' u w' Q I4 r2 r4 q4))
theorem pt_chain {op op' : CmpOp} {r r' : R2} (ho : OpR X (compareOp op) r) (ho' : OpR X (compareOp op') r') (ha : PE X a ta) (hb : PE X b tb) (hc : PE X c tc)
    (hm : lastMarks [op, op'] [b, c] = false := by with_unfolding_all rfl) : PT X (.Compare a [op, op'] [b, c] pos) (tTest (tChain r r' ta tb tc)) := by
  intro pins s σ H Q I h
  refine isTrue_chain (thn (ha pins s σ H _ I h) fun v s1 ⟨x, H1, I1, r1, q1⟩ => test_link (thn (hb pins s1 σ H1 _ I1 q1) fun u s2 ⟨y, H2, I2, r2, q2⟩ =>
    thn (ho pins s2 σ H2 x y v u _ I2 r1 r2 q2) fun d s3 ⟨z, H3, I3, r3, k, e, q3⟩ => ?_)) hm
  subst e
  cases r3
  refine wpAny_truthy_bool ?_
  cases k with
  | false =>
    obtain ⟨k', e', q'⟩ := q3
    cases e'
    exact ite_ff ⟨H3, I3, q'⟩
  | true =>
    refine ite_tt (test_last (thn (hc pins s3 σ H3 _ I3 q3) fun w' s4 ⟨z', H4, I4, r4, q4⟩ => thn (ho' pins s4 σ H4 y z' u w' _ I4 r2 r4 q4) fun d' s5 ⟨z2, H5, I5, r5, k2, e2, q5⟩ => ?_))
    subst e2
    cases r5
    exact wpAny_truthy_bool ⟨H5, I5, q5⟩
theorem line63 : (sizeLine : Nat) < 2 ^ 63 := by rw [sizeLine_eq]; decide
theorem vals1 {x : V} {us : List Value} (r : Vals [x] us) : ∃ u, us = [u] ∧ RelV x u := by
  cases r with
  | cons r1 r2 => cases r2; exact ⟨_, rfl, r1⟩
theorem vals2 {x y : V} {us : List Value} (r : Vals [x, y] us) : ∃ u w', us = [u, w'] ∧ RelV x u ∧ RelV y w' := by
  cases r with
  | cons r1 r2 =>
    cases r2 with
    | cons r3 r4 => cases r4; exact ⟨_, _, rfl, r1, r3⟩
theorem call_abs : CallR X (.builtin "abs") (fun xs H Q => ∃ i, xs = [.int i] ∧ Q (.int (if i < 0 then -i else i)) H) := by
  intro pins s σ H xs us Q I r h
  obtain ⟨i, rfl, q⟩ := h
  obtain ⟨u, rfl, t, rfl⟩ := vals1 r
  exact call_abs_int fun u tk => ⟨.int (if i < 0 then -i else i), H, I.tok _, ⟨_, rfl⟩, q⟩
theorem call_min2 (hc : X.calm = true) : CallR X (.builtin "min") (fun xs H Q => ∃ i j, xs = [.int i, .int j] ∧ Q (.int (if j < i then j else i)) H) := by
  intro pins s σ H xs us Q I r h
  obtain ⟨i, j, rfl, q⟩ := h
  obtain ⟨u, w', rfl, ⟨t, rfl⟩, ⟨t', rfl⟩⟩ := vals2 r
  refine min_two_ints (I.ok.hd hc) fun h' tk k => ⟨_, H, I.kept k, ?_, q⟩
  by_cases hj : j < i
  · rw [if_pos hj, if_pos hj]; exact ⟨_, rfl⟩
  · rw [if_neg hj, if_neg hj]; exact ⟨_, rfl⟩
theorem call_int1 : CallR X (.type "int") (fun xs H Q => (∃ i, xs = [.int i] ∧ Q (.int i) H) ∨ ∃ k, xs = [.bl k] ∧ Q (.int (if k then 1 else 0)) H) := by
  intro pins s σ H xs us Q I r h
  rcases h with ⟨i, rfl, q⟩ | ⟨k, rfl, q⟩
  · obtain ⟨u, rfl, t, rfl⟩ := vals1 r
    exact call_int_int ⟨.int i, H, I, ⟨_, rfl⟩, q⟩
  · obtain ⟨u, rfl, r1⟩ := vals1 r
    cases r1
    exact call_int_bool ⟨.int (if k then 1 else 0), H, I.tok _, ⟨_, rfl⟩, q⟩
def LenV (K : PySem.W.Frag) (x : V) (H : Hp) (n : Nat) : Prop :=
  match x with
  | .str y => y.length ≤ sizeLine ∧ n = y.length
  | .byt y => y.size ≤ sizeLine ∧ n = y.size
  | .ref p => (∃ xs, SqL K H p xs ∧ n = xs.length) ∨ ∃ xs, SqT K H p xs ∧ n = xs.length
  | _ => False
theorem call_len : CallR X (.builtin "len") (fun xs H Q => ∃ x n, xs = [x] ∧ LenV X.K x H n ∧ Q (.int n) H) := by
  intro pins s σ H xs us Q I r h
  obtain ⟨x, n, rfl, e, q⟩ := h
  obtain ⟨u, rfl, rx⟩ := vals1 r
  have hl := line63
  have hs : sizeLine = 16777216 := sizeLine_eq
  cases x with
  | str y =>
    obtain ⟨t, rfl⟩ := rx
    obtain ⟨hy, e'⟩ : y.length ≤ sizeLine ∧ n = y.length := e
    subst e'
    exact len_str (by omega) ⟨.int _, H, I.tok _, ⟨_, rfl⟩, q⟩
  | byt y =>
    obtain ⟨t, rfl⟩ := rx
    obtain ⟨hy, e'⟩ : y.size ≤ sizeLine ∧ n = y.size := e
    subst e'
    exact PySem.W.len_bytes (by omega) ⟨.int _, H, I.tok _, ⟨_, rfl⟩, q⟩
  | ref p =>
    cases rx
    have e' : (∃ xs, SqL X.K H p xs ∧ n = xs.length) ∨ ∃ xs, SqT X.K H p xs ∧ n = xs.length := e
    rcases e' with ⟨xs, hx, e'⟩ | ⟨xs, hx, e'⟩
    · subst e'
      obtain ⟨its, r', pl, hz⟩ := I.list hx
      have hlen := r'.length
      exact Calls.call_len_list pl.isList (by simp only [List.size_toArray]; omega) ⟨.int xs.length, H, I.tok _, ⟨_, by simp only [List.size_toArray]; rw [hlen]⟩, q⟩
    · subst e'
      obtain ⟨its, r', pl, hz⟩ := I.tuple hx
      have hlen := r'.length
      exact len_tuple pl (by simp only [List.size_toArray]; omega) ⟨.int xs.length, H, I.tok _, ⟨_, by simp only [List.size_toArray]; rw [hlen]⟩, q⟩
  | _ => exact (show False from e).elim
end
end L2
namespace L2
open PySem PySem.Spec PyProof.Rows
structure ObjM (h : Heap) (x dx C : Addr) (mA : Str → Option Value) : Prop where
  obj : h.get? x = some (PySem.W.instObj C dx)
  ns : h.Ns1 dx mA
  ne : dx ≠ x
theorem lookIn_ns {h : Heap} {dx : Addr} {mA : Str → Option Value} (n : h.Ns1 dx mA) : ∃ od, h.get? dx = some od ∧ ∀ name, PySem.W.lookIn name od = some (mA name) := by
  obtain ⟨o, es, ep, ho, hd, hk, _, hm⟩ := n
  refine ⟨o, ho, fun name => ?_⟩
  have e := hm name
  unfold nsFind findBy at e
  rw [← Array.find?_toList] at e
  unfold PySem.W.lookIn
  rw [hd]
  dsimp only
  split
  · rename_i y q
    rw [q] at e
    exact congrArg some e
  · rename_i q
    rw [q] at e
    have a : es.toList.any (·.refKey) = false := by
      rw [List.any_eq_false]
      intro y hy
      obtain ⟨z, t, hkey⟩ := hk y (Array.mem_toList_iff.mp hy)
      simp [DictEntry.refKey, hkey]
    have a' : ¬ es.toList.any (·.refKey) = true := by rw [a]; exact Bool.false_ne_true
    rw [if_neg a']
    exact congrArg some e
theorem ObjM.look {h : Heap} {x dx C : Addr} {mA : Str → Option Value} (I : ObjM h x dx C mA) : ∃ od, PySem.W.InstAt h x (PySem.W.instObj C dx) C (some od) ∧ ∀ name, PySem.W.lookIn name od = some (mA name) :=
  let ⟨od, ho, hl⟩ := lookIn_ns I.ns
  ⟨od, ⟨I.obj, rfl, rfl, ho⟩, hl⟩
section
variable {prog : Program} {w : World} {A : Around} {E : Value → Shared → Prop} {s : Shared} {K : PySem.W.Frag} {x dx C f : Addr} {mA : Str → Option Value} {name : Str} {v : Value}
theorem get_map {expr : Bool} {Q : Value → Shared → Prop} (X : K.In s.heap) (I : ObjM s.heap x dx C mA) (hg : PySem.W.plainGet K C name = true) (hh : PySem.W.hasDictIn K C = true)
    (ha : PySem.W.findIn K (.ref C) name = some none) (hv : mA name = some v) (hv' : PySem.W.handedIn v = true) (h : Q v { s with toks := s.toks + 1 }) :
    wpAny (model prog w) A (getAttr (.ref x) name expr) Q E s := by
  obtain ⟨od, J, hl⟩ := I.look
  exact PySem.W.get_value X J (PySem.W.plainGet_of hg).1 (PySem.W.findObj_own hh ha rfl (by rw [hl, hv])) hv' h
theorem get_meth {pl : Sem Bool} {Q : Value × List Value → Shared → Prop} (X : K.In s.heap) (I : ObjM s.heap x dx C mA) (hg : PySem.W.plainGet K C name = true)
    (hf : PySem.W.findIn K (.ref C) name = some (some (.ref f))) (ht : PySem.W.isFn K (.ref f) = true) (hv : mA name = none) (h : Q (.ref f, [.ref x]) s) :
    wpAny (model prog w) A (getMethod (.ref x) name pl) Q E s := by
  obtain ⟨od, J, hl⟩ := I.look
  exact PySem.W.method_fn X J (PySem.W.plainGet_of hg).1 (PySem.W.plainGet_of hg).2 hf (beq_iff_eq.mp ht) (by show (PySem.W.lookIn name od).map (·.isSome) = some false; rw [hl, hv]; rfl) h
theorem set_map {ns : List Str} {Q : Unit → Shared → Prop} (X : K.In s.heap) (I : ObjM s.heap x dx C mA)
    (hs : PySem.W.findIn K (.ref C) "__setattr__" = some (some (.builtin "object.__setattr__"))) (hp : PySem.W.plainOver K C = true) (ht : PySem.W.takerIn K C name = some none) (hh : PySem.W.hasDictIn K C = true)
    (hw : PySem.Within mA ns) (hsz : ns.length ≤ sizeLine)
    (h : ∀ h', ObjM h' x dx C (fun y => if y = name then some v else mA y) → Heap.SameBut dx s.heap h' → Q () { s with heap := h', toks := s.toks + 2 }) :
    wpAny (model prog w) A (setAttr (.ref x) name v) Q E s := by
  obtain ⟨od, J, hl⟩ := I.look
  refine PySem.W.set_plain X J hs (PySem.W.osa_open (s := { s with toks := s.toks + 1 }) (r := none) X J hp ht fun b => ?_)
  obtain ⟨cd, hc, hd'⟩ := PySem.W.any_some hh
  have hx : s.heap.get? x = some ⟨.ref C, some dx, .plain, #[]⟩ := I.obj
  refine wpAny_bind (wpAny_pure (wpAny_bind (wpAny_bind (wpAny_loadPart hx (wpAny_bind (PySem.W.Looks.here (s := { s with toks := s.toks + 1 }) (PySem.W.looks_clsIn X hc) ?_))))))
  rw [hd']
  refine wpAny_pure (a := some dx) (wpAny_bind (wpAny_pure (wpAny_bind ?_)))
  refine wpAny_nsSet1 (s := { s with toks := s.toks + 1 }) I.ns fun h' hn2 hs2 => ?_
  obtain ⟨oD, esD, epD, hoD, hdD, hcD⟩ := hn2.count (PySem.Within.cons name v hw)
  refine wpAny_bind (wpAny_lookBehind hoD (by rw [hdD]; exact pastItsLine_dict (Nat.le_trans hcD (by rw [List.length_cons]; omega))) ?_)
  exact wpAny_pure (h _ ⟨(hs2.2 _ (Ne.symm I.ne)).trans I.obj, hn2, I.ne⟩ hs2)
theorem make_map {R : Result → Shared → Prop} {vs : List Value} {kw : List (Str × Value)} (X : K.In s.heap) (hm : PySem.W.makesIn K C = true)
    (hi : PySem.W.findIn K (.ref C) "__init__" = some (some (.ref f))) (hf : PySem.W.typeIn K (.ref f) = some (.type "function"))
    (h : codeAny (model prog w) (A.under (.builtin "type.__call__" ⟨.ref C :: vs, kw⟩)) (.call (.ref f) ⟨.ref (s.heap.objs.size + 1) :: vs, kw⟩) (PySem.W.InitBack (s.heap.objs.size + 1) R)
      { s with heap := (s.heap.push PySem.W.emptyDict).push (PySem.W.instObj C s.heap.objs.size) }) :
    codeAny (model prog w) A (.call (.ref C) ⟨vs, kw⟩) R s := by
  obtain ⟨hh, g, d, t, os⟩ := s
  exact PySem.W.make_core (PySem.W.makes_of X hm) (PySem.W.looks_findIn X hi) (fun self => PySem.W.bind_fn X self hf) (.inl rfl) h
end
def putF (f : Str) (v : V) : List (Str × V) → List (Str × V)
  | [] => [(f, v)]
  | (g, x) :: r => if g = f then (g, v) :: r else (g, x) :: putF f v r
theorem lookup_putF (f g : Str) (v : V) : ∀ fs : List (Str × V), (putF f v fs).lookup g = if g = f then some v else fs.lookup g
  | [] => by
    show List.lookup g [(f, v)] = _
    by_cases h : g = f
    · have hb : (g == f) = true := beq_iff_eq.mpr h
      simp only [List.lookup, hb, if_pos h]
    · have hb : (g == f) = false := beq_eq_false_iff_ne.mpr h
      simp only [List.lookup, hb, if_neg h]
  | (k, x) :: r => by
    have ih := lookup_putF f g v r
    rw [show putF f v ((k, x) :: r) = (if k = f then (k, v) :: r else (k, x) :: putF f v r) from rfl]
    by_cases hk : k = f
    · rw [if_pos hk]
      by_cases h : g = k
      · have hb : (g == k) = true := beq_iff_eq.mpr h
        simp only [List.lookup, hb, if_pos (h.trans hk)]
      · have hb : (g == k) = false := beq_eq_false_iff_ne.mpr h
        simp only [List.lookup, hb, if_neg (fun e : g = f => h (e.trans hk.symm))]
    · rw [if_neg hk]
      by_cases h : g = k
      · have hb : (g == k) = true := beq_iff_eq.mpr h
        simp only [List.lookup, hb, if_neg (fun e : g = f => hk (h.symm.trans e))]
      · have hb : (g == k) = false := beq_eq_false_iff_ne.mpr h
        simp only [List.lookup, hb]
        exact ih
theorem keys_putF (f : Str) (v : V) : ∀ fs : List (Str × V), f ∈ (putF f v fs).map (·.1) ∧ ∀ g, g ∈ fs.map (·.1) → g ∈ (putF f v fs).map (·.1)
  | [] => ⟨by simp [putF], fun g h => by simp at h⟩
  | (k, x) :: r => by
    obtain ⟨i1, i2⟩ := keys_putF f v r
    rw [show putF f v ((k, x) :: r) = (if k = f then (k, v) :: r else (k, x) :: putF f v r) from rfl]
    by_cases hk : k = f
    · rw [if_pos hk]
      subst hk
      exact ⟨by simp, fun g h => by simpa using h⟩
    · rw [if_neg hk]
      refine ⟨?_, fun g h => ?_⟩
      · rw [List.map_cons]
        exact List.mem_cons_of_mem _ i1
      · rw [List.map_cons] at h ⊢
        rcases List.mem_cons.mp h with e | e
        · exact List.mem_cons.mpr (.inl e)
        · exact List.mem_cons_of_mem _ (i2 g e)
theorem length_putF (f : Str) (v : V) : ∀ fs : List (Str × V), (putF f v fs).length ≤ fs.length + 1
  | [] => by simp [putF]
  | (k, x) :: r => by
    have ih := length_putF f v r
    rw [show putF f v ((k, x) :: r) = (if k = f then (k, v) :: r else (k, x) :: putF f v r) from rfl]
    by_cases hk : k = f
    · rw [if_pos hk, List.length_cons, List.length_cons]; omega
    · rw [if_neg hk, List.length_cons, List.length_cons]; omega
theorem RelO.some_of {v : V} {o : Option Value} (r : RelO (some v) o) : ∃ u, o = some u ∧ RelV v u := by
  cases o with
  | none => exact (show False from r).elim
  | some u => exact ⟨u, rfl, r⟩
theorem RelO.none_of {o : Option Value} (r : RelO none o) : o = none := by
  cases o with
  | none => rfl
  | some u => exact (show False from r).elim
theorem handed_of {v : V} {u : Value} (r : RelV v u) : PySem.W.handedIn u = true := by
  cases v with
  | non => cases (show u = Value.none from r); rfl
  | bl b => cases (show u = Value.bool b from r); rfl
  | int i => obtain ⟨t, e⟩ := (show ∃ t, u = Value.int i t from r); cases e; rfl
  | str x => obtain ⟨t, e⟩ := (show ∃ t, u = Value.str x t from r); cases e; rfl
  | byt b => obtain ⟨t, e⟩ := (show ∃ t, u = Value.bytes b t from r); cases e; rfl
  | flt b => obtain ⟨t, e⟩ := (show ∃ t, u = Value.float b t from r); cases e; rfl
  | ref a => cases (show u = Value.ref a from r); rfl
  | ty n => cases (show u = Value.type n from r); rfl
section
variable {P : Program} {w : World} {H H' : Hp} {h h' : Heap} {a C dx : Addr} {fs fs' : List (Str × V)}
theorem ins_get (hok : HOk P w H h) (e : H a = some (.ins C dx fs)) : ∃ mA, ObjM h a dx C mA ∧ (∀ f, RelO (fs.lookup f) (mA f)) ∧ PySem.Within mA (fs.map (·.1)) ∧ fs.length ≤ 1000 ∧ H dx = some (.own a) := by
  obtain ⟨d, z, ne, ob, mA, n, r, q⟩ := (show ObjOk P w H h a (.ins C dx fs) from hok a _ e)
  exact ⟨mA, ⟨ob, n, ne⟩, r, q, z, d⟩
end
structure Cls (K : PySem.W.Frag) (C : Addr) : Prop where
  pg : PySem.W.plainGet K C Str.empty = true
  hd : PySem.W.hasDictIn K C = true
  po : PySem.W.plainOver K C = true
  sa : PySem.W.findIn K (.ref C) "__setattr__" = some (some (.builtin "object.__setattr__"))
theorem Cls.get {K : PySem.W.Frag} {C : Addr} (c : Cls K C) (f : Str) : PySem.W.plainGet K C f = true := c.pg
def NoAttr (K : PySem.W.Frag) (C : Addr) (f : Str) : Prop := PySem.W.findIn K (.ref C) f = some none
theorem NoAttr.taker {K : PySem.W.Frag} {C : Addr} {f : Str} (n : NoAttr K C f) : PySem.W.takerIn K C f = some none := by
  unfold PySem.W.takerIn
  rw [show PySem.W.findIn K (.ref C) f = some none from n]
  rfl
structure Meth (K : PySem.W.Frag) (C : Addr) (m : Str) (f : Addr) : Prop where
  at_ : PySem.W.findIn K (.ref C) m = some (some (.ref f))
  fn : PySem.W.isFn K (.ref f) = true
  kp : PySem.W.keepIn K (.ref f) = true
section
variable {X : Cx} {pins : List (Addr × Obj)} {σ : St} {H : Hp} {s : Shared} {a C dx : Addr} {fs : List (Str × V)} {f : Str} {v : V} {A : Around} {E : Value → Shared → Prop}
theorem getattr_ok {b : Bool} {Q : Value → Shared → Prop} (I : Inv X pins σ H s) (e : H a = some (.ins C dx fs)) (c : Cls X.K C) (n : NoAttr X.K C f) (l : fs.lookup f = some v)
    (h : ∀ u s', Inv X pins σ H s' → RelV v u → Q u s') : wpAny (model X.prog X.w) A (getAttr (.ref a) f b) Q E s := by
  obtain ⟨mA, O, r, _, _, _⟩ := ins_get I.hok e
  obtain ⟨u, hu, ru⟩ := RelO.some_of (v := v) (o := mA f) (by rw [← l]; exact r f)
  exact get_map I.kIn O (c.get f) c.hd n hu (handed_of ru) (h u _ (I.tok _) ru)
theorem getmeth_ok {m : Str} {g : Addr} {pl : Sem Bool} {Q : Value × List Value → Shared → Prop} (I : Inv X pins σ H s) (e : H a = some (.ins C dx fs)) (c : Cls X.K C) (k : Meth X.K C m g) (l : fs.lookup m = none)
    (h : Q (.ref g, [.ref a]) s) : wpAny (model X.prog X.w) A (getMethod (.ref a) m pl) Q E s := by
  obtain ⟨mA, O, r, _, _, _⟩ := ins_get I.hok e
  have hn : mA m = none := RelO.none_of (by rw [← l]; exact r m)
  exact get_meth I.kIn O (c.get m) k.at_ k.fn hn h
theorem setattr_ok {y : V} {u : Value} {Q : Unit → Shared → Prop} (I : Inv X pins σ H s) (e : H a = some (.ins C dx fs)) (c : Cls X.K C) (n : NoAttr X.K C f) (hl : fs.length < 1000) (ry : RelV y u)
    (h : ∀ s', Inv X pins σ (upd H a (.ins C dx (putF f y fs))) s' → Q () s') : wpAny (model X.prog X.w) A (setAttr (.ref a) f u) Q E s := by
  obtain ⟨mA, O, r, wi, _, ho⟩ := ins_get I.hok e
  have hz : (fs.map (·.1)).length ≤ sizeLine := by rw [List.length_map, sizeLine_eq]; omega
  refine set_map I.kIn O c.sa c.po n.taker c.hd wi hz fun h' O' sb => h _ ?_
  have hd : ∃ o, h'.get? dx = some o := let ⟨o, _, _, e', _⟩ := O'.ns; ⟨o, e'⟩
  refine I.write (x := a) (e := dx) (by rw [e]; exact True.intro) (.inr ho) (fun b q hb z => (sb.2 b hb).trans z) hd ?_
  refine ⟨by rw [upd_ne O.ne]; exact ho, ?_, O.ne, O'.obj, _, O'.ns, fun g => ?_, fun g hg => ?_⟩
  · have := length_putF f y fs; omega
  · show RelO ((putF f y fs).lookup g) (if g = f then some u else mA g)
    rw [lookup_putF]
    by_cases q : g = f
    · rw [if_pos q, if_pos q]; exact ry
    · rw [if_neg q, if_neg q]; exact r g
  · by_cases q : g = f
    · rw [q]; exact (keys_putF f y fs).1
    · refine (keys_putF f y fs).2 g (wi g fun z => hg ?_)
      show (if g = f then some u else mA g) = none
      rw [if_neg q]; exact z
theorem Inv.made (I : Inv X pins σ H s) : Inv X pins σ (upd (upd H s.heap.objs.size (.own (s.heap.objs.size + 1))) (s.heap.objs.size + 1) (.ins C s.heap.objs.size []))
    { s with heap := (s.heap.push PySem.W.emptyDict).push (PySem.W.instObj C s.heap.objs.size) } := by
  have e1 : (s.heap.push PySem.W.emptyDict).get? s.heap.objs.size = some PySem.W.emptyDict := Heap.get?_push_size s.heap rfl
  have e2 : ((s.heap.push PySem.W.emptyDict).push (PySem.W.instObj C s.heap.objs.size)).get? (s.heap.objs.size + 1) = some (PySem.W.instObj C s.heap.objs.size) := by
    have := Heap.get?_push_size (s.heap.push PySem.W.emptyDict) (o := PySem.W.instObj C s.heap.objs.size) rfl
    rwa [Heap.size_push] at this
  have e3 : (s.heap.push PySem.W.emptyDict).Ns s.heap.objs.size (fun _ => none) := ⟨PySem.W.emptyDict, #[], _, e1, rfl, (fun e he => absurd he (by simp)), fun _ => rfl⟩
  have I1 := I.laid (a := s.heap.objs.size) (o := .own (s.heap.objs.size + 1)) (h' := s.heap.push PySem.W.emptyDict) (t' := s.toks) (fun b u q => Heap.get?_push_of_some _ q) (Nat.le_refl _) ⟨_, e1⟩
  refine I1.laid (a := s.heap.objs.size + 1) (o := .ins C s.heap.objs.size []) (t' := s.toks) (fun b u q => Heap.get?_push_of_some _ q) (Nat.le_of_eq (Heap.size_push _ _)) ?_
  have ne : s.heap.objs.size ≠ s.heap.objs.size + 1 := Nat.ne_of_lt (Nat.lt_succ_self _)
  refine ⟨by rw [upd_ne ne, upd_same], Nat.zero_le _, ne, e2, fun _ => none, (Heap.Ns1.of_empty e3).at fun o q => Heap.get?_push_of_some _ q, fun _ => True.intro, fun y hy => absurd rfl hy⟩
theorem attr_of {prog : Program} {w : World} {env : Env} {e : Expr} {f : Str} {pos : Pos} {s : Shared} {Q : Value → Shared → Prop} (hb : attributeBase e f env (eval e env) = eval e env)
    (h : wpAny (model prog w) A (eval e env) (fun o s₁ => wpAny (model prog w) A (getAttr o f true) Q E s₁) E s) : wpAny (model prog w) A (eval (.Attribute e f pos) env) Q E s :=
  Attribute_any_ h (by rw [arm_eval_Attribute, hb])
end
def tFld (K : PySem.W.Frag) (ta : TE) (f : Str) : TE := fun σ H Q => ta σ H fun x H1 => ∃ a C dx fs v, x = .ref a ∧ H1 a = some (.ins C dx fs) ∧ Cls K C ∧ NoAttr K C f ∧ fs.lookup f = some v ∧ Q v H1
def sFld (K : PySem.W.Frag) (ta tv : TE) (f : Str) : TS := fun D σ H => tv σ H fun y H1 => ta σ H1 fun x H2 => ∃ a C dx fs, x = .ref a ∧ H2 a = some (.ins C dx fs) ∧ Cls K C ∧ NoAttr K C f ∧ fs.length < 1000 ∧
  D.nx σ (upd H2 a (.ins C dx (putF f y fs)))
section
variable {X : Cx} {o e value : Expr} {f : Str} {pos pos' tpos : Pos} {ta tv : TE}
theorem pe_fld (he : PE X e ta) (hb : attributeBase e f X.env (eval e X.env) = eval e X.env) : PE X (.Attribute e f pos) (tFld X.K ta f) := by
  intro pins s σ H Q I h
  refine attr_of hb (thn (he pins s σ H _ I h) fun u s1 ⟨x, H1, I1, rx, a, C, dx, fs, v, ex, ea, c, n, l, q⟩ => ?_)
  subst ex
  obtain rfl : u = Value.ref a := rx
  exact getattr_ok I1 ea c n l fun u' s2 I2 ru => ⟨v, H1, I2, ru, q⟩
theorem ps_fld (ha : PE X o ta) (hv : PE X value tv) (hs : swapsWith value (some (.Attribute o f pos')) pos.line X.env = pure false) : PS X (.Assign [.Attribute o f pos'] value pos) (sFld X.K ta tv f) := by
  intro pins s σ H D I h
  refine plainObj_wpAny_Assign_Attribute (thn (hv pins s σ H _ I h) fun u s1 ⟨y, H1, I1, ry, q⟩ => thn (ha pins s1 σ H1 _ I1 q) fun ov s2 ⟨x, H2, I2, rx, a, C, dx, fs, ex, ea, c, n, l, q2⟩ => ?_) hs
  subst ex
  obtain rfl : ov = Value.ref a := rx
  exact setattr_ok I2 ea c n l ry fun s3 I3 => ⟨σ, _, I3, q2⟩
end
section
variable {X : Cx} {pins : List (Addr × Obj)} {σ : St} {H : Hp} {s : Shared} {A : Around} {E : Value → Shared → Prop} {Q : Value → Shared → Prop} {c : Value} {b : Bool}
inductive TyOf (K : PySem.W.Frag) (H : Hp) : V → Value → Prop where
  | non : TyOf K H .non (.type "NoneType")
  | bl (x : Bool) : TyOf K H (.bl x) (.type "bool")
  | int (i : Int) : TyOf K H (.int i) (.type "int")
  | str (x : Str) : TyOf K H (.str x) (.type "str")
  | flt (x : UInt64) : TyOf K H (.flt x) (.type "float")
  | lst {a : Addr} {xs : List V} (e : H a = some (.lst xs)) : TyOf K H (.ref a) (.type "list")
  | frz {a : Addr} {o : Obj} {xs : List V} (e : H a = some (.frz o (.lst xs))) : TyOf K H (.ref a) (.type "list")
  | tup {a : Addr} {xs : List V} (e : H a = some (.tup xs)) : TyOf K H (.ref a) (.type "tuple")
  | dK {a : Addr} {kvs : List (Key × V)} (e : H a = some (.dK kvs)) : TyOf K H (.ref a) (.type "dict")
  | dT {a : Addr} {kvs : List (List Key × V)} (e : H a = some (.dT kvs)) : TyOf K H (.ref a) (.type "dict")
  | ins {a C dx : Addr} {fs : List (Str × V)} (e : H a = some (.ins C dx fs)) (cl : Cls K C) (ha : PySem.W.findIn K (.ref C) "__class__" = some (some (.builtin "object.__class__")))
      (hn : PySem.W.specialIn K (.builtin "object.__class__") "__get__" = some (some (.builtin "getset_descriptor.__get__"))) (htk : PySem.W.takesIn K (.builtin "object.__class__") = some true)
      (hm : PySem.W.mroIn K C (.type "object") = some true) : TyOf K H (.ref a) (.ref C)
theorem isinst_ok {x : V} {u t : Value} (I : Inv X pins σ H s) (rx : RelV x u) (ty : TyOf X.K H x t) (e : PySem.W.kitOne X.K t c = some b) (h : ∀ tk, Q (.bool b) { s with toks := tk }) :
    wpAny (model X.prog X.w) A (call (.builtin "isinstance") [u, c]) Q E s := by
  cases ty with
  | non => cases (show u = Value.none from rx); exact PySem.W.kia_one PySem.W.kitx_none I.kIn True.intro e (fun z => nomatch z) h
  | bl y => cases (show u = Value.bool y from rx); exact PySem.W.kia_one PySem.W.kitx_bool I.kIn True.intro e (fun z => nomatch z) h
  | int i => obtain ⟨t, q⟩ := (show ∃ t, u = Value.int i t from rx); cases q; exact PySem.W.kia_one PySem.W.kitx_int I.kIn True.intro e (fun z => nomatch z) h
  | str y => obtain ⟨t, q⟩ := (show ∃ t, u = Value.str y t from rx); cases q; exact PySem.W.kia_one PySem.W.kitx_str I.kIn True.intro e (fun z => nomatch z) h
  | flt y => obtain ⟨t, q⟩ := (show ∃ t, u = Value.float y t from rx); cases q; exact PySem.W.kia_one PySem.W.kitx_float I.kIn True.intro e (fun z => nomatch z) h
  | @lst a xs ea =>
    cases (show u = Value.ref a from rx)
    obtain ⟨_, _, n, _, h1⟩ := (show ObjOk X.prog X.w H s.heap a (.lst xs) from I.hok a _ ea)
    exact PySem.W.kia_one PySem.W.kitx_list I.kIn ⟨_, h1, rfl⟩ e (fun z => nomatch z) h
  | @frz a ob xs ea =>
    cases (show u = Value.ref a from rx)
    obtain ⟨_, _, _, n, _, h1⟩ := (show ObjOk X.prog X.w H s.heap a (.frz ob (.lst xs)) from I.hok a _ ea)
    exact PySem.W.kia_one PySem.W.kitx_list I.kIn ⟨_, h1, rfl⟩ e (fun z => nomatch z) h
  | @tup a xs ea =>
    cases (show u = Value.ref a from rx)
    obtain ⟨_, _, _, p⟩ := (show ObjOk X.prog X.w H s.heap a (.tup xs) from I.hok a _ ea)
    obtain ⟨o, h1, h2, _⟩ := p
    exact PySem.W.kia_one PySem.W.kitx_tuple I.kIn ⟨o, h1, h2⟩ e (fun z => nomatch z) h
  | @dK a kvs ea =>
    cases (show u = Value.ref a from rx)
    obtain ⟨_, _, vs, _, p⟩ := (show ObjOk X.prog X.w H s.heap a (.dK kvs) from I.hok a _ ea)
    obtain ⟨o, es, ep, h1, h2, _⟩ := p
    exact PySem.W.kia_one PySem.W.kitx_dict I.kIn ⟨o, h1, h2.1⟩ e (fun z => nomatch z) h
  | @dT a kvs ea =>
    cases (show u = Value.ref a from rx)
    obtain ⟨_, _, xs, _, o, es, ep, h1, h2, _⟩ := (show ObjOk X.prog X.w H s.heap a (.dT kvs) from I.hok a _ ea)
    exact PySem.W.kia_one PySem.W.kitx_dict I.kIn ⟨o, h1, h2.1⟩ e (fun z => nomatch z) h
  | @ins a C dx fs ea cl ha hn htk hm =>
    cases (show u = Value.ref a from rx)
    obtain ⟨mA, O, _⟩ := ins_get I.hok ea
    obtain ⟨od, J, _⟩ := O.look
    exact PySem.W.kia_one (PySem.W.kitx_own (cl.get _) cl.hd ha hn htk hm) I.kIn J e (fun z => nomatch z) h
end
end L2
namespace L2
open PySem PySem.Spec PyProof.Rows
structure Room (k : Nat) (A : Around) : Prop where
  hd : A.handled = none
  dp : A.depth + 3 * k + 5 < recursionLimit
  un : A.units + 16 * k + 200 < cLine
  gd : A.guards = some []
theorem Room.mono {j k : Nat} {A : Around} (r : Room k A) (h : j ≤ k) : Room j A := ⟨r.hd, by have := r.dp; omega, by have := r.un; omega, r.gd⟩
theorem Room.deeper {k : Nat} {A : Around} (r : Room (k + 1) A) (env : Env) : Room k (A.deeper env) :=
  ⟨r.hd, by have := r.dp; show A.depth + 1 + 3 * k + 5 < _; omega, by have := r.un; show A.units + 3 + 16 * k + 200 < _; omega, r.gd⟩
theorem make_depth {A : Around} {C : Addr} {us : List Value} {kw : List (Str × Value)} : (A.under (.builtin "type.__call__" ⟨.ref C :: us, kw⟩)).depth = A.depth + 1 := by
  first | rfl | simp [Around.under, Code.weight, Code.isCreation, Code.isGuard, Code.isCaller, Code.frames, Code.isFrame, guardIds]
theorem make_units {A : Around} {C : Addr} {us : List Value} {kw : List (Str × Value)} : (A.under (.builtin "type.__call__" ⟨.ref C :: us, kw⟩)).units = A.units + 1 := by
  first | rfl | simp [Around.under, Code.cUnits, Code.frames, Code.isFrame]
theorem make_guards {A : Around} {C : Addr} {us : List Value} {kw : List (Str × Value)} : (A.under (.builtin "type.__call__" ⟨.ref C :: us, kw⟩)).guards = A.guards := by
  first | rfl | simp [Around.under, Code.isGuard, Code.guards, guardIds]
theorem Room.make {k : Nat} {A : Around} (r : Room (k + 1) A) (C : Addr) (us : List Value) (kw : List (Str × Value)) : Room k (A.under (.builtin "type.__call__" ⟨.ref C :: us, kw⟩)) :=
  ⟨r.hd, by have := r.dp; rw [make_depth]; omega, by have := r.un; rw [make_units]; omega, by rw [make_guards]; exact r.gd⟩
theorem Room.depth {k : Nat} {A : Around} (r : Room k A) : A.depth < recursionLimit := by have := r.dp; omega
theorem Room.units {k : Nat} {A : Around} (r : Room k A) : A.units + 64 < cLine := by have := r.un; omega
def tNil : TA := fun _ H Q => Q [] H
def tCons (ta : TE) (tr : TA) : TA := fun σ H Q => ta σ H fun x H1 => tr σ H1 fun xs H2 => Q (x :: xs) H2
section
variable {X : Cx} {e : Expr} {es : List Expr} {te : TE} {t : TA} {pos : Pos}
theorem pa_nil : PA X [] tNil := fun _ _ _ _ H Q I h => Calls.spliced_nil ⟨[], H, I, .nil, h⟩
theorem pa_cons (ha : PE X e te) (hr : PA X es t) (hs : starEach (e :: es) X.env = (false, eval e X.env) :: starEach es X.env := by rfl) : PA X (e :: es) (tCons te t) := by
  intro pos pins s σ H Q I h
  rw [hs]
  show wpAny _ _ (spliced ((false, eval e X.env) :: backTo pos (starEach es X.env))) _ _ s
  refine Calls.spliced_cons (thn (ha pins s σ H _ I h) fun u s1 ⟨x, H1, I1, r1, q1⟩ => ?_)
  exact thn (hr pos pins s1 σ H1 _ I1 q1) fun us s2 ⟨xs, H2, I2, r2, q2⟩ => ⟨x :: xs, H2, I2, .cons r1 r2, q2⟩
def tTup (t : TA) : TE := fun σ H Q => t σ H fun xs H1 => xs.length ≤ sizeLine ∧ ∀ p, H1 p = none → Q (.ref p) (upd H1 p (.tup xs))
def tLst (t : TA) : TE := fun σ H Q => t σ H fun xs H1 => xs.length ≤ sizeLine ∧ ∀ p, H1 p = none → Q (.ref p) (upd H1 p (.lst xs))
theorem pe_tup {x1} (h : PA X es t) : PE X (.Tuple es x1 pos) (tTup t) := by
  intro pins s σ H Q I hq
  refine wpAny_Tuple_spliced (thn (h pos pins s σ H _ I hq) fun us s1 ⟨xs, H1, I1, r, z, q⟩ => ⟨by rw [← r.length]; exact z, ?_⟩)
  have hf : H1 s1.heap.objs.size = none := I1.hok.fresh (Nat.le_refl _)
  refine ⟨.ref s1.heap.objs.size, upd H1 s1.heap.objs.size (.tup xs), I1.laid (t' := s1.toks) (fun b u e => Heap.get?_push_of_some _ e) (Nat.le_refl _) ?_, rfl, q _ hf⟩
  exact ⟨z, us, r, ⟨_, Heap.get?_push_size _ rfl, rfl, _, rfl⟩⟩
theorem pe_lst (h : PA X es t) : PE X (.List es pos) (tLst t) := by
  intro pins s σ H Q I hq
  refine wpAny_List_spliced (thn (h pos pins s σ H _ I hq) fun us s1 ⟨xs, H1, I1, r, z, q⟩ => ⟨by rw [← r.length]; exact z, ?_⟩)
  have hf : H1 s1.heap.objs.size = none := I1.hok.fresh (Nat.le_refl _)
  refine ⟨.ref s1.heap.objs.size, upd H1 s1.heap.objs.size (.lst xs), I1.laid (t' := s1.toks) (fun b u e => Heap.get?_push_of_some _ e) (Nat.le_refl _) ?_, rfl, q _ hf⟩
  exact ⟨z, us, 0, r, Heap.get?_push_size _ rfl⟩
end
abbrev Sp := List V → Hp → VK → XK → Prop
abbrev CXT := List Env → Hp → Shared → XK → Value → Shared → Prop
structure Env0 (P : Program) (w : World) (K : PySem.W.Frag) (mg : Str → Option Value) (base : Heap) (A : Around) (outer : List Env) (s : Shared) (H : Hp) : Prop where
  frames : A.frames = some outer
  mod : Mod K mg base
  bs : ∀ b o, base.get? b = some o → s.heap.get? b = some o ∧ H b = none
  bsz : base.objs.size ≤ s.heap.objs.size
  funs : s.heap.FunFrames base outer
  frf : ∀ b ∈ frs outer, H b = none
  hok : HOk P w H s.heap
  bare : AllBare s.gens
def CE (outer : List Env) (P : Program) (w : World) (H : Hp) (s : Shared) (Q : VK) (u : Value) (s' : Shared) : Prop :=
  ∃ v H', s'.os = s.os ∧ AllBare s'.gens ∧ Un (frs outer) [] H H' s.heap s'.heap ∧ HOk P w H' s'.heap ∧ RelV v u ∧ Q v H'
def CR (CX : CXT) (outer : List Env) (P : Program) (w : World) (H : Hp) (s : Shared) (Q : VK) (E : XK) (r : Result) (s' : Shared) : Prop :=
  match r with
  | .ok (.ret u) => CE outer P w H s Q u s'
  | .ok _ => False
  | .error e => CX outer H s E e s'
structure FnOk (P : Program) (w : World) (K : PySem.W.Frag) (mg : Str → Option Value) (base : Heap) (CX : CXT) (k : Nat) (f : Addr) (fd : FuncData) (ps : List Str) (sp : Sp) : Prop where
  len : ∀ vs H Q E, sp vs H Q E → vs.length = ps.length
  run : ∀ (A : Around) (outer : List Env) (s : Shared) (H : Hp) (args : Args) (us : List Value) (vs : List V) (Q : VK) (E : XK), Room k A → Env0 P w K mg base A outer s H → BindsTo s fd args (ps.zip us) → Vals vs us → sp vs H Q E →
    codeAny (model P w) A (.call (.ref f) args) (CR CX outer P w H s Q E) s
theorem Env0.make {P : Program} {w : World} {K : PySem.W.Frag} {mg : Str → Option Value} {base : Heap} {A : Around} {outer : List Env} {s : Shared} {H : Hp} (e : Env0 P w K mg base A outer s H) (C : Addr) (us : List Value) (kw : List (Str × Value)) :
    Env0 P w K mg base (A.under (.builtin "type.__call__" ⟨.ref C :: us, kw⟩)) outer s H := ⟨by first | exact e.frames | (simpa [Around.under, Code.envs, Code.isFrame, pushEnvs] using e.frames), e.mod, e.bs, e.bsz, e.funs, e.frf, e.hok, e.bare⟩
section
variable {X : Cx} {pins : List (Addr × Obj)} {σ : St} {H : Hp} {s s' : Shared}
theorem Inv.env0 (I : Inv X pins σ H s) : Env0 X.prog X.w X.K X.mg X.base X.A X.stack s H :=
  ⟨I.ok.frames, I.ok.mod, I.bs, Nat.le_trans I.ok.bsz I.sz, I.stack, I.stkFree, I.hok, I.bare⟩
theorem Inv.after {Q : VK} {u : Value} (I : Inv X pins σ H s) (h : CE X.stack X.prog X.w H s Q u s') : EP X pins σ Q u s' := by
  obtain ⟨v, H', os, bare, un, hok, r, q⟩ := h
  obtain ⟨hh, g, d, t, os'⟩ := s'
  obtain rfl : os' = s.os := os
  exact ⟨v, H', I.call (h' := hh) (g' := g) (d' := d) (t' := t) (ch := []) un hok bare (fun b z => absurd z (by simp)), r, q⟩
end
def tCall (sp : Sp) (dvs : List V) (E : XK) (t : TA) : TE := fun σ H Q => t σ H fun vs H1 => sp (vs ++ dvs) H1 Q E
def tMeth (C : Addr) (m : Str) (sp : Sp) (dvs : List V) (E : XK) (ta : TE) (t : TA) : TE := fun σ H Q => ta σ H fun x H1 => ∃ a dx fs, x = .ref a ∧ H1 a = some (.ins C dx fs) ∧ fs.lookup m = none ∧
  t σ H1 fun vs H2 => sp (x :: (vs ++ dvs)) H2 Q E
def tMake (C : Addr) (sp : Sp) (dvs : List V) (E : XK) (t : TA) : TE := fun σ H Q => t σ H fun vs H1 => ∀ x dx, H1 x = none → H1 dx = none → dx ≠ x →
  sp (.ref x :: (vs ++ dvs)) (upd (upd H1 dx (.own x)) x (.ins C dx [])) (fun v H2 => v = .non ∧ Q (.ref x) H2) E
def Binds (K : PySem.W.Frag) (fd : FuncData) (ps : List Str) (ds : List Value) : Prop :=
  ∀ (s : Shared) (us : List Value), K.In s.heap → (us ++ ds).length = ps.length → BindsTo s fd ⟨us, []⟩ (ps.zip (us ++ ds))
theorem Binds.all {K : PySem.W.Frag} {fd : FuncData} {ps : List Str} (h : ∀ us : List Value, us.length = ps.length → bindArgs fd ⟨us, []⟩ = pure (ps.zip us)) : Binds K fd ps [] := fun s us _ hl => by
  rw [List.append_nil] at hl ⊢
  exact .of_eq (h us hl)
def Passes (CX : CXT) (X : Cx) (E : XK) : Prop := ∀ (pins : List (Addr × Obj)) (σ : St) (H : Hp) (s : Shared) (e : Value) (s' : Shared), Inv X pins σ H s → CX X.stack H s E e s' → X.xe e s'
section
variable {X : Cx} {CX : CXT} {k : Nat} {f C : Addr} {fd : FuncData} {ps : List Str} {sp : Sp} {dvs : List V} {ds : List Value} {E : XK} {x m : Str} {p pos apos : Pos} {e o : Expr} {es : List Expr} {ta : TE} {t : TA}
theorem run_fn {pins : List (Addr × Obj)} {σ : St} {H : Hp} {s : Shared} {Q : VK} {us : List Value} {vs : List V} (F : FnOk X.prog X.w X.K X.mg X.base CX k f fd ps sp) (hr : Room k X.A) (hb : Binds X.K fd ps ds) (hd : Vals dvs ds) (hx : Passes CX X E)
    (I : Inv X pins σ H s) (r : Vals vs us) (h : sp (vs ++ dvs) H Q E) : wpAny (model X.prog X.w) X.A (call (.ref f) us) (EP X pins σ Q) X.xe s := by
  have r2 : Vals (vs ++ dvs) (us ++ ds) := r.append hd
  have hl : (us ++ ds).length = ps.length := by rw [← r2.length]; exact F.len _ _ _ _ h
  refine wpAny_call (codeAny_mono (F.run X.A X.stack s H ⟨us, []⟩ (us ++ ds) (vs ++ dvs) Q E hr I.env0 (hb s us I.kIn hl) r2 h) fun r s' hq => ?_)
  cases r with
  | error e => exact hx pins σ H s e s' I hq
  | ok fl =>
    cases fl with
    | ret u => exact I.after hq
    | next => exact False.elim hq
    | brk => exact False.elim hq
    | cont => exact False.elim hq
theorem pe_call (F : FnOk X.prog X.w X.K X.mg X.base CX k f fd ps sp) (hr : Room k X.A) (hg : Gl X x) (hm : X.mg x = some (.ref f)) (hk : PySem.W.keepIn X.K (.ref f) = true) (hb : Binds X.K fd ps ds) (hd : Vals dvs ds) (hx : Passes CX X E)
    (ha : PA X (e :: es) t) (hdb : (x == ("__debug__" : Str)) = false := by decide) (he : starEach (e :: es) X.env = (false, eval e X.env) :: starEach es X.env := by rfl) (hpl : (backTo pos (starEach es X.env)).any (·.1) = false := by rfl) :
    PE X (.Call (.Name x p) (e :: es) [] pos) (tCall sp dvs E t) := by
  intro pins s σ H Q I h
  refine wpAny_Call_Name_kw (ld_glob I hg hm ?_ hdb)
  refine PySem.W.callWith_K (h₀ := X.base) I.ok.mod.kin hk (thn (ha pos pins s σ H _ I h) fun us s1 ⟨vs, H1, I1, r, q⟩ => ⟨I1.kIn, ?_⟩) he hpl
  exact run_fn F hr hb hd hx I1 r q
theorem pe_meth {pl : Sem Bool} (he : PE X o ta) (c : Cls X.K C) (hm : Meth X.K C m f) (F : FnOk X.prog X.w X.K X.mg X.base CX k f fd ps sp) (hr : Room k X.A) (hb : Binds X.K fd ps ds) (hd : Vals dvs ds) (hx : Passes CX X E) (ha : PA X (e :: es) t)
    (hst : starEach (e :: es) X.env = (false, eval e X.env) :: starEach es X.env := by rfl) (hpl : (backTo pos (starEach es X.env)).any (·.1) = false := by rfl)
    (ht : eval (.Call (.Attribute o m apos) (e :: es) [] pos) X.env = (do
      let ov ← eval o X.env
      standAt apos.atName
      let (f, first) ← holding [ov] (getMethod ov m pl)
      callWith pos f first (backTo pos (starEach (e :: es) X.env)) (backToKw pos (keywordEach [] X.env))) := by rfl) :
    PE X (.Call (.Attribute o m apos) (e :: es) [] pos) (tMeth C m sp dvs E ta t) := by
  intro pins s σ H Q I h
  refine PySem.W.methodCall_KW (pl := pl) (thn (he pins s σ H _ I h) fun u s1 ⟨x, H1, I1, rx, a, dx, fs, ex, ea, l, q⟩ => ?_) ht
  subst ex
  obtain rfl : u = Value.ref a := rx
  refine getmeth_ok I1 ea c hm l ?_
  refine PySem.W.callWith_K (first := [.ref a]) (h₀ := X.base) I.ok.mod.kin hm.kp (thn (ha pos pins s1 σ H1 _ I1 q) fun us s2 ⟨vs, H2, I2, r, q2⟩ => ⟨I2.kIn, ?_⟩) hst hpl
  exact run_fn (us := .ref a :: us) (vs := .ref a :: vs) F hr hb hd hx I2 (.cons rfl r) q2
structure Mk (K : PySem.W.Frag) (C f : Addr) : Prop where
  makes : PySem.W.makesIn K C = true
  init : PySem.W.findIn K (.ref C) "__init__" = some (some (.ref f))
  fn : PySem.W.isFn K (.ref f) = true
  kp : PySem.W.keepIn K (.ref C) = true
theorem run_make {pins : List (Addr × Obj)} {σ : St} {H : Hp} {s : Shared} {Q : VK} {us : List Value} {vs : List V} (M : Mk X.K C f) (F : FnOk X.prog X.w X.K X.mg X.base CX k f fd ps sp) (hr : Room (k + 1) X.A) (hb : Binds X.K fd ps ds) (hd : Vals dvs ds)
    (hx : Passes CX X E) (I : Inv X pins σ H s) (r : Vals vs us)
    (h : ∀ x dx, H x = none → H dx = none → dx ≠ x → sp (.ref x :: (vs ++ dvs)) (upd (upd H dx (.own x)) x (.ins C dx [])) (fun v H2 => v = .non ∧ Q (.ref x) H2) E) :
    wpAny (model X.prog X.w) X.A (call (.ref C) us) (EP X pins σ Q) X.xe s := by
  have hq := h (s.heap.objs.size + 1) s.heap.objs.size (I.hok.fresh (Nat.le_succ _)) (I.hok.fresh (Nat.le_refl _)) (Nat.ne_of_lt (Nat.lt_succ_self _))
  have I2 := Inv.made (C := C) I
  have r2 : Vals (V.ref (s.heap.objs.size + 1) :: (vs ++ dvs)) (Value.ref (s.heap.objs.size + 1) :: (us ++ ds)) := .cons rfl (r.append hd)
  have hl : (Value.ref (s.heap.objs.size + 1) :: us ++ ds).length = ps.length := by
    have e := r2.length
    rw [F.len _ _ _ _ hq] at e
    exact e.symm
  refine wpAny_call (make_map (f := f) I.kIn M.makes M.init (beq_iff_eq.mp M.fn) (codeAny_mono (F.run _ X.stack _ _ ⟨Value.ref (s.heap.objs.size + 1) :: us, []⟩ (Value.ref (s.heap.objs.size + 1) :: (us ++ ds)) _ _ E (hr.make C us [])
    (I2.env0.make C us []) (hb _ (Value.ref (s.heap.objs.size + 1) :: us) I2.kIn hl) r2 hq) fun r s' hq' => ?_))
  cases r with
  | error e => exact hx pins σ _ _ e s' I2 hq'
  | ok fl =>
    cases fl with
    | ret u =>
      obtain ⟨v, H', I3, rv, ev, q3⟩ := I2.after hq'
      subst ev
      exact ⟨rv, ⟨V.ref (s.heap.objs.size + 1), H', I3, rfl, q3⟩⟩
    | next => exact False.elim hq'
    | brk => exact False.elim hq'
    | cont => exact False.elim hq'
theorem pe_make (M : Mk X.K C f) (F : FnOk X.prog X.w X.K X.mg X.base CX k f fd ps sp) (hr : Room (k + 1) X.A) (hg : Gl X x) (hm : X.mg x = some (.ref C)) (hb : Binds X.K fd ps ds) (hd : Vals dvs ds) (hx : Passes CX X E)
    (ha : PA X (e :: es) t) (hdb : (x == ("__debug__" : Str)) = false := by decide) (he : starEach (e :: es) X.env = (false, eval e X.env) :: starEach es X.env := by rfl) (hpl : (backTo pos (starEach es X.env)).any (·.1) = false := by rfl) :
    PE X (.Call (.Name x p) (e :: es) [] pos) (tMake C sp dvs E t) := by
  intro pins s σ H Q I h
  refine wpAny_Call_Name_kw (ld_glob I hg hm ?_ hdb)
  refine PySem.W.callWith_K (h₀ := X.base) I.ok.mod.kin M.kp (thn (ha pos pins s σ H _ I h) fun us s1 ⟨vs, H1, I1, r, q⟩ => ⟨I1.kIn, ?_⟩) he hpl
  exact run_make M F hr hb hd hx I1 r q
end
section
variable {X : Cx} {CX : CXT} {k : Nat} {f C : Addr} {fd : FuncData} {ps ks : List Str} {sp : Sp} {E : XK} {x m : Str} {p pos apos kpos : Pos} {e o : Expr} {es : List Expr} {kws : List Keyword} {te ta : TE} {t tk : TA} {nm : Option Str}
variable {g : List Value → List Value → List Value} {gV : List V → List V → List V}
end
structure FnScope (N P : List Str) (sc : Scope) : Prop where
  kind : sc.kind = .function
  co : sc.isCoroutine = false
  gen : sc.isGenerator = false
  nd : N.Nodup
  pre : N.take P.length = P
  par : ∀ x ∈ P, sc.names.lookup x = some .local ∨ sc.names.lookup x = some .cell
  nofree : ∀ y ∈ sc.names, y.2 ≠ .free
theorem bindL_out {kindOf : Str → Option NameKind} {x : Str} : ∀ {binds : List (Str × Value)} {m : Str → Option Value}, (∀ v, (x, v) ∉ binds) → bindL kindOf binds m x = m x
  | [], _, _ => rfl
  | (n, v) :: r, m, h => by
    unfold bindL
    rw [bindL_out fun w hw => h w (List.mem_cons_of_mem _ hw)]
    split
    · have : x ≠ n := by rintro rfl; exact h v List.mem_cons_self
      simp [this]
    · rfl
theorem bindC_out {kindOf : Str → Option NameKind} {x : Str} : ∀ {binds : List (Str × Value)} {m : Str → Option Value}, (∀ v, (x, v) ∉ binds) → bindC kindOf binds m x = m x
  | [], _, _ => rfl
  | (n, v) :: r, m, h => by
    unfold bindC
    rw [bindC_out fun w hw => h w (List.mem_cons_of_mem _ hw)]
    split
    · rfl
    · have : x ≠ n := by rintro rfl; exact h v List.mem_cons_self
      simp [this]
theorem bindL_get {kindOf : Str → Option NameKind} {x : Str} {v : Value} : ∀ {P : List Str} {vs : List Value} {i : Nat} {m : Str → Option Value}, P.Nodup → P[i]? = some x → vs[i]? = some v → kindOf x = some .local →
    bindL kindOf (P.zip vs) m x = some v
  | [], _, _, _, _, h, _, _ => by simp at h
  | _ :: _, [], _, _, _, _, h, _ => by simp at h
  | p :: P, w :: vs, 0, m, nd, h1, h2, hk => by
    simp at h1 h2; subst h1; subst h2
    show bindL kindOf ((p, w) :: P.zip vs) m p = _
    unfold bindL
    rw [bindL_out fun v hv => (List.nodup_cons.mp nd).1 (List.of_mem_zip hv).1, if_pos hk]
    simp
  | p :: P, w :: vs, i + 1, m, nd, h1, h2, hk => by
    show bindL kindOf ((p, w) :: P.zip vs) m x = _
    unfold bindL
    exact bindL_get (i := i) (List.nodup_cons.mp nd).2 (by simpa using h1) (by simpa using h2) hk
theorem bindC_get {kindOf : Str → Option NameKind} {x : Str} {v : Value} : ∀ {P : List Str} {vs : List Value} {i : Nat} {m : Str → Option Value}, P.Nodup → P[i]? = some x → vs[i]? = some v → kindOf x ≠ some .local →
    bindC kindOf (P.zip vs) m x = some v
  | [], _, _, _, _, h, _, _ => by simp at h
  | _ :: _, [], _, _, _, _, h, _ => by simp at h
  | p :: P, w :: vs, 0, m, nd, h1, h2, hk => by
    simp at h1 h2; subst h1; subst h2
    show bindC kindOf ((p, w) :: P.zip vs) m p = _
    unfold bindC
    rw [bindC_out fun v hv => (List.nodup_cons.mp nd).1 (List.of_mem_zip hv).1, if_neg hk]
    simp
  | p :: P, w :: vs, i + 1, m, nd, h1, h2, hk => by
    show bindC kindOf ((p, w) :: P.zip vs) m x = _
    unfold bindC
    exact bindC_get (i := i) (List.nodup_cons.mp nd).2 (by simpa using h1) (by simpa using h2) hk
def start (N : List Str) (vs : List V) : St := vs.map some ++ List.replicate (N.length - vs.length) none
def cxOf (CX : CXT) (P : Program) (w : World) (K : PySem.W.Frag) (mg : Str → Option Value) (base : Heap) (N : List Str) (qual : Str) (scope : Scope) (f : Addr) (cd : Value) (A : Around) (outer : List Env) (s : Shared) (H : Hp) (E : XK) : Cx where
  prog := P
  w := w
  K := K
  mg := mg
  base := base
  A := A.deeper (envOfC qual scope s.heap.objs.size f cd)
  N := N
  s₀ := s
  H₀ := H
  env := envOfC qual scope s.heap.objs.size f cd
  outer := outer
  stack := envOfC qual scope s.heap.objs.size f cd :: outer
  ex := []
  calm := true
  fn := fun _ => true
  pn := []
  xe := fun e s' => wpAny (model P w) (A.deeper (envOfC qual scope s.heap.objs.size f cd)) (leaving (envOfC qual scope s.heap.objs.size f cd) e) (fun _ s'' => CX outer H s E e s'') (fun e' s'' => CX outer H s E e' s'') s'
theorem cell_has {sc : Scope} {n : Nat} {x : Str} (h : sc.names.lookup x = some .cell) : ∃ c, (cellsFrom n sc.names []).lookup x = some c := by
  have q := PySem.W.cellsFrom_some sc.names n [] (.inl h)
  exact Option.isSome_iff_exists.mp q
theorem inv_start {CX : CXT} {P : Program} {w : World} {K : PySem.W.Frag} {mg : Str → Option Value} {base : Heap} {N ps : List Str} {qual : Str} {scope : Scope} {f : Addr} {cd : Value} {A : Around} {outer : List Env} {s s1 : Shared} {H : Hp} {E : XK} {us : List Value} {vs : List V}
    (S : FnScope N ps scope) (hd : A.handled = none) (e0 : Env0 P w K mg base A outer s H) (hl : vs.length = ps.length) (r : Vals vs us)
    (x : InCallC s s.heap.objs.size (bindL (envOfC qual scope s.heap.objs.size f cd).kindOf (ps.zip us) fun _ => none) (cellsFrom (s.heap.objs.size + 1) scope.names []) (bindC (envOfC qual scope s.heap.objs.size f cd).kindOf (ps.zip us) fun _ => none) s1) :
    Inv (cxOf CX P w K mg base N qual scope f cd A outer s H E) [] (start N vs) H s1 := by
  have hpl : ps.length ≤ N.length := by have := congrArg List.length S.pre; rw [List.length_take] at this; omega
  obtain ⟨h1, tk, rfl, hk⟩ := x.done
  have noA : ∀ b : Addr, b ∉ (cxOf CX P w K mg base N qual scope f cd A outer s H E).ex := fun b z => absurd (show b ∈ ([] : List Addr) from z) (by simp)
  refine ⟨⟨e0.mod, S.kind, rfl, rfl, Nat.le_refl _, fun y z c h1 h2 => ?_, fun y hy => ?_, fun y c _ h => ?_, fun _ => hd, Around.frames_deeper e0.frames, .inr ⟨rfl, rfl⟩, fun b z => absurd z (noA b), e0.bs, e0.bsz, fun b _ _ => noA b, fun b z => absurd z (noA b), e0.funs, e0.frf⟩,
    rfl, e0.bare, Un.kept hk, ⟨_, x.toInCall.ns, fun i y v h1 h2 h3 => ?_⟩, fun y c h => ⟨_, x.cell y c h⟩, e0.hok.fresh (Nat.le_refl _), fun y c h => ?_, fun p hp => absurd (show p ∈ ([] : List (Addr × Obj)) from hp) (by simp), e0.hok.kept hk, ?_⟩
  · exact name_of_addr x.apart (PySem.mem_of_lookup h1) (PySem.mem_of_lookup h2)
  · have hy : scope.names.lookup y = some .cell ∨ scope.names.lookup y = some .free := hy
    rcases hy with hy | hy
    · exact cell_has hy
    · exact absurd rfl (S.nofree _ (PySem.mem_of_lookup hy))
  · exact Nat.le_of_lt (x.above y c (PySem.mem_of_lookup h))
  · have hi : i < vs.length := by
      unfold start at h2
      by_cases hi : i < vs.length
      · exact hi
      · rw [List.getElem?_append_right (by simpa using hi)] at h2
        rw [List.getElem?_replicate] at h2
        split at h2 <;> cases h2
    have ha : vs[i]? = some v := by
      unfold start at h2
      rw [List.getElem?_append_left (by simpa using hi), List.getElem?_map] at h2
      cases e : vs[i]? with
      | none => rw [e] at h2; cases h2
      | some a => rw [e] at h2; cases h2; rfl
    obtain ⟨u, hu, rv⟩ := r.get ha
    have hp : ps[i]? = some y := by
      rw [← S.pre, List.getElem?_take_of_lt (by omega)]; exact h1
    have ndP : ps.Nodup := by rw [← S.pre]; exact S.nd.sublist (List.take_sublist _ _)
    refine ⟨u, rv, ?_⟩
    rcases S.par y (List.mem_of_getElem? hp) with k | k
    · exact .inl ⟨k, bindL_get ndP hp hu k⟩
    · obtain ⟨c, e⟩ := cell_has (n := s.heap.objs.size + 1) k
      refine .inr ⟨.inl k, c, e, ?_⟩
      have q := x.cell y c e
      rw [bindC_get ndP hp hu (by show scope.names.lookup y ≠ _; rw [k]; decide)] at q
      exact q
  · exact e0.hok.fresh (Nat.le_of_lt (x.above y c (PySem.mem_of_lookup h)))
  · unfold start
    show _ = N.length
    rw [List.length_append, List.length_map, List.length_replicate]
    omega
theorem fn_of {CX : CXT} {P : Program} {w : World} {K : PySem.W.Frag} {mg : Str → Option Value} {base : Heap} {k : Nat} {f : Addr} {name qual : Str} {params : Arguments} {body : List Stmt} {scope : Scope} {dV kV doc pm cdv ct oc : Value} {an od : Option Addr}
    {osl : Array (Option Value)} {N ps : List Str} {sp : Sp} (lk : K.lookup f = some ⟨oc, od, .func (PySem.W.fnOf name qual params body scope dV kV doc pm an cdv ct), osl⟩) (hcd : PySem.W.codeIn K cdv qual = true) (S : FnScope N ps scope)
    (len : ∀ vs H Q E, sp vs H Q E → vs.length = ps.length)
    (hbody : ∀ (A : Around) (outer : List Env) (s : Shared) (H : Hp) (vs : List V) (Q : VK) (E : XK), Room k (A.deeper (envOfC qual scope s.heap.objs.size f cdv)) → sp vs H Q E →
      ∃ t, PSs (cxOf CX P w K mg base N qual scope f cdv A outer s H E) body t ∧ t { nx := fun _ H' => Q .non H', rt := Q } (start N vs) H) :
    FnOk P w K mg base CX (k + 1) f (PySem.W.fnOf name qual params body scope dV kV doc pm an cdv ct) ps sp := by
  refine ⟨len, fun A outer s H args us vs Q E hr e0 hb r hsp => ?_⟩
  have hl := len _ _ _ _ hsp
  have KX : K.In s.heap := e0.mod.kin.keeps fun b o e => (e0.bs b o e).1
  have lim : s.heap.NoLimit := e0.mod.nolimit.keeps fun b o e => (e0.bs b o e).1
  have hkind : ∀ y ∈ ps.zip us, scope.names.lookup y.1 = some .local ∨ (scope.names.lookup y.1 = some .cell ∧ ((cellsFrom (s.heap.objs.size + 1) scope.names []).lookup y.1).isSome = true) := fun ⟨n, v⟩ hy => by
    rcases S.par n (List.of_mem_zip hy).1 with q | q
    · exact .inl q
    · exact .inr ⟨q, PySem.W.cellsFrom_some _ _ _ (.inl q)⟩
  refine codeAny_call_function hr.depth (KX _ _ lk) rfl S.co S.gen rfl (PySem.W.codeRec_of KX hcd) (hb _ _ _ _ ?_)
  refine wpAny_newFunctionEnv_cells S.kind hkind fun env he s1 x => ?_
  subst he
  refine ⟨lim.keeps x.toInCall.keep, codeAny_func ?_⟩
  obtain ⟨t, ht, hq⟩ := hbody A outer s H vs Q E (hr.deeper _) hsp
  have I : Inv (cxOf CX P w K mg base N qual scope f cdv A outer s H E) [] (start N vs) H s1 := inv_start S hr.hd e0 hl r x
  refine wpAny_mono (ht [] s1 (start N vs) H _ I hq) (fun fl s' hs => ?_) fun e s' hs => hs
  have fin : ∀ {σ' : St} {H' : Hp} {v : V} {u : Value}, Inv (cxOf CX P w K mg base N qual scope f cdv A outer s H E) [] σ' H' s' → RelV v u → Q v H' → CE outer P w H s Q u s' :=
    fun {σ' H' v u} J rv q => ⟨v, H', J.os, J.bare, J.base, J.hok, rv, q⟩
  cases fl with
  | ret u =>
    obtain ⟨v, σ', H', J, rv, q⟩ := hs
    exact fin J rv q
  | next =>
    obtain ⟨σ', H', J, q⟩ := hs
    exact fin (v := V.non) (u := Value.none) J rfl q
  | brk =>
    obtain ⟨_, _, _, q⟩ := hs
    exact False.elim q
  | cont =>
    obtain ⟨_, _, _, q⟩ := hs
    exact False.elim q
end L2
namespace L2
open PySem PySem.Spec PyProof.Rows
section
variable {X : Cx} {x : Str} {p pos : Pos} {e : Expr} {es : List Expr} {t : TA} {id T : String} {r : List V → Hp → VK → Prop}
def tCB (r : List V → Hp → VK → Prop) (t : TA) : TE := fun σ H Q => t σ H fun vs H1 => r vs H1 Q
theorem pe_callB (hc : CallR X (.builtin id) r) (hg : Gl X x) (hm : X.mg x = none) (hv : bootBuiltins x = some (.builtin id)) (ha : PA X (e :: es) t) (hn : x ≠ "__name__" := by decide) (hdb : (x == ("__debug__" : Str)) = false := by decide)
    (he : starEach (e :: es) X.env = (false, eval e X.env) :: starEach es X.env := by rfl) (hpl : (backTo pos (starEach es X.env)).any (·.1) = false := by rfl) : PE X (.Call (.Name x p) (e :: es) [] pos) (tCB r t) := by
  intro pins s σ H Q I h
  refine wpAny_Call_Name_kw (ld_blt I hg hm hv ?_ hn hdb)
  exact PyProof.Rows.callWith_builtin1 (thn (ha pos pins s σ H _ I h) fun us s1 ⟨vs, H1, I1, r1, q1⟩ => hc pins s1 σ H1 vs us Q I1 r1 q1) he hpl
theorem pe_callTy (hc : CallR X (.type T) r) (hg : Gl X x) (hm : X.mg x = none) (hv : bootBuiltins x = some (.type T)) (ha : PA X (e :: es) t) (hn : x ≠ "__name__" := by decide) (hdb : (x == ("__debug__" : Str)) = false := by decide)
    (he : starEach (e :: es) X.env = (false, eval e X.env) :: starEach es X.env := by rfl) (hpl : (backTo pos (starEach es X.env)).any (·.1) = false := by rfl) : PE X (.Call (.Name x p) (e :: es) [] pos) (tCB r t) := by
  intro pins s σ H Q I h
  refine wpAny_Call_Name_kw (ld_blt I hg hm hv ?_ hn hdb)
  exact PyProof.Rows.callWith_type1 (thn (ha pos pins s σ H _ I h) fun us s1 ⟨vs, H1, I1, r1, q1⟩ => hc pins s1 σ H1 vs us Q I1 r1 q1) he hpl
end
end L2
namespace HT
open PySem PyProof.Rows
def lexLt : List Int → List Int → Bool
  | [], [] => false
  | [], _ :: _ => true
  | _ :: _, [] => false
  | x :: xs, y :: ys => if x = y then lexLt xs ys else decide (x < y)
theorem lexLt_cons (x y : Int) (xs ys : List Int) : lexLt (x :: xs) (y :: ys) = if x = y then lexLt xs ys else decide (x < y) := rfl
theorem lexLt_nil_nil : lexLt [] [] = false := rfl
theorem lexLt_nil_cons (y : Int) (ys : List Int) : lexLt [] (y :: ys) = true := rfl
theorem lexLt_cons_nil (x : Int) (xs : List Int) : lexLt (x :: xs) [] = false := rfl
section
open PySem.SeqAt
open PySem.AutoSeq1 (wpAny_loadPart')
open PySem.MeetsSeq PySem.MeetsSeq2 PySem.MeetsSeq3
end
section
variable {prog : Program} {w : World} {A : Around} {E : Value → Shared → Prop} {s : Shared}
def sIx (n d : Nat) : Option Int → Nat
  | none => d
  | some v => if v < 0 then (v + (n : Int)).toNat else min v.toNat n
theorem sIx_none (n d : Nat) : sIx n d none = d := rfl
theorem sIx_nat (n d k : Nat) : sIx n d (some (k : Int)) = min k n := by
  show (if (k : Int) < 0 then ((k : Int) + (n : Int)).toNat else min (k : Int).toNat n) = min k n
  rw [if_neg (by omega), Int.toNat_natCast]
end
end HT
namespace L2
open PySem PySem.Spec PyProof.Rows
abbrev TO := St → Hp → (Option Int → Hp → Prop) → Prop
def PO (X : Cx) (e : Option Expr) (t : TO) : Prop :=
  ∀ (pins : List (Addr × Obj)) (s : Shared) (σ : St) (H : Hp) (Q : Option Int → Hp → Prop), Inv X pins σ H s → t σ H Q →
    wpAny (model X.prog X.w) X.A (evalPart e X.env) (fun u s' => ∃ o H', Inv X pins σ H' s' ∧ IsPart u o ∧ Q o H') X.xe s
def tNoPart : TO := fun _ H Q => Q none H
def tPart (t : TE) : TO := fun σ H Q => t σ H fun x H1 => ∃ i, x = .int i ∧ Q (some i) H1
theorem intsAre_of {ns : List Int} : ∀ {us : List Value}, Vals (ns.map V.int) us → IntsAre us ns := by
  induction ns with
  | nil => intro us r; rw [List.map_nil] at r; cases r; exact .nil
  | cons n ns ih =>
    intro us r
    rw [List.map_cons] at r
    cases r with
    | cons r1 r2 =>
      obtain ⟨t, e⟩ := r1
      subst e
      exact .cons n t (ih r2)
section
variable {X : Cx} {e : Expr} {te : TE} {lo hi : Option Expr} {tl th : TO} {pos p2 : Pos}
theorem po_none : PO X none tNoPart := by
  intro pins s σ H Q I h
  rw [evalPart_none]
  exact wpAny_pure ⟨none, H, I, .none, h⟩
theorem po_some (h : PE X e te) : PO X (some e) (tPart te) := by
  intro pins s σ H Q I hw
  rw [evalPart_some]
  refine thn (h pins s σ H _ I hw) fun u s1 ⟨x, H1, I1, r1, q1⟩ => ?_
  obtain ⟨i, rfl, q⟩ := q1
  obtain ⟨t, rfl⟩ := r1
  exact ⟨some i, H1, I1, .int i t, q⟩
def SlR (X : Cx) (r : V → Option Int → Option Int → Hp → VK → Prop) : Prop :=
  ∀ (pins : List (Addr × Obj)) (s : Shared) (σ : St) (H : Hp) (x : V) (v vl vu : Value) (lo hi : Option Int) (sl : Addr) (Q : VK), Inv X pins σ H s → RelV x v → s.heap.IsSliceOf sl vl vu .none → IsPart vl lo → IsPart vu hi → r x lo hi H Q →
    ∃ T id, typeLookup (.type T) "__getitem__" = pure (some (.builtin id)) ∧ s.TypeIs v T ∧ wpAny (model X.prog X.w) X.A (getItem v (.ref sl)) (EP X pins σ Q) X.xe s
def tSl (r : V → Option Int → Option Int → Hp → VK → Prop) (te : TE) (tl th : TO) : TE := fun σ H Q => te σ H fun x H1 => tl σ H1 fun l H2 => th σ H2 fun u H3 => r x l u H3 Q
theorem pe_slice {r : V → Option Int → Option Int → Hp → VK → Prop} (hr : SlR X r) (he : PE X e te) (hl : PO X lo tl) (hu : PO X hi th) : PE X (.Subscript e (.Slice lo hi none p2) pos) (tSl r te tl th) := by
  intro pins s σ H Q I h
  refine Subscript_ (thn (he pins s σ H _ I h) fun v s1 ⟨x, H1, I1, r1, q1⟩ => ?_)
  refine wpAny_Slice (thn (hl pins s1 σ H1 _ I1 q1) fun vl s2 ⟨l, H2, I2, pl, q2⟩ => thn (hu pins s2 σ H2 _ I2 q2) fun vu s3 ⟨u, H3, I3, pu, q3⟩ => ?_)
  rw [evalPart_none]
  refine wpAny_pure ?_
  have I4 : Inv X pins σ H3 { s3 with heap := s3.heap.push { cls := .type "slice", data := .fields #[vl, vu, .none] } } := I3.kept (t' := s3.toks) fun b ob q => Heap.get?_push_of_some _ q
  obtain ⟨T, id, hT, ht, hg⟩ := hr pins { s3 with heap := s3.heap.push { cls := .type "slice", data := .fields #[vl, vu, .none] } } σ H3 x v vl vu l u s3.heap.objs.size Q I4 r1 (Heap.IsSliceOf.new ..) pl pu q3
  show wpAny (model X.prog X.w) X.A (subscriptTail e (.Slice lo hi none p2) v (.ref s3.heap.objs.size)) (EP X pins σ Q) X.xe { s3 with heap := s3.heap.push { cls := .type "slice", data := .fields #[vl, vu, .none] } }
  exact tail_any (ops := [.ref s3.heap.objs.size, v]) ht hT hg (by with_unfolding_all rfl)
def cutV (xs : List V) (lo hi : Option Int) : List V := (xs.drop (HT.sIx xs.length 0 lo)).take (HT.sIx xs.length xs.length hi - HT.sIx xs.length 0 lo)
theorem cutV_length (xs : List V) (lo hi : Option Int) : (cutV xs lo hi).length ≤ xs.length := by
  unfold cutV
  rw [List.length_take, List.length_drop]
  omega
end
end L2
namespace L2
open PySem PySem.Spec PyProof.Rows
def ixN (n : Nat) (i : Int) : Option Nat := if 0 ≤ i then (if i < n then some i.toNat else none) else if -(n : Int) ≤ i then some (i + n).toNat else none
def atI {α : Type} (xs : List α) (i : Int) : Option α := (ixN xs.length i).bind fun j => xs[j]?
theorem ixN_seq {n : Nat} {i : Int} {j : Nat} (h : ixN n i = some j) : seqIndex? i n = some j ∧ j < n ∧ -(n : Int) ≤ i ∧ i < n := by
  unfold ixN at h
  by_cases h0 : 0 ≤ i
  · rw [if_pos h0] at h
    by_cases h1 : i < n
    · rw [if_pos h1] at h
      have e : i.toNat = j := Option.some.inj h
      exact ⟨by rw [seqIndex_of h0 h1, e], by omega, by omega, h1⟩
    · rw [if_neg h1] at h; cases h
  · rw [if_neg h0] at h
    by_cases h1 : -(n : Int) ≤ i
    · rw [if_pos h1] at h
      have e : (i + n).toNat = j := Option.some.inj h
      exact ⟨by rw [seqIndex_neg (by omega) h1, e], by omega, h1, by omega⟩
    · rw [if_neg h1] at h; cases h
theorem atI_get {α : Type} {xs : List α} {i : Int} {v : α} (h : atI xs i = some v) : ∃ j, seqIndex? i xs.length = some j ∧ xs[j]? = some v ∧ j < xs.length ∧ -(xs.length : Int) ≤ i ∧ i < xs.length := by
  unfold atI at h
  cases e : ixN xs.length i with
  | none => rw [e] at h; cases h
  | some j =>
    rw [e] at h
    obtain ⟨h1, h2, h3, h4⟩ := ixN_seq e
    exact ⟨j, h1, h, h2, h3, h4⟩
theorem atI_nat {α : Type} {xs : List α} {j : Nat} {v : α} (h : xs[j]? = some v) : atI xs (j : Int) = some v := by
  have hj : j < xs.length := (List.getElem?_eq_some_iff.mp h).1
  have e : ixN xs.length (j : Int) = some j := by
    unfold ixN
    rw [if_pos (by omega), if_pos (by omega)]; simp
  unfold atI; rw [e]; exact h
def PlainIx (b : Expr) : Prop := ∀ o i, subscripted b false o i = operate [o, i] (getItem o i)
def IxR (X : Cx) (r : R2) : Prop :=
  ∀ (value slice : Expr) (pins : List (Addr × Obj)) (s : Shared) (σ : St) (H : Hp) (x y : V) (v u : Value) (Q : VK), Inv X pins σ H s → RelV x v → RelV y u → r x y H Q →
    subscripted slice false v u = operate [v, u] (getItem v u) → wpAny (model X.prog X.w) X.A (subscriptTail value slice v u) (EP X pins σ Q) X.xe s
def MtR (X : Cx) (id : String) (r : V → List V → Hp → VK → Prop) : Prop :=
  ∀ (pins : List (Addr × Obj)) (s : Shared) (σ : St) (H : Hp) (x : V) (xs : List V) (v : Value) (us : List Value) (Q : VK), Inv X pins σ H s → RelV x v → Vals xs us → r x xs H Q →
    wpAny (model X.prog X.w) X.A (call (.builtin id) (v :: us)) (EP X pins σ Q) X.xe s
section
variable {X : Cx} {a b : Expr} {ta tb : TE} {pos : Pos}
theorem pe_ix {r : R2} (hr : IxR X r) (ha : PE X a ta) (hb : PE X b tb) (hs : PlainIx b) : PE X (.Subscript a b pos) (tOp r ta tb) := by
  intro pins s σ H Q I h
  exact Subscript_ (binT ha hb I h fun v u s2 x y H2 I2 rx ry q => hr a b pins s2 σ H2 x y v u Q I2 rx ry q (hs _ _))
def rIxL (K : PySem.W.Frag) : R2 := fun x y H Q => ∃ p xs i v, x = .ref p ∧ y = .int i ∧ SqL K H p xs ∧ atI xs i = some v ∧ Q v H
def rIxT (K : PySem.W.Frag) : R2 := fun x y H Q => ∃ p xs i v, x = .ref p ∧ y = .int i ∧ SqT K H p xs ∧ atI xs i = some v ∧ Q v H
theorem ix_list : IxR X (rIxL X.K) := by
  intro value slice pins s σ H x y v u Q I rx ry h hs
  obtain ⟨p, xs, i, z, rfl, rfl, hq, he, q⟩ := h
  cases rx
  obtain ⟨t, rfl⟩ := ry
  obtain ⟨its, r, pl, hz⟩ := I.list hq
  obtain ⟨j, h1, h2, h3, h4, h5⟩ := atI_get he
  obtain ⟨w, ew, rw'⟩ := r.get h2
  have hl := r.length
  have hn := line63
  have fin : EP X pins σ Q w s := ⟨z, H, I, rw', q⟩
  by_cases h0 : 0 ≤ i
  · have hj : i.toNat = j := by
      rw [seqIndex_of h0 h5] at h1
      exact Option.some.inj h1
    exact item_listR pl.isList h0 (by omega) (by rw [hj]; simpa using ew) fin hs
  · have hj : (i + (its.toArray.size : Int)).toNat = j := by
      rw [seqIndex_neg (by omega) h4] at h1
      rw [List.size_toArray, ← hl]
      exact Option.some.inj h1
    exact subscriptTail_builtinR (x := w) pl.isList.typeIs slot_list_getitem.lookup
      (wpAny_getItem_list_neg (Q := fun r s' => r = w ∧ EP X pins σ Q r s') pl.isList (by omega) (by rw [List.size_toArray] <;> omega) (by omega) (by rw [hj]; simpa using ew) ⟨rfl, fin⟩) hs
theorem ix_tup : IxR X (rIxT X.K) := by
  intro value slice pins s σ H x y v u Q I rx ry h hs
  obtain ⟨p, xs, i, z, rfl, rfl, hq, he, q⟩ := h
  cases rx
  obtain ⟨t, rfl⟩ := ry
  obtain ⟨its, r, pl, hz⟩ := I.tuple hq
  obtain ⟨j, h1, h2, h3, h4, h5⟩ := atI_get he
  obtain ⟨w, ew, rw'⟩ := r.get h2
  have hl := r.length
  have hn := line63
  have fin : EP X pins σ Q w s := ⟨z, H, I, rw', q⟩
  exact subscriptTail_builtinR (x := w) pl.typeIs slot_tuple_getitem.lookup
    (getItem_tuple (j := j) (Q := fun r s' => r = w ∧ EP X pins σ Q r s') pl (by omega) (by omega) (by rw [List.size_toArray, ← hl]; exact h1) (by simpa using ew) ⟨rfl, fin⟩) hs
theorem slice_bounds (lo hi : Option Int) (n : Nat) : (sliceBounds lo hi none n).1 = ((HT.sIx n 0 lo : Nat) : Int) ∧ (sliceBounds lo hi none n).2.1 = ((HT.sIx n n hi : Nat) : Int) ∧ (sliceBounds lo hi none n).2.2 = 1 := by
  refine ⟨?_, ?_, rfl⟩
  · cases lo with
    | none => simp [sliceBounds, HT.sIx]
    | some i =>
      simp only [sliceBounds, HT.sIx, Option.getD_none, show (1 : Int) > 0 by decide, if_true]
      by_cases h : i < 0
      · simp only [h, if_true] <;> omega
      · simp only [h, if_false] <;> omega
  · cases hi with
    | none => simp [sliceBounds, HT.sIx]
    | some i =>
      simp only [sliceBounds, HT.sIx, Option.getD_none, show (1 : Int) > 0 by decide, if_true]
      by_cases h : i < 0
      · simp only [h, if_true] <;> omega
      · simp only [h, if_false] <;> omega
theorem slicePick_cut (its : List Value) (lo hi : Option Int) : slicePick its.toArray lo hi none = ((its.drop (HT.sIx its.length 0 lo)).take (HT.sIx its.length its.length hi - HT.sIx its.length 0 lo)).toArray := by
  obtain ⟨h1, h2, h3⟩ := slice_bounds lo hi its.toArray.size
  unfold slicePick
  rw [h1, h2, h3]
  simp only [sliceRange_one, pick_run, List.size_toArray] <;> rfl
def rSlL (K : PySem.W.Frag) : V → Option Int → Option Int → Hp → VK → Prop := fun x lo hi H Q => ∃ a xs, x = .ref a ∧ SqL K H a xs ∧ ∀ p, H p = none → Q (.ref p) (upd H p (.lst (cutV xs lo hi)))
theorem sl_list : SlR X (rSlL X.K) := by
  intro pins s σ H x v vl vu lo hi sl Q I rx hs pl pu h
  obtain ⟨a, xs, rfl, hx, q⟩ := h
  cases rx
  obtain ⟨its, r, ht, hz⟩ := I.list hx
  have hlen := r.length
  refine ⟨"list", _, slot_list_getitem.lookup, ht.isList.typeIs, ?_⟩
  refine wpAny_getItem_list_slice ht.isList hs pl pu .none (by simp) ?_ (by rw [List.size_toArray] <;> omega)
  rw [slicePick_cut, ← hlen]
  refine ⟨.ref s.heap.objs.size, _, I.laid (t' := s.toks) (o := .lst (cutV xs lo hi)) (fun b ob q => Heap.get?_push_of_some _ q) (Nat.le_refl _) ?_, rfl, q _ (I.hok.fresh (Nat.le_refl _))⟩
  exact ⟨Nat.le_trans (cutV_length xs lo hi) hz, _, 0, (r.drop (HT.sIx xs.length 0 lo)).take (HT.sIx xs.length xs.length hi - HT.sIx xs.length 0 lo), Heap.get?_push_size _ rfl⟩
theorem call_list_of : CallR X (.type "list") (fun xs H Q => ∃ p ys, xs = [.ref p] ∧ (SqL X.K H p ys ∨ SqT X.K H p ys) ∧ ∀ l, H l = none → Q (.ref l) (upd H l (.lst ys))) := by
  intro pins s σ H xs us Q I r h
  obtain ⟨p, ys, rfl, hq, q⟩ := h
  obtain ⟨u, rfl, rx⟩ := vals1 r
  cases rx
  have fin : ∀ (its : List Value), Vals ys its → ys.length ≤ sizeLine → ∀ (h' : Heap) (c' : Nat), (∀ b o', s.heap.get? b = some o' → h'.get? b = some o') →
      h'.get? s.heap.objs.size = some { cls := .type "list", dict := none, data := .seq its.toArray c', slots := #[] } → EP X pins σ Q (.ref s.heap.objs.size) { s with heap := h' } := fun its r' hz h' c' kp e =>
    ⟨.ref s.heap.objs.size, _, I.laid (t' := s.toks) kp (Nat.le_refl _) (show ObjOk X.prog X.w _ h' _ (.lst ys) from ⟨hz, its, c', r', e⟩), rfl, q _ (I.hok.fresh (Nat.le_refl _))⟩
  rcases hq with hq | hq
  · obtain ⟨its, r', pl, hz⟩ := I.list hq
    have hlen := r'.length
    obtain ⟨o, ho, hc, n, hd⟩ := pl.isList
    exact call_list_seq p (.inl rfl) ho hc hd (fun h' c' kp e => fin its r' hz h' c' kp e) (by simp only [List.size_toArray] <;> omega)
  · obtain ⟨its, r', pl, hz⟩ := I.tuple hq
    have hlen := r'.length
    obtain ⟨o, ho, hc, n, hd⟩ := pl
    exact call_list_seq p (.inr rfl) ho hc hd (fun h' c' kp e => fin its r' hz h' c' kp e) (by simp only [List.size_toArray] <;> omega)
theorem call_tuple_of : CallR X (.type "tuple") (fun xs H Q => ∃ p ys, xs = [.ref p] ∧ ((SqL X.K H p ys ∧ ∀ l, H l = none → Q (.ref l) (upd H l (.tup ys))) ∨ (SqT X.K H p ys ∧ Q (.ref p) H))) := by
  intro pins s σ H xs us Q I r h
  obtain ⟨p, ys, rfl, h⟩ := h
  obtain ⟨u, rfl, rx⟩ := vals1 r
  cases rx
  rcases h with ⟨hq, q⟩ | ⟨hq, q⟩
  · obtain ⟨its, r', pl, hz⟩ := I.list hq
    have hlen := r'.length
    refine call_tuple_list pl.isList (fun h' kp => ?_) (by simp only [List.size_toArray] <;> omega)
    have I1 : Inv X pins σ H { s with heap := h' } := I.kept (t' := s.toks) kp
    have I2 : Inv X pins σ (upd H h'.objs.size (.tup ys)) { s with heap := h'.push { cls := .type "tuple", data := .seq its.toArray } } :=
      I1.laid (t' := s.toks) (fun b o e => Heap.get?_push_of_some _ e) (Nat.le_refl _) (show ObjOk X.prog X.w _ _ _ (.tup ys) from ⟨hz, its, r', IsTup.new _ _⟩)
    exact ⟨.ref h'.objs.size, _, I2, rfl, q _ (I1.hok.fresh (Nat.le_refl _))⟩
  · obtain ⟨its, r', pl, hz⟩ := I.tuple hq
    exact call_tuple_same pl ⟨.ref p, H, I, rfl, q⟩
def tyV (K : PySem.W.Frag) (T : String) (x : V) (H : Hp) : Prop := match x with
  | .str _ => T = "str"
  | .int _ => T = "int"
  | .ref p => (T = "list" ∧ ∃ xs, SqL K H p xs) ∨ (T = "tuple" ∧ ∃ o, K.lookup p = some o ∧ o.cls = .type "tuple" ∧ o.dict = none) ∨
      (T = "dict" ∧ ((∃ kvs, H p = some (.dK kvs)) ∨ ∃ kvs, H p = some (.dT kvs))) ∨ (T = "set" ∧ ∃ S n, H p = some (.set S n))
  | _ => False
theorem tyV_is {pins : List (Addr × Obj)} {σ : St} {H : Hp} {s : Shared} {T : String} {x : V} {v : Value} (I : Inv X pins σ H s) (r : RelV x v) (ty : tyV X.K T x H) :
    s.TypeIs v T ∧ ∀ a, v = .ref a → ∃ ob, s.heap.get? a = some ob ∧ ob.dict = none := by
  cases x with
  | str z =>
    obtain ⟨t, rfl⟩ := r
    cases (show T = "str" from ty)
    exact ⟨typeIs_str s z t, fun _ e => nomatch e⟩
  | int i =>
    obtain ⟨t, rfl⟩ := r
    cases (show T = "int" from ty)
    exact ⟨typeIs_int s i t, fun _ e => nomatch e⟩
  | ref p =>
    cases r
    rcases ty with ⟨rfl, xs, hq⟩ | ⟨rfl, o, hk, hc, hd⟩ | ⟨rfl, hk⟩ | ⟨rfl, S, n, hk⟩
    · obtain ⟨its, _, pl, _⟩ := I.list hq
      refine ⟨pl.isList.typeIs, fun a e => ?_⟩
      cases e
      obtain ⟨o, n, e, c, hd, _⟩ := pl
      exact ⟨o, e, hd⟩
    · refine ⟨⟨o, I.kIn p o hk, hc⟩, fun a e => ?_⟩
      cases e
      exact ⟨o, I.kIn _ o hk, hd⟩
    · have z : ∃ o, s.heap.get? p = some o ∧ o.ExactDict := by
        rcases hk with ⟨kvs, hk⟩ | ⟨kvs, hk⟩
        · obtain ⟨_, _, _, _, o, _, _, e, ex, _⟩ := I.hok p _ hk
          exact ⟨o, e, ex⟩
        · obtain ⟨_, _, _, _, o, _, _, e, ex, _⟩ := I.hok p _ hk
          exact ⟨o, e, ex⟩
      obtain ⟨o, e, ex⟩ := z
      refine ⟨⟨o, e, ex.1⟩, fun a e2 => ?_⟩
      cases e2
      exact ⟨o, e, ex.2.1⟩
    · obtain ⟨o, _, _, _, e, ex, _⟩ := I.hok p _ hk
      refine ⟨⟨o, e, ex.1⟩, fun a e2 => ?_⟩
      cases e2
      exact ⟨o, e, ex.2.1⟩
  | _ => exact False.elim ty
def tBM0 (K : PySem.W.Frag) (T : String) (r : V → List V → Hp → VK → Prop) (to : TE) : TE := fun σ H Q => to σ H fun x H1 => tyV K T x H1 ∧ r x [] H1 Q
def tBM (K : PySem.W.Frag) (T : String) (r : V → List V → Hp → VK → Prop) (to : TE) (t : TA) : TE := fun σ H Q => to σ H fun x H1 => tyV K T x H1 ∧ t σ H1 fun xs H2 => r x xs H2 Q
variable {o e : Expr} {es : List Expr} {to : TE} {t : TA} {name : Str} {apos cpos : Pos} {T id : String} {r : V → List V → Hp → VK → Prop}
theorem pe_bm0 (pa : PlainAttrs T) (slot : Slot T name id) (hty : typeOf (.builtin id) = pure (.type "method_descriptor")) (hm : MtR X id r) (ho : PE X o to)
    (hbase : attributeBase o name X.env (eval o X.env) = eval o X.env := by rfl) (hline : (apos.endLine == cpos.line) = true := by rfl) : PE X (.Call (.Attribute o name apos) [] [] cpos) (tBM0 X.K T r to) := by
  intro pins s σ H Q I h
  refine wpAny_Call_method0_late hbase hline (thn (ho pins s σ H _ I h) fun v s1 ⟨x, H1, I1, r1, ty, q1⟩ => ?_)
  obtain ⟨h1, h2⟩ := tyV_is I1 r1 ty
  exact ⟨T, id, pa, slot, hty, h1, h2, Calls.callWith_builtin rfl (PySem.evalArgs_none (hm pins s1 σ H1 x [] v [] Q I1 r1 .nil q1))⟩
theorem pe_bm (pa : PlainAttrs T) (slot : Slot T name id) (hty : typeOf (.builtin id) = pure (.type "method_descriptor")) (hm : MtR X id r) (ho : PE X o to) (ha : PA X (e :: es) t)
    (hbase : attributeBase o name X.env (eval o X.env) = eval o X.env := by rfl)
    (hfew : ((backTo cpos (starEach (e :: es) X.env)).all (fun x => !x.1) && (backToKw cpos (keywordEach [] X.env)).all (fun x => x.1.isSome)
      && decide ((e :: es).length + ([] : List Keyword).length + (if ([] : List Keyword).isEmpty then 0 else 1) < 30)) = true := by rfl)
    (hline : (apos.endLine == cpos.line) = true := by rfl) (hs : starEach (e :: es) X.env = (false, eval e X.env) :: starEach es X.env := by rfl) (hplain : (backTo cpos (starEach es X.env)).any (·.1) = false := by rfl) :
    PE X (.Call (.Attribute o name apos) (e :: es) [] cpos) (tBM X.K T r to t) := by
  intro pins s σ H Q I h
  refine wpAny_Call_method_late hbase hfew hline rfl (thn (ho pins s σ H _ I h) fun v s1 ⟨x, H1, I1, r1, ty, q1⟩ => ?_)
  obtain ⟨h1, h2⟩ := tyV_is I1 r1 ty
  refine ⟨T, id, pa, slot, hty, h1, h2, ?_⟩
  have hA := ha cpos pins s1 σ H1 _ I1 q1
  rw [hs] at hA ⊢
  refine Calls.callWith_builtin (by show (false || (backTo cpos (starEach es X.env)).any (·.1)) = false; rw [hplain] <;> rfl) (Calls.evalArgs_plain ?_)
  exact thn hA fun us s2 ⟨vs, H2, I2, r2, q2⟩ => hm pins s2 σ H2 x vs v us Q I2 r1 r2 q2
end
end L2
namespace L2
open PySem PySem.Spec PyProof.Rows
def MtM (X : Cx) (id : String) (r : V → List V → Hp → VK → Prop) : Prop :=
  ∀ (pins : List (Addr × Obj)) (s : Shared) (σ : St) (H : Hp) (x : V) (xs : List V) (v : Value) (us : List Value) (Q : VK), Inv X pins σ H s → RelV x v → Vals xs us → r x xs H Q →
    wpAny (model X.prog X.w) X.A (call (.builtin id) (v :: us)) (EP X pins σ Q) X.xe s
theorem Vals.one : ∀ {x : V} {us : List Value}, Vals [x] us → ∃ u, us = [u] ∧ RelV x u
  | _, _, .cons r .nil => ⟨_, rfl, r⟩
theorem Vals.zero : ∀ {us : List Value}, Vals [] us → us = []
  | _, .nil => rfl
theorem Vals.reverse {xs : List V} {us : List Value} (h : Vals xs us) : Vals xs.reverse us.reverse := by
  induction h with
  | nil => exact .nil
  | cons r t ih => rw [List.reverse_cons, List.reverse_cons]; exact Vals.append ih (.cons r .nil)
section
variable {X : Cx} {pins : List (Addr × Obj)} {σ : St} {H : Hp} {s : Shared} {l b : Addr} {xs ys zs : List V}
theorem Inv.lset {its its' : List Value} {n : Nat} {f : Array Value → Array Value} {t' : Nat} (I : Inv X pins σ H s) (hH : H l = some (.lst xs))
    (e : s.heap.get? l = some { cls := .type "list", data := .seq its.toArray n }) (hf : f its.toArray = its'.toArray) (hv : Vals ys its') (hz : ys.length ≤ sizeLine) :
    Inv X pins σ (upd H l (.lst ys)) { s with heap := s.heap.update l (Obj.mapSeq f), toks := t' } := by
  have q := PySem.IsL.update e f
  rw [hf] at q
  refine I.write (x := l) (e := l) (by rw [hH]; exact trivial) (.inl rfl) (fun b' u hb hu => (Heap.get?_update_other s.heap (Obj.mapSeq f) (Ne.symm hb)).trans hu) ⟨_, q⟩ ?_
  exact ⟨hz, its', _, hv, q⟩
theorem Inv.lnew {its : List Value} {t' : Nat} (I : Inv X pins σ H s) (hv : Vals ys its) (hz : ys.length ≤ sizeLine) :
    Inv X pins σ (upd H s.heap.objs.size (.lst ys)) { s with heap := s.heap.push { cls := .type "list", data := .seq its.toArray }, toks := t' } :=
  I.laid (fun _ _ q => Heap.get?_push_of_some _ q) (Nat.le_refl _) ⟨hz, its, 0, hv, Heap.get?_push_size _ rfl⟩
theorem Inv.fresh (I : Inv X pins σ H s) : H s.heap.objs.size = none := I.hok.fresh (Nat.le_refl _)
theorem Inv.lstM (I : Inv X pins σ H s) (hH : H l = some (.lst xs)) : xs.length ≤ sizeLine ∧ ∃ (its : List Value) (n : Nat), Vals xs its ∧ xs.length = its.length ∧ s.heap.get? l = some { cls := .type "list", data := .seq its.toArray n } := by
  obtain ⟨z, its, n, r, e⟩ := I.hok l _ hH
  exact ⟨z, its, n, r, r.length, e⟩
end
section
variable {X : Cx}
def rAppend : V → List V → Hp → VK → Prop := fun x vs H Q => ∃ l xs y, x = .ref l ∧ vs = [y] ∧ H l = some (.lst xs) ∧ xs.length < sizeLine ∧ Q .non (upd H l (.lst (xs ++ [y])))
theorem mt_append : MtM X "list.append" rAppend := by
  intro pins s σ H x vs v us Q I rx rv h
  obtain ⟨l, xs, y, rfl, rfl, hH, hz, q⟩ := h
  cases rx
  obtain ⟨u, rfl, ru⟩ := rv.one
  obtain ⟨z, its, n, r, hl, e⟩ := I.lstM hH
  refine call_meets F.slot_list_append ⟨_, e, rfl⟩ F.entry_list_append (F.args_list_append_2 _ _) (PySem.list_append l its.toArray n u (by rw [List.size_toArray]; omega)) ⟨e, ?_⟩
  refine ⟨.non, _, I.lset (its' := its ++ [u]) hH e (by simp) (r.append (.cons ru .nil)) ?_, rfl, q⟩
  rw [List.length_append, List.length_singleton]
  omega
def rReverse : V → List V → Hp → VK → Prop := fun x vs H Q => ∃ l xs, x = .ref l ∧ vs = [] ∧ H l = some (.lst xs) ∧ Q .non (upd H l (.lst xs.reverse))
theorem mt_reverse : MtM X "list.reverse" rReverse := by
  intro pins s σ H x vs v us Q I rx rv h
  obtain ⟨l, xs, rfl, rfl, hH, q⟩ := h
  cases rx
  have hus := rv.zero
  subst hus
  obtain ⟨z, its, n, r, hl, e⟩ := I.lstM hH
  refine call_meets F.slot_list_reverse ⟨_, e, rfl⟩ F.entry_list_reverse (F.args_list_reverse_1 _) (AutoSeq1.list_reverse_list_0 l its.toArray n (by rw [List.size_toArray]; omega)) ⟨e, ?_⟩
  refine ⟨.non, _, I.lset (its' := its.reverse) hH e (by simp) r.reverse ?_, rfl, q⟩
  rw [List.length_reverse]
  omega
end
section
variable {prog : Program} {w : World} {A : Around} {E : Value → Shared → Prop} {s : Shared}
end
section
variable {X : Cx}
end
end L2
namespace L2
open PySem PySem.Spec PyProof.Rows
section
variable {κ : Type} [DecidableEq κ]
def valV (kvs : List (κ × V)) (k : κ) : Option V := (kvs.find? fun kv => decide (kv.1 = k)).map (·.2)
def putK (kvs : List (κ × V)) (k : κ) (v : V) : List (κ × V) :=
  if (kvs.any fun kv => decide (kv.1 = k)) = true then kvs.map (fun kv => if kv.1 = k then (kv.1, v) else kv) else kvs ++ [(k, v)]
theorem valV_nil {k : κ} : valV ([] : List (κ × V)) k = none := rfl
theorem valV_pos {p : κ × V} {r : List (κ × V)} {k : κ} (e : p.1 = k) : valV (p :: r) k = some p.2 := by simp [valV, List.find?_cons, e]
theorem valV_neg {p : κ × V} {r : List (κ × V)} {k : κ} (e : ¬ p.1 = k) : valV (p :: r) k = valV r k := by simp [valV, List.find?_cons, e]
theorem valV_any (k : κ) : ∀ kvs : List (κ × V), (kvs.any fun kv => decide (kv.1 = k)) = (valV kvs k).isSome
  | [] => rfl
  | p :: r => by
    rw [List.any_cons]
    by_cases e : p.1 = k
    · simp only [valV_pos e, decide_eq_true e, Bool.true_or, Option.isSome_some]
    · rw [valV_neg e, decide_eq_false e, Bool.false_or]; exact valV_any k r
theorem valV_map (k j : κ) (y : V) : ∀ kvs : List (κ × V), valV (kvs.map fun kv => if kv.1 = k then (kv.1, y) else kv) j = (valV kvs j).map fun x => if j = k then y else x
  | [] => rfl
  | p :: r => by
    have ih := valV_map k j y r
    rw [List.map_cons]
    by_cases h : p.1 = k
    · rw [if_pos h]
      by_cases e : p.1 = j
      · rw [valV_pos (p := (p.1, y)) e, valV_pos e, Option.map_some, if_pos (e.symm.trans h)]
      · rw [valV_neg (p := (p.1, y)) e, valV_neg e, ih]
    · rw [if_neg h]
      by_cases e : p.1 = j
      · rw [valV_pos (p := p) e, valV_pos e, Option.map_some, if_neg (fun z => h (e.trans z))]
      · rw [valV_neg (p := p) e, valV_neg e, ih]
theorem valV_snoc (k j : κ) (y : V) : ∀ kvs : List (κ × V), valV kvs k = none → valV (kvs ++ [(k, y)]) j = if j = k then some y else valV kvs j
  | [], _ => by
    by_cases e : k = j
    · rw [if_pos e.symm]; exact valV_pos (p := (k, y)) e
    · rw [if_neg (fun z => e z.symm)]; exact valV_neg (p := (k, y)) e
  | p :: r, hn => by
    rw [List.cons_append]
    have hk : ¬ p.1 = k := fun z => by rw [valV_pos z] at hn; cases hn
    rw [valV_neg hk] at hn
    have ih := valV_snoc k j y r hn
    by_cases e : p.1 = j
    · rw [valV_pos e, valV_pos e, if_neg (fun z => hk (e.trans z))]
    · rw [valV_neg e, valV_neg e, ih]
theorem valV_put (kvs : List (κ × V)) (k j : κ) (y : V) : valV (putK kvs k y) j = if j = k then some y else valV kvs j := by
  unfold putK
  by_cases a : (kvs.any fun kv => decide (kv.1 = k)) = true
  · rw [if_pos a, valV_map]
    rw [valV_any] at a
    by_cases e : j = k
    · obtain ⟨x, hx⟩ := Option.isSome_iff_exists.mp a
      rw [if_pos e, e, hx, Option.map_some, if_pos rfl]
    · rw [if_neg e]
      cases valV kvs j with
      | none => rfl
      | some x => rw [Option.map_some, if_neg e]
  · rw [if_neg a]
    refine valV_snoc k j y kvs ?_
    rw [valV_any] at a
    cases q : valV kvs k with
    | none => rfl
    | some x => rw [q] at a; exact (a rfl).elim
theorem length_putK (kvs : List (κ × V)) (k : κ) (v : V) : (putK kvs k v).length ≤ kvs.length + 1 := by
  unfold putK
  split
  · rw [List.length_map]; omega
  · rw [List.length_append, List.length_cons, List.length_nil]; omega
theorem putK_new {kvs : List (κ × V)} {k : κ} (v : V) (h : valV kvs k = none) : putK kvs k v = kvs ++ [(k, v)] := by
  unfold putK
  rw [valV_any, h]
  exact if_neg (by decide)
theorem RelO.isSome_eq {o : Option V} {u : Option Value} (r : RelO o u) : o.isSome = u.isSome := by
  cases o with
  | none => cases u with
    | none => rfl
    | some _ => exact (show False from r).elim
  | some _ => cases u with
    | none => exact (show False from r).elim
    | some _ => rfl
theorem RelO.getD {o : Option V} {u : Option Value} {d : V} {d' : Value} (r : RelO o u) (rd : RelV d d') : RelV (o.getD d) (u.getD d') := by
  cases o with
  | none => cases u with
    | none => exact rd
    | some _ => exact (show False from r).elim
  | some _ => cases u with
    | none => exact (show False from r).elim
    | some _ => exact r
theorem KV.val {kvs : List (κ × V)} {vs : List (κ × Value)} (r : KV kvs vs) (k : κ) : RelO (valV kvs k) (valueAt vs k) := by
  unfold KV at r
  induction r with
  | nil => exact True.intro
  | @cons p q ps qs h t ih =>
    obtain ⟨h1, h2⟩ := h
    by_cases e : p.1 = k
    · have e' : q.1 = k := h1.symm.trans e
      have b : valueAt (q :: qs) k = some q.2 := by simp [valueAt, List.find?_cons, e']
      rw [valV_pos e, b]; exact h2
    · have e' : ¬ q.1 = k := fun z => e (h1.trans z)
      have b : valueAt (q :: qs) k = valueAt qs k := by simp [valueAt, List.find?_cons, e']
      rw [valV_neg e, b]; exact ih
theorem KV.any {kvs : List (κ × V)} {vs : List (κ × Value)} (r : KV kvs vs) (k : κ) : (kvs.any fun kv => decide (kv.1 = k)) = vs.any fun kv => decide (kv.1 = k) := by
  unfold KV at r
  induction r with
  | nil => rfl
  | cons h t ih => rw [List.any_cons, List.any_cons, ih, h.1]
theorem KV.repl {kvs : List (κ × V)} {vs : List (κ × Value)} (r : KV kvs vs) (k : κ) {y : V} {u : Value} (ry : RelV y u) :
    KV (kvs.map fun kv => if kv.1 = k then (kv.1, y) else kv) (vs.map fun kv => if kv.1 = k then (kv.1, u) else kv) := by
  unfold KV at r ⊢
  induction r with
  | nil => exact .nil
  | @cons p q ps qs h t ih =>
    rw [List.map_cons, List.map_cons]
    refine .cons ?_ ih
    obtain ⟨h1, h2⟩ := h
    by_cases e : p.1 = k
    · rw [if_pos e, if_pos (h1.symm.trans e)]; exact ⟨h1, ry⟩
    · rw [if_neg e, if_neg (fun z => e (h1.trans z))]; exact ⟨h1, h2⟩
theorem KV.put {kvs : List (κ × V)} {vs : List (κ × Value)} (r : KV kvs vs) (k : κ) {y : V} {u : Value} (ry : RelV y u) : KV (putK kvs k y) (stored vs k u) := by
  unfold putK stored
  rw [r.any k]
  by_cases e : (vs.any fun kv => decide (kv.1 = k)) = true
  · rw [if_pos e, if_pos e]; exact r.repl k ry
  · rw [if_neg e, if_neg e]; exact Paired.snoc r ⟨rfl, ry⟩
theorem KV.length {kvs : List (κ × V)} {vs : List (κ × Value)} (r : KV kvs vs) : kvs.length = vs.length := Paired.length r
end
theorem kV_is {P : Program} {w : World} {k : Key} {u : Value} (r : RelV (kV k) u) : (mixKind P w).is k u = true := by
  cases k with
  | inl i => obtain ⟨t, e⟩ := (show ∃ t, u = Value.int i t from r); subst e; exact mixKind_int P w i t
  | inr x => obtain ⟨t, e⟩ := (show ∃ t, u = Value.str x t from r); subst e; exact mixKind_str P w x t
theorem items_are {P : Program} {w : World} : ∀ {ks : List Key} {us : List Value}, Vals (ks.map kV) us → ItemsAre (mixKind P w) ks us
  | [], _, r => by rw [List.map_nil] at r; cases r; exact .nil
  | k :: ks, _, r => by
    rw [List.map_cons] at r
    cases r with
    | cons h t => exact .cons (kV_is h) (items_are t)
abbrev KT (H : Hp) : List (List Key × V) → List (List Key × Addr × Value) → Prop := Paired fun p q => p.1 = q.1 ∧ H q.2.1 = some (.tup (p.1.map kV)) ∧ RelV p.2 q.2.2
theorem KT.val {H : Hp} {kvs : List (List Key × V)} {xs : List (List Key × Addr × Value)} (r : KT H kvs xs) (k : List Key) : RelO (valV kvs k) ((atKey xs k).map (·.2)) := by
  induction r with
  | nil => exact True.intro
  | @cons p q ps qs h t ih =>
    obtain ⟨h1, _, h2⟩ := h
    by_cases e : p.1 = k
    · have e' : q.1 = k := h1.symm.trans e
      have b : atKey (q :: qs) k = some q.2 := by simp [atKey, List.find?_cons, e']
      rw [valV_pos e, b]; exact h2
    · have e' : ¬ q.1 = k := fun z => e (h1.trans z)
      have b : atKey (q :: qs) k = atKey qs k := by simp [atKey, List.find?_cons, e']
      rw [valV_neg e, b]; exact ih
theorem KT.repl {H : Hp} {kvs : List (List Key × V)} {xs : List (List Key × Addr × Value)} (r : KT H kvs xs) (k : List Key) {y : V} {u : Value} (ry : RelV y u) :
    KT H (kvs.map fun kv => if kv.1 = k then (kv.1, y) else kv) (xs.map (putAt k u)) := by
  induction r with
  | nil => exact .nil
  | @cons p q ps qs h t ih =>
    rw [List.map_cons, List.map_cons]
    refine .cons ?_ ih
    obtain ⟨h1, h2, h3⟩ := h
    unfold putAt
    by_cases e : p.1 = k
    · rw [if_pos e, if_pos (h1.symm.trans e)]; exact ⟨h1, h2, ry⟩
    · rw [if_neg e, if_neg (fun z => e (h1.trans z))]; exact ⟨h1, h2, h3⟩
theorem KT.put {H : Hp} {kvs : List (List Key × V)} {xs : List (List Key × Addr × Value)} (r : KT H kvs xs) (k : List Key) {b : Addr} {y : V} {u : Value} (hb : H b = some (.tup (k.map kV))) (ry : RelV y u) :
    KT H (putK kvs k y) (storedH xs k b u) := by
  have e : (kvs.any fun kv => decide (kv.1 = k)) = (atKey xs k).isSome := by
    rw [valV_any, (r.val k).isSome_eq, Option.isSome_map]
  unfold putK storedH
  rw [e]
  by_cases q : (atKey xs k).isSome = true
  · rw [if_pos q, if_pos q]; exact r.repl k ry
  · rw [if_neg q, if_neg q]; exact Paired.snoc r ⟨rfl, hb, ry⟩
theorem KT.keeps {H H' : Hp} {kvs : List (List Key × V)} {xs : List (List Key × Addr × Value)} (r : KT H kvs xs) (ht : ∀ b ys, H b = some (.tup ys) → H' b = some (.tup ys)) : KT H' kvs xs :=
  Paired.mapP r fun _ _ z => ⟨z.1, ht _ _ z.2.1, z.2.2⟩
section
variable {P : Program} {w : World} {H : Hp} {h : Heap} {a : Addr}
theorem rd_of {u : HO} (ok : HOk P w H h) (e : Rd H a u) : ObjOk P w H h a u := e.ok ok
theorem dk_rd {kvs : List (Key × V)} (ok : HOk P w H h) (e : Rd H a (.dK kvs)) : kvs.length ≤ sizeLine ∧ (a == sysModules) = false ∧ ∃ vs, KV kvs vs ∧ h.DictOf (mixKind P w) a vs :=
  show ObjOk P w H h a (.dK kvs) from rd_of ok e
theorem dk_of {kvs : List (Key × V)} (ok : HOk P w H h) (e : H a = some (.dK kvs)) : kvs.length ≤ sizeLine ∧ (a == sysModules) = false ∧ ∃ vs, KV kvs vs ∧ h.DictOf (mixKind P w) a vs := dk_rd ok (.inl e)
theorem key_of {ks : List Key} (ok : HOk P w H h) (e : H a = some (.tup (ks.map kV))) : (tupleKind (mixKind P w)).is h ks a := by
  obtain ⟨_, its, r, o, h1, h2, n, h3⟩ := (show ObjOk P w H h a (.tup (ks.map kV)) from ok a _ e)
  exact ⟨o, its.toArray, n, h1, h2, h3, by simpa using items_are r⟩
theorem dt_rd {kvs : List (List Key × V)} (ok : HOk P w H h) (e : Rd H a (.dT kvs)) : kvs.length ≤ sizeLine ∧ (a == sysModules) = false ∧
    ∃ xs, KT H kvs xs ∧ h.DictOfH (tupleKind (mixKind P w)) a xs := by
  obtain ⟨z, y, xs, r, o, es, ep, h1, h2, h3, h4, h5⟩ := (show ObjOk P w H h a (.dT kvs) from rd_of ok e)
  refine ⟨z, y, xs, r, o, es, ep, h1, h2, h3, h4, fun x hx => ?_, h5⟩
  have all : ∀ {l : List (List Key × V)} {m : List (List Key × Addr × Value)}, KT H l m → ∀ x ∈ m, (tupleKind (mixKind P w)).is h x.1 x.2.1 := by
    intro l m q
    induction q with
    | nil => intro x hx; exact nomatch hx
    | @cons p q ps qs hq t ih =>
      intro x hx
      rcases List.mem_cons.mp hx with e | hx
      · subst e
        exact key_of ok (by rw [← hq.1]; exact hq.2.1)
      · exact ih x hx
  exact all r x hx
theorem dt_of {kvs : List (List Key × V)} (ok : HOk P w H h) (e : H a = some (.dT kvs)) : kvs.length ≤ sizeLine ∧ (a == sysModules) = false ∧
    ∃ xs, KT H kvs xs ∧ h.DictOfH (tupleKind (mixKind P w)) a xs := dt_rd ok (.inl e)
end
def DGet (H : Hp) (a : Addr) (y : V) (r : Option V) : Prop :=
  (∃ kvs k, Rd H a (.dK kvs) ∧ y = kV k ∧ r = valV kvs k) ∨ ∃ kvs k b, Rd H a (.dT kvs) ∧ y = .ref b ∧ H b = some (.tup (k.map kV)) ∧ r = valV kvs k
def DPut (H : Hp) (a : Addr) (y v : V) (H' : Hp) : Prop :=
  (∃ kvs k, H a = some (.dK kvs) ∧ y = kV k ∧ kvs.length < sizeLine ∧ H' = upd H a (.dK (putK kvs k v))) ∨
  ∃ kvs k b, H a = some (.dT kvs) ∧ y = .ref b ∧ H b = some (.tup (k.map kV)) ∧ kvs.length < sizeLine ∧ H' = upd H a (.dT (putK kvs k v))
theorem DPut.t {H : Hp} {a b : Addr} {kvs : List (List Key × V)} {k : List Key} {v : V} (e : H a = some (.dT kvs)) (eb : H b = some (.tup (k.map kV))) (hl : kvs.length < sizeLine) :
    DPut H a (.ref b) v (upd H a (.dT (putK kvs k v))) := .inr ⟨kvs, k, b, e, rfl, eb, hl, rfl⟩
section
variable {X : Cx} {pins : List (Addr × Obj)} {σ : St} {H : Hp} {s : Shared} {a : Addr} {y v : V} {u r : Value} {o : Option V} {A : Around} {E : Value → Shared → Prop}
theorem Inv.big (I : Inv X pins σ H s) : sysModules < s.heap.objs.size := by
  have h : mainGlobals < s.heap.objs.size := (I.mod.glob.keeps I.bk).lt
  exact Nat.lt_trans (by decide) h
theorem d_in {Q : Value → Shared → Prop} (hu : A.units + 1 < cLine) (I : Inv X pins σ H s) (g : DGet H a y o) (ry : RelV y u) (h : ∀ s', Inv X pins σ H s' → Q (.bool o.isSome) s') :
    wpAny (model X.prog X.w) A (compareOp .In u (.ref a)) Q E s := by
  rcases g with ⟨kvs, k, e, ey, l⟩ | ⟨kvs, k, b, e, ey, eb, l⟩
  · subst ey
    obtain ⟨z, hd, vs, rel, dd⟩ := dk_rd I.hok e
    refine wpAny_in_of (kV_is ry) hd dd.mapOf ?_
    rw [← (rel.val k).isSome_eq, ← l]
    exact h _ (I.tok _)
  · subst ey
    cases (show u = Value.ref b from ry)
    obtain ⟨z, hd, xs, rel, dd⟩ := dt_rd I.hok e
    refine wpAny_in_heap (tupleKind_room_in1 hu) (key_of I.hok eb) hd dd ?_
    have q := (rel.val k).isSome_eq
    rw [Option.isSome_map] at q
    rw [← q, ← l]
    exact h _ (I.tok _)
theorem d_notIn {Q : Value → Shared → Prop} (hu : A.units + 1 < cLine) (I : Inv X pins σ H s) (g : DGet H a y o) (ry : RelV y u) (h : ∀ s', Inv X pins σ H s' → Q (.bool (!o.isSome)) s') :
    wpAny (model X.prog X.w) A (compareOp .NotIn u (.ref a)) Q E s := by
  rcases g with ⟨kvs, k, e, ey, l⟩ | ⟨kvs, k, b, e, ey, eb, l⟩
  · subst ey
    obtain ⟨z, hd, vs, rel, dd⟩ := dk_rd I.hok e
    refine wpAny_notIn_of (kV_is ry) hd dd.mapOf ?_
    rw [← (rel.val k).isSome_eq, ← l]
    exact h _ (I.tok _)
  · subst ey
    cases (show u = Value.ref b from ry)
    obtain ⟨z, hd, xs, rel, dd⟩ := dt_rd I.hok e
    refine wpAny_notIn_heap (tupleKind_room_in1 hu) (key_of I.hok eb) hd dd ?_
    have q := (rel.val k).isSome_eq
    rw [Option.isSome_map] at q
    rw [← q, ← l]
    exact h _ (I.tok _)
theorem d_write {h' : Heap} {t' : Nat} {ob : HO} (I : Inv X pins σ H s) (mu : Mut (H a)) (hs : Heap.SameBut a s.heap h') (he : ∃ q, h'.get? a = some q) (new : ObjOk X.prog X.w (upd H a ob) h' a ob) :
    Inv X pins σ (upd H a ob) { s with heap := h', toks := t' } :=
  I.write (x := a) (e := a) mu (.inl rfl) (fun b q hb z => (hs.2 b hb).trans z) he new
theorem dk_new {P : Program} {w : World} {H' : Hp} {h' : Heap} {kvs : List (Key × V)} {vs : List (Key × Value)} (z : kvs.length ≤ sizeLine) (hd : (a == sysModules) = false) (rel : KV kvs vs) (dd : h'.DictOf (mixKind P w) a vs) :
    ObjOk P w H' h' a (.dK kvs) := ⟨z, hd, vs, rel, dd⟩
theorem d_setItem {H' : Hp} {Q : Unit → Shared → Prop} (hu : A.units + 1 < cLine) (I : Inv X pins σ H s) (g : DPut H a y v H') (ry : RelV y u) (rv : RelV v r) (h : ∀ s', Inv X pins σ H' s' → Q () s') :
    wpAny (model X.prog X.w) A (setItem (.ref a) u r) Q E s := by
  rcases g with ⟨kvs, k, e, ey, l, eH⟩ | ⟨kvs, k, b, e, ey, eb, l, eH⟩
  · subst ey eH
    obtain ⟨z, hd, vs, rel, dd⟩ := dk_of I.hok e
    have hz : vs.length ≤ sizeLine := by rw [← rel.length]; exact z
    have hl : (putK kvs k v).length ≤ sizeLine := by have := length_putK kvs k v; omega
    refine wpAny_setItem_pairs (hsz := hz) (kV_is ry) dd fun h' dd' hs => h _ ?_
    have he : ∃ q, h'.get? a = some q := let ⟨q, _, _, hq, _⟩ := dd'; ⟨q, hq⟩
    exact d_write I (by rw [e]; exact True.intro) hs he (dk_new hl hd (rel.put k rv) dd')
  · subst ey eH
    cases (show u = Value.ref b from ry)
    obtain ⟨z, hd, xs, rel, dd⟩ := dt_of I.hok e
    have hz : xs.length ≤ sizeLine := by rw [← Paired.length rel]; exact z
    have hl : (putK kvs k v).length ≤ sizeLine := by have := length_putK kvs k v; omega
    refine wpAny_setItem_heap (hsz := hz) (tupleKind_room_in1 hu) (key_of I.hok eb) dd fun h' dd' hs => h _ ?_
    obtain ⟨q, es, ep, hq, h2, h3, h4, _, h5⟩ := dd'
    refine d_write I (by rw [e]; exact True.intro) hs ⟨q, hq⟩ ⟨hl, hd, _, (rel.put k eb rv).keeps fun c ys ec => ?_, q, es, ep, hq, h2, h3, h4, h5⟩
    rw [upd_ne (ne_of ec e (fun z => nomatch z))]
    exact ec
end
section
variable {X : Cx} {pins : List (Addr × Obj)} {σ : St} {H : Hp} {s : Shared} {a : Addr} {kvs : List (Key × V)} {k : Key} {u : Value} {A : Around} {E : Value → Shared → Prop}
end
def tDIn (ty td : TE) : TE := fun σ H Q => ty σ H fun y H1 => td σ H1 fun x H2 => ∃ a o, x = .ref a ∧ DGet H2 a y o ∧ Q (.bl o.isSome) H2
def tDNotIn (ty td : TE) : TE := fun σ H Q => ty σ H fun y H1 => td σ H1 fun x H2 => ∃ a o, x = .ref a ∧ DGet H2 a y o ∧ Q (.bl (!o.isSome)) H2
def sDPut (td ty tv : TE) : TS := fun D σ H => tv σ H fun v H1 => td σ H1 fun x H2 => ty σ H2 fun y H3 => ∃ a H4, x = .ref a ∧ DPut H3 a y v H4 ∧ D.nx σ H4
section
variable {X : Cx} {o i e value : Expr} {pos pos' tpos : Pos} {td ty tv : TE}
theorem pc_din (hu : X.A.units + 1 < cLine) (hi : PE X i ty) (ho : PE X o td) : PC X .In i o (tDIn ty td) := by
  intro pins s σ H Q I h
  refine thn (hi pins s σ H _ I h) fun iv s1 ⟨y, H1, I1, ry, q1⟩ => thn (ho pins s1 σ H1 _ I1 q1) fun u s2 ⟨x, H2, I2, rx, a, ov, ex, g, q2⟩ => ?_
  subst ex
  obtain rfl : u = Value.ref a := rx
  exact d_in hu I2 g ry fun s3 I3 => ⟨.bl ov.isSome, H2, I3, rfl, q2⟩
theorem pc_dnotin (hu : X.A.units + 1 < cLine) (hi : PE X i ty) (ho : PE X o td) : PC X .NotIn i o (tDNotIn ty td) := by
  intro pins s σ H Q I h
  refine thn (hi pins s σ H _ I h) fun iv s1 ⟨y, H1, I1, ry, q1⟩ => thn (ho pins s1 σ H1 _ I1 q1) fun u s2 ⟨x, H2, I2, rx, a, ov, ex, g, q2⟩ => ?_
  subst ex
  obtain rfl : u = Value.ref a := rx
  exact d_notIn hu I2 g ry fun s3 I3 => ⟨.bl (!ov.isSome), H2, I3, rfl, q2⟩
theorem ps_dput (hu : X.A.units + 1 < cLine) (ho : PE X o td) (hi : PE X i ty) (hv : PE X value tv) (hs : swapsWith value (some (.Subscript o i pos')) pos.line X.env = pure false) :
    PS X (.Assign [.Subscript o i pos'] value pos) (sDPut td ty tv) := by
  intro pins s σ H D I h
  refine wpAny_Assign_Subscript (thn (hv pins s σ H _ I h) fun r s1 ⟨v, H1, I1, rv, q1⟩ => thn (ho pins s1 σ H1 _ I1 q1) fun u s2 ⟨x, H2, I2, rx, q2⟩ => thn (hi pins s2 σ H2 _ I2 q2) fun iv s3 ⟨y, H3, I3, ry, a, H4, ex, g, q3⟩ => ?_) hs
  subst ex
  obtain rfl : u = Value.ref a := rx
  exact d_setItem hu I3 g ry rv fun s4 I4 => ⟨σ, H4, I4, q3⟩
end
theorem dt_empty {P : Program} {w : World} {H : Hp} (h : Heap) (hb : sysModules < h.objs.size) : ObjOk P w H (h.push { cls := .type "dict", data := .dict #[] }) h.objs.size (.dT []) :=
  ⟨Nat.zero_le _, beq_eq_false_iff_ne.mpr (Ne.symm (Nat.ne_of_lt hb)), [], .nil, _, #[], 0, Heap.get?_push_size _ rfl, ⟨rfl, rfl, rfl⟩, rfl, rfl, List.nodup_nil⟩
def tDNewT : TE := fun _ H Q => ∀ p, H p = none → Q (.ref p) (upd H p (.dT []))
section
variable {X : Cx} {pos : Pos}
theorem pe_dnewT : PE X (.Dict [] [] pos) tDNewT := fun pins s σ H Q I h =>
  wpAny_Dict_empty ⟨.ref s.heap.objs.size, _, I.laid (a := s.heap.objs.size) (o := .dT []) (t' := s.toks) (fun _ _ q => Heap.get?_push_of_some _ q) (Nat.le_refl _) (dt_empty s.heap I.big), rfl, h _ (I.hok.fresh (Nat.le_refl _))⟩
end
section
variable {X : Cx} {pins : List (Addr × Obj)} {σ : St} {H : Hp} {s : Shared} {a : Addr} {y d : V} {u r : Value} {o : Option V} {A : Around} {E : Value → Shared → Prop}
theorem d_get2 {Q : Value → Shared → Prop} (hu : A.units + 1 < cLine) (I : Inv X pins σ H s) (g : DGet H a y o) (ry : RelV y u) (rd : RelV d r) (h : ∀ w' s', Inv X pins σ H s' → RelV (o.getD d) w' → Q w' s') :
    wpAny (model X.prog X.w) A (call (.builtin "dict.get") [.ref a, u, r]) Q E s := by
  rcases g with ⟨kvs, k, e, ey, l⟩ | ⟨kvs, k, b, e, ey, eb, l⟩
  · subst ey
    obtain ⟨z, hd, vs, rel, dd⟩ := dk_rd I.hok e
    refine call_meetsIn PySem.F.slot_dict_get dd.typeIs PySem.F.entry_dict_get (PySem.F.args_dict_get_3 _ _ _) (meets_dict_get_default (mixKind X.prog X.w) a (kV_is ry) hd r) ⟨_, dd.mapOf, h _ _ (I.tok _) ?_⟩
    rw [l]
    exact (rel.val k).getD rd
  · subst ey
    cases (show u = Value.ref b from ry)
    obtain ⟨z, hd, xs, rel, dd⟩ := dt_rd I.hok e
    refine call_meetsIn PySem.F.slot_dict_get dd.typeIs PySem.F.entry_dict_get (PySem.F.args_dict_get_3 _ _ _) (meetsH_dict_get_default (tupleKind (mixKind X.prog X.w)) a b hd r) ⟨tupleKind_room_in1 hu, k, xs, key_of I.hok eb, dd, h _ _ (I.tok _) ?_⟩
    rw [l]
    exact (rel.val k).getD rd
end
section
variable {X : Cx} {o e f : Expr} {apos cpos : Pos} {td ty tx : TE}
end
section
variable {X : Cx} {pins : List (Addr × Obj)} {σ : St} {H : Hp} {s : Shared} {a : Addr} {kvs : List (Key × V)} {A : Around} {E : Value → Shared → Prop}
theorem d_copyOf {Q : Value → Shared → Prop} (I : Inv X pins σ H s) (e : Rd H a (.dK kvs)) (h : ∀ p s', H p = none → Inv X pins σ (upd H p (.dK kvs)) s' → Q (.ref p) s') : wpAny (model X.prog X.w) A (call (.type "dict") [.ref a]) Q E s := by
  obtain ⟨z, hd, vs, rel, dd⟩ := dk_rd I.hok e
  refine kt_call_dict hd dd (by rw [← rel.length]; exact z) fun h' dd' hs => ?_
  refine h _ _ (I.hok.fresh (Nat.le_refl _)) (I.laid (a := s.heap.objs.size) (o := .dK kvs) (t' := s.toks) (fun b q hq => ?_) (Nat.le_refl _) (dk_new z (beq_eq_false_iff_ne.mpr (Ne.symm (Nat.ne_of_lt I.big))) rel dd'))
  exact (hs.2 b (Nat.ne_of_lt (Heap.lt_size hq))).trans (Heap.get?_push_of_some _ hq)
end
section
variable {X : Cx} {pins : List (Addr × Obj)} {σ : St} {H : Hp} {s : Shared} {a : Addr} {y : V} {u : Value} {A : Around} {E : Value → Shared → Prop}
end
end L2
namespace Att
open PySem PySem.W PySem.Calls PyProof.Rows
theorem ints_of_wellAll {P : Params} {h : Heap} : ∀ (ns : List Int) (vs : List Value), WellAll P h vs (ns.map WData.int) → IntsAre vs ns := by
  intro ns
  induction ns with
  | nil =>
    intro vs w
    rw [List.map_nil] at w
    cases w
    exact .nil
  | cons n ns ih =>
    intro vs w
    rw [List.map_cons] at w
    cases w with
    | cons a b =>
      cases a
      exact .cons _ _ (ih _ b)
theorem script_of {l : OpenLaw} {n : Nat} (hn : l.most = some n) {P : Params} {h : Heap} {args : List WData} {vals : List Value}
    (hpre : l.row.toRowW.claim.pre args = true) (hwl : WellAll P h vals args) :
    ∃ a vs ns, vals = [Value.ref a] ∧ args = [WData.list (ns.map WData.int)] ∧ h.get? a = some { cls := .type "list", data := .seq vs.toArray } ∧ IntsAre vs ns ∧ ns.length ≤ n := by
  have hsh : WShape.hasAll [] args [.list .int] = true := (pre_splitW hpre).1
  have hc : l.pre.holds [] { args := args } = true := (pre_splitW hpre).2
  obtain ⟨d, r, rfl, h1, h2⟩ := hasAllW_cons hsh
  obtain rfl := hasAllW_nil h2
  obtain ⟨xs, rfl, h3⟩ := hasW_list h1
  obtain ⟨ns, rfl⟩ := items_int h3
  have hlen : ns.length ≤ n := by
    unfold OpenLaw.pre at hc
    have h4 : (WTm.not (.lt (.lit (.int (n : Int))) (.len (.arg 0)))).holds [] { args := [.list (ns.map .int)] } = true := by
      have h4 := (holds_andW hc).1
      rw [hn] at h4
      exact h4
    have h5 := condW_of h4 (w_not (w_lt w_lit (w_len_list (w_arg rfl))))
    rw [List.length_map] at h5
    refine Nat.le_of_not_lt fun q => ?_
    have q' : (n : Int) < ((ns.length : Nat) : Int) := by omega
    first
      | (rw [decide_eq_true q'] at h5; exact absurd h5 (by decide))
      | (simp at h5; omega)
  cases hwl with
  | cons w1 w2 =>
    cases w2
    cases w1 with
    | list ho hall => exact ⟨_, _, ns, rfl, rfl, ho, ints_of_wellAll ns _ hall, hlen⟩
theorem post_true (l : OpenLaw) (args : List WData) : l.row.toRowW.claim.post args (.bool true) args = true :=
  postW_of (r := l.row.toRowW) (X := (true == true))
    (show WShape.has [] (.bool true) .bool = true by first | rfl | decide | simp [WShape.has, WShape.arms, WShape.armsAll])
    (show (WTm.eq .res (.lit (.bool true))).value [] { args := args, res := some (.bool true), after := args } = some (.bool (true == true)) from w_eq_bool (w_res rfl) w_lit) rfl
theorem attach_call {l : OpenLaw} {n : Nat} {q : Program} {loose : List Str} {XP : (Str → Option Value) → Heap → Prop} {YP : World → Heap → Prop} {d : DefRec}
    (hn : l.most = some n) (hdf : d.params.defaults = [])
    (call : ∀ (w : World) (s₀ s₁ : Shared) (mg mb : Str → Option Value) (fa : Addr) (o : Obj) (pm cd doc : Value) (a : Addr) (vs : List Value) (ns : List Int),
      Ground q loose [] XP w s₀ mg mb s₁.heap → YP w s₁.heap →
      s₁.heap.get? fa = some o → o.data = .func (docDef d.name d.params d.body d.scope pm cd doc) → s₁.heap.CodeRec cd d.name → mg d.name = some (.ref fa) →
      s₁.heap.get? a = some { cls := .type "list", data := .seq vs.toArray } → IntsAre vs ns → ns.length ≤ n → s₁.gens = #[] →
      codeAny (model l.prog w) callerA (.call (.ref fa) ⟨[.ref a], []⟩) (fun r s' => r = .ok (.ret (.bool true)) ∧ OldK s₁.heap s'.heap ∧ s'.os = s₁.os ∧ AllBare s'.gens) s₁) :
    WalkO q loose XP YP l.row.toRowW d [] (fun f vs => PySem.call f vs) := by
  intro w s₀ s₁ mg mb G Y fa o pm cd doc dV kV ho hd hcd hD hmg hg args vals as hpre hlay hrd hwl hlo
  obtain rfl : dV = .none := Dflts.none hD hdf
  obtain rfl : kV = .none := Dflts.noKw hD
  obtain ⟨a, vs, ns, rfl, rfl, hobj, hints, hlen⟩ := script_of hn hpre hwl
  refine enter_call (codeAny_mono (call w s₀ s₁ mg mb fa o pm cd doc a vs ns G Y ho (fd_plain hd) hcd hmg hobj hints hlen hg) fun r s' hq => ?_)
  obtain ⟨rfl, h2, h3, h4⟩ := hq
  exact ⟨.inl ⟨.bool true, .bool true, [], rfl, fun _ => rfl, .bool true, post_true l _, fun _ => ⟨List.Pairwise.nil, fun _ hm => (nomatch hm)⟩⟩, h2, h3, h4⟩
section
variable {prog : Program} {w : World} {A : Around} {E : Value → Shared → Prop} {s : Shared} {K : Frag}
def noObjs (h : Heap) : Heap := { h with objs := #[] }
theorem noObjs_get (h : Heap) (b : Addr) : (noObjs h).get? b = none := by
  cases e : (noObjs h).get? b with
  | none => rfl
  | some o => exact absurd (Heap.lt_size e) (Nat.not_lt_zero _)
theorem fr_all {h : Heap} {L : Addr} {m : Str → Option Value} (n : h.Ns L m) : Fr (noObjs h) L h m :=
  ⟨n, fun b o e => (by rw [noObjs_get] at e; cases e), Nat.zero_le _⟩
end
end Att
namespace L2
open PySem PySem.Spec PyProof.Rows
theorem vals_ints : ∀ {vs : List Value} {ns : List Int}, IntsAre vs ns → Vals (ns.map V.int) vs
  | _, _, .nil => .nil
  | _, _, .cons n t h => .cons ⟨t, rfl⟩ (vals_ints h)
def Only (H : Hp) : Prop := ∀ b, H b = none ∨ ∃ o xs, H b = some (.frz o (.lst xs))
theorem law_call {P : Program} {w : World} {K : PySem.W.Frag} {mg mb : Str → Option Value} {CX : CXT} {k : Nat} {fa a : Addr} {fd : FuncData} {x : Str} {sp : Sp} {s₁ : Shared} {vs : List Value} {ns : List Int}
    (KX : K.In s₁.heap) (hns : s₁.heap.Ns mainGlobals mg) (hb : s₁.heap.Ns builtinsNs mb) (hbb : ∀ x : Str, x ≠ "__name__" → mb x = bootBuiltins x) (hlim : s₁.heap.NoLimit) (hg : s₁.gens = #[])
    (ha : s₁.heap.get? a = some { cls := .type "list", data := .seq vs.toArray }) (hi : IntsAre vs ns) (hl : ns.length ≤ sizeLine) (hr : Room k callerA)
    (F : ∀ base : Heap, K.In base → base.Ns mainGlobals mg → FnOk P w K mg base CX k fa fd [x] sp) (hbind : ∀ (s : Shared) (u : Value), BindsTo s fd ⟨[u], []⟩ [(x, u)])
    (hsp : ∀ H : Hp, Only H → SqL K H a (ns.map V.int) → sp [.ref a] H (fun v _ => v = .bl true) fun _ _ _ => False)
    (hCX : ∀ H e s', CX [] H s₁ (fun _ _ _ => False) e s' → False) :
    codeAny (model P w) callerA (.call (.ref fa) ⟨[.ref a], []⟩) (fun r s' => r = .ok (.ret (.bool true)) ∧ OldK s₁.heap s'.heap ∧ s'.os = s₁.os ∧ AllBare s'.gens) s₁ := by
  have rv := vals_ints hi
  have lenV := hi.length
  have core : ∀ H : Hp, Only H → SqL K H a (ns.map V.int) → HOk P w H s₁.heap → (∀ b, H b ≠ none → b = a) → (H a ≠ none → K.lookup a = none) →
      codeAny (model P w) callerA (.call (.ref fa) ⟨[.ref a], []⟩) (fun r s' => r = .ok (.ret (.bool true)) ∧ OldK s₁.heap s'.heap ∧ s'.os = s₁.os ∧ AllBare s'.gens) s₁ := by
    intro H hO hS hok hA hK
    have base_of : ∀ {b : Addr} {o : Obj}, s₁.heap.get? b = some o → H b = none → (hidT s₁.heap H).get? b = some o := fun e n => hidT_get e n
    have noA : ∀ {b : Addr} {o : Obj} {es : Array DictEntry} {ep : Nat}, s₁.heap.get? b = some o → o.data = .dict es ep → H b = none := fun {b o es ep} e d => by
      cases q : H b with
      | none => rfl
      | some u =>
        have e' : b = a := hA b (by rw [q]; simp)
        subst e'
        rw [ha] at e; cases e
        have d' : Data.seq vs.toArray _ = Data.dict es ep := d
        cases d'
    have nsK : ∀ {b : Addr} {m : Str → Option Value}, s₁.heap.Ns b m → (hidT s₁.heap H).Ns b m := fun {b m} ⟨o, es, ep, e, d, r⟩ => ⟨o, es, ep, base_of e (noA e d), d, r⟩
    have hKb : K.In (hidT s₁.heap H) := fun b o e => base_of (KX b o e) (by
      cases q : H b with
      | none => rfl
      | some u =>
        have e' : b = a := hA b (by rw [q]; simp)
        subst e'
        rw [hK (by rw [q]; simp)] at e; cases e)
    have hM : Mod K mg (hidT s₁.heap H) := ⟨hKb, nsK hns, ⟨mb, nsK hb, hbb⟩, let ⟨mc, h1, h2⟩ := hlim; ⟨mc, nsK h1, h2⟩⟩
    have e0 : Env0 P w K mg (hidT s₁.heap H) callerA [] s₁ H := ⟨rfl, hM, fun b o e => of_hidT e, Nat.le_of_eq (hidT_size _ _), trivial, fun b hb => absurd (show b ∈ ([] : List Addr) from hb) (by simp), hok, .of_eq hg⟩
    refine codeAny_mono ((F _ hKb (nsK hns)).run callerA [] s₁ H ⟨[.ref a], []⟩ [.ref a] [.ref a] _ _ hr e0 (hbind s₁ (.ref a)) (.cons rfl .nil) (hsp H hO hS)) fun r s' h => ?_
    cases r with
    | error e => exact (hCX H e s' h).elim
    | ok fl =>
      cases fl with
      | next => exact False.elim h
      | brk => exact False.elim h
      | cont => exact False.elim h
      | ret u =>
        obtain ⟨v, H', os, bare, un, hok', r', q⟩ := h
        have q' : v = .bl true := q
        subst q'
        obtain rfl : u = Value.bool true := r'
        refine ⟨rfl, OldK.of_keep fun b o e => ?_, os, bare⟩
        cases q : H b with
        | none => exact un.keep b o e q (by intro z; exact absurd (show b ∈ ([] : List Addr) from z) (by simp)) (by simp)
        | some u =>
          rcases hO b with z | ⟨ob, xs, z⟩
          · rw [q] at z; cases z
          · have z2 := un.frzs b ob _ z
            obtain ⟨e1, _⟩ := hok b _ z
            obtain ⟨e2, _⟩ := hok' b _ z2
            rw [e] at e1; cases e1
            exact e2
  cases hk : K.lookup a with
  | some o =>
    have e := KX a o hk
    rw [ha] at e
    cases e
    refine core (fun _ => none) (fun _ => .inl rfl) (.inr ⟨_, vs.toArray, _, hk, rfl, rfl, rfl, by rw [List.size_toArray, lenV]; exact hl, by simpa using rv⟩) (fun b u z => by have z' : (none : Option HO) = some u := z; cases z') (fun b z => absurd rfl z) fun z => absurd rfl z
  | none =>
    refine core (fun b => if b = a then some (.frz { cls := .type "list", data := .seq vs.toArray } (.lst (ns.map V.int))) else none) (fun b => ?_) (.inl (.inr ⟨{ cls := .type "list", data := .seq vs.toArray }, if_pos rfl⟩)) (fun b u z => ?_) (fun b z => ?_) fun _ => hk
    · by_cases hb : b = a
      · exact .inr ⟨_, _, if_pos hb⟩
      · exact .inl (if_neg hb)
    · by_cases hb : b = a
      · have z' := (if_pos hb).symm.trans z
        cases z'
        subst hb
        exact ⟨ha, by rw [List.length_map]; exact hl, vs, _, rv, ha⟩
      · have z' := (if_neg hb).symm.trans z
        cases z'
    · by_cases hb : b = a
      · exact hb
      · exact absurd (if_neg hb) z
end L2
namespace L2
open PySem PySem.Spec PyProof.Rows
theorem walk_of {l : PySem.W.OpenLaw} {n k : Nat} {q : Program} {loose : List Str} {XP : (Str → Option Value) → Heap → Prop} {YP : World → Heap → Prop} {d : DefRec} {K : Params → PySem.W.Frag} {CX : World → CXT} {sp : World → Sp} {x : Str}
    (hn : l.most = some n) (hn2 : n ≤ sizeLine) (hdf : d.params.defaults = []) (hr : Room k callerA)
    (hY : ∀ (w : World) (h : Heap), YP w h → (K w.params).In h)
    (F : ∀ (w : World) (mg : Str → Option Value) (fa : Addr) (h : Heap), (K w.params).In h → h.Ns mainGlobals mg → mg d.name = some (.ref fa) →
      ∃ fd : FuncData, (∀ (s : Shared) (u : Value), BindsTo s fd ⟨[u], []⟩ [(x, u)]) ∧
        ∀ base : Heap, (K w.params).In base → base.Ns mainGlobals mg → FnOk l.prog w (K w.params) mg base (CX w) k fa fd [x] (sp w))
    (hsp : ∀ (w : World) (H : Hp) (a : Addr) (ns : List Int), ns.length ≤ n → Only H → SqL (K w.params) H a (ns.map V.int) → sp w [.ref a] H (fun v _ => v = .bl true) fun _ _ _ => False)
    (hCX : ∀ (w : World) (H : Hp) (s : Shared) (e : Value) (s' : Shared), CX w [] H s (fun _ _ _ => False) e s' → False) :
    PySem.W.WalkO q loose XP YP l.row.toRowW d [] (fun f vs => PySem.call f vs) := by
  refine Att.attach_call hn hdf fun w s₀ s₁ mg mb fa o pm cd doc a vs ns G Y ho hd hcd hmg hobj hints hlen hg => ?_
  have KX := hY w _ Y
  obtain ⟨fd, hb, hF⟩ := F w mg fa _ KX G.T.g hmg
  exact law_call KX G.T.g G.T.b G.T.builtins G.T.nolimit hg hobj hints (Nat.le_trans hlen hn2) hr hF hb (fun H hO hS => hsp w H a ns hlen hO hS) fun H e s' => hCX w H s₁ e s'
end L2
namespace L2
open PySem PySem.Spec PyProof.Rows
def inClass (s : Stmt) (j : Nat) : Stmt := match s with
  | .ClassDef _ _ _ body _ _ _ _ _ _ _ => body.getD j (.Pass ⟨0, 0, 0, 0⟩)
  | _ => .Pass ⟨0, 0, 0, 0⟩
def defArgs (s : Stmt) : Arguments := match s with
  | .FunctionDef _ a _ _ _ _ _ _ _ _ => a
  | _ => { posonlyargs := [], args := [], vararg := none, kwonlyargs := [], kw_defaults := [], kwarg := none, defaults := [] }
def defBody (s : Stmt) : List Stmt := match s with
  | .FunctionDef _ _ b _ _ _ _ _ _ _ => b
  | _ => []
def defScope (s : Stmt) : Scope := match s with
  | .FunctionDef _ _ _ _ _ _ sc _ _ _ => sc
  | _ => { kind := .function, names := [], isGenerator := false, isCoroutine := false }
abbrev CX0 : CXT := fun _ _ _ _ _ _ => False
abbrev E0 : XK := fun _ _ _ => False
theorem pass0 {X : Cx} : Passes CX0 X E0 := fun _ _ _ _ _ _ _ h => h.elim
structure Fun (K : PySem.W.Frag) (x qual : Str) (st : Stmt) (f : Addr) (fd : FuncData) : Prop where
  ex : ∃ (oc : Value) (od : Option Addr) (kV doc pm : Value) (an : Option Addr) (cdv ct : Value) (osl : Array (Option Value)),
    fd = PySem.W.fnOf x qual (defArgs st) (defBody st) (defScope st) .none kV doc pm an cdv ct ∧ K.lookup f = some ⟨oc, od, .func fd, osl⟩ ∧ PySem.W.codeIn K cdv qual = true
  kp : PySem.W.keepIn K (.ref f) = true
section
variable {P : Program} {w : World} {K : PySem.W.Frag} {mg : Str → Option Value} {base : Heap}
theorem Fun.ok {x qual : Str} {st : Stmt} {f : Addr} {fd : FuncData} {N ps : List Str} {k : Nat} {sp : Sp} (F : Fun K x qual st f fd) (S : FnScope N ps (defScope st)) (len : ∀ vs H Q E, sp vs H Q E → vs.length = ps.length)
    (hbody : ∀ (cdv : Value) (A : Around) (outer : List Env) (s : Shared) (H : Hp) (vs : List V) (Q : VK) (E : XK), Room k (A.deeper (envOfC qual (defScope st) s.heap.objs.size f cdv)) → sp vs H Q E →
      ∃ t, PSs (cxOf CX0 P w K mg base N qual (defScope st) f cdv A outer s H E).nox (defBody st) t ∧ t { nx := fun _ H' => Q .non H', rt := Q } (start N vs) H) : FnOk P w K mg base CX0 (k + 1) f fd ps sp := by
  obtain ⟨oc, od, kV, doc, pm, an, cdv, ct, osl, rfl, lk, hcd⟩ := F.ex
  refine fn_of lk hcd S len fun A outer s H vs Q E hr hsp => ?_
  obtain ⟨t, h, q⟩ := hbody cdv A outer s H vs Q E hr hsp
  exact ⟨t, h.nox, q⟩
theorem Fun.binds {x qual : Str} {st : Stmt} {f : Addr} {fd : FuncData} {ps : List Str} (F : Fun K x qual st f fd)
    (h : ∀ (kV doc pm : Value) (an : Option Addr) (cdv ct : Value) (us : List Value), us.length = ps.length → bindArgs (PySem.W.fnOf x qual (defArgs st) (defBody st) (defScope st) .none kV doc pm an cdv ct) ⟨us, []⟩ = pure (ps.zip us)) : Binds K fd ps [] := by
  obtain ⟨oc, od, kV, doc, pm, an, cdv, ct, osl, rfl, lk, hcd⟩ := F.ex
  exact .all (h kV doc pm an cdv ct)
theorem fun_mk {x qual : Str} {st : Stmt} {f : Addr} {oc : Value} {od an : Option Addr} {osl : Array (Option Value)} {kV doc pm cdv ct : Value} (l : K.lookup f = some ⟨oc, od, .func (PySem.W.fnOf x qual (defArgs st) (defBody st) (defScope st) .none kV doc pm an cdv ct), osl⟩)
    (c : PySem.W.codeIn K cdv qual = true) (k : PySem.W.keepIn K (.ref f) = true) : Fun K x qual st f (PySem.W.fnOf x qual (defArgs st) (defBody st) (defScope st) .none kV doc pm an cdv ct) := ⟨⟨oc, od, kV, doc, pm, an, cdv, ct, osl, rfl, l, c⟩, k⟩
end
section
variable {X : Cx}
theorem pv (i : Nat) {x : Str} {pos : Pos} (hN : X.N[i]? = some x := by rfl) (hv : Vis X.env.scope x := by first | exact Or.inl rfl | exact Or.inr (Or.inl rfl) | exact Or.inr (Or.inr rfl)) (hd : (x == ("__debug__" : Str)) = false := by decide)
    (hcd : (x == ("__classdict__" : Str)) = false := by decide) : PE X (.Name x pos) (tVar i) := pe_var hN hv hd hcd
end
theorem iteF {A B : Prop} (h : B) : if false = true then A else B := by
  rw [if_neg Bool.false_ne_true]
  exact h
theorem iteT {A B : Prop} (h : A) : if true = true then A else B := by
  rw [if_pos rfl]
  exact h
def Same (H H' : Hp) : Prop := ∀ b o, H b = some o → H' b = some o
theorem Same.refl (H : Hp) : Same H H := fun _ _ h => h
theorem Same.trans {H H1 H2 : Hp} (a : Same H H1) (b : Same H1 H2) : Same H H2 := fun c o h => b c o (a c o h)
theorem Same.seq {K : PySem.W.Frag} {H H' : Hp} {a : Addr} {xs : List V} (e : Same H H') (h : SqL K H a xs) : SqL K H' a xs := by
  rcases h with (h | ⟨o, h⟩) | h
  · exact .inl (.inl (e _ _ h))
  · exact .inl (.inr ⟨o, e _ _ h⟩)
  · exact .inr h
section
variable {κ : Type} [DecidableEq κ]
end
end L2
namespace L2
open PySem PySem.Spec PyProof.Rows
section
variable {X : Cx}
def CDivB (_ j : Int) : Prop := 0 < j ∧ j < 2 ^ 200
theorem noPy {i j : Int} (h : CDivB i j) : Builtin.divisionGoesByPylong i j = false := by
  refine PyProof.noPylong_of_log2 ?_
  obtain ⟨h1, h2⟩ := h
  have h0 : j.natAbs ≠ 0 := by omega
  have h3 : j.natAbs < 2 ^ 200 := by omega
  have := (Nat.log2_lt h0).mpr h3
  omega
theorem op_fdivB : OpR X (binaryOp .FloorDiv) (rI CDivB fun i j => .int (i / j)) := opI fun i j _ _ _ _ _ hc q => by
  have h1 : (0 : Int) < j := hc.1
  exact floordiv_int (by omega) (by rw [Int.fdiv_eq_ediv_of_nonneg i (by omega)]; exact q) (.inl (noPy hc))
inductive ClsV : V → Value → Prop where
  | ty (n : String) : ClsV (.ty n) (.type n)
  | ref (C : Addr) : ClsV (.ref C) (.ref C)
theorem call_isinst : CallR X (.builtin "isinstance") (fun xs H Q => ∃ x y c t b, xs = [x, y] ∧ ClsV y c ∧ TyOf X.K H x t ∧ PySem.W.kitOne X.K t c = some b ∧ Q (.bl b) H) := by
  intro pins s σ H xs us Q I r h
  obtain ⟨x, y, c, t, b, rfl, hy, ty, e, q⟩ := h
  obtain ⟨u, w', rfl, rx, ry⟩ := vals2 r
  cases hy with
  | ty n =>
    cases (show w' = Value.type n from ry)
    exact isinst_ok I rx ty e fun tk => ⟨.bl b, H, I.tok _, rfl, q⟩
  | ref C =>
    cases (show w' = Value.ref C from ry)
    exact isinst_ok I rx ty e fun tk => ⟨.bl b, H, I.tok _, rfl, q⟩
end
theorem compLoop_go {prog : Program} {w : World} {A : Around} {R : Result → Shared → Prop} {s : Shared} {elt target iter : Expr} {ifs : List Expr} {scope : Scope} {pos : Pos} {it acc : Value} {env : Env} (I : Nat → Shared → Prop) (E : Value → Shared → Prop)
    (hE : ∀ e s', E e s' → notedBy (model prog w) A env (fun e s' => R (.error e) s') e s')
    (turn : ∀ n s, I n s → wpAny (model prog w) A (pyNext it) (fun r s₁ => match r with
      | none => R (.ok .next) s₁
      | some v => wpAny (model prog w) A (letOwnedTupleGo target it v) (fun _ s₁' => wpAny (model prog w) A (assign target env v) (fun _ s₂ =>
          wpAny (model prog w) A (forIn ifs true fun c r => if r = true then do let ok ← isTrue c env (eval c env); pure (ForInStep.yield ok) else pure (ForInStep.yield r)) (fun ok s₃ =>
            if ok = true then wpAny (model prog w) A (eval elt env) (fun x s₄ =>
              wpAny (model prog w) A (call (.builtin "list.append") [acc, x]) (fun _ s₅ => ∃ m, m < n ∧ I m s₅) E s₄) E s₃
            else ∃ m, m < n ∧ I m s₃) E s₂) E s₁') E s₁) E s)
    (n : Nat) (h : I n s) : codeAny (model prog w) A (.compLoop (.ListComp elt [⟨target, iter, ifs, 0⟩] scope pos) 0 it acc env) R s := by
  refine codeAny_loop rfl I (fun n s hI => ?_) n h
  show wpAny _ A ((compTurn (.ListComp elt [⟨target, iter, ifs, 0⟩] scope pos) 0 it acc env).onRaise (fun x => do noteFrame x env; theTreesLotGoes x)) _ _ s
  refine wpAny_noted ?_
  rw [compTurn_list]
  refine wpAny_bind (wpAny_standAt (wpAny_bind (wpAny_mono (turn n s hI) (fun r s₁ h₁ => ?_) hE)))
  cases r with
  | none => exact wpAny_pure h₁
  | some v =>
    refine wpAny_bind (wpAny_mono h₁ (fun _ s₁' h₁' => ?_) hE)
    refine wpAny_bind (wpAny_mono h₁' (fun _ s₂ h₂ => wpAny_bind (wpAny_mono h₂ (fun ok s₃ h₃ => ?_) hE)) hE)
    cases ok with
    | false => exact wpAny_pure ⟨rfl, h₃⟩
    | true =>
      exact wpAny_bind (wpAny_bind (wpAny_mono h₃ (fun x s₄ h₄ => wpAny_bind (wpAny_mono h₄ (fun _ s₅ h₅ => wpAny_pure (wpAny_pure ⟨rfl, h₅⟩)) hE)) hE))
theorem closure_key {env : Env} : ∀ (names : List (Str × NameKind)) (acc : List (Str × Addr)), (∀ y ∈ names, y.2 = .free → ∃ c, env.cells.lookup y.1 = some c) → (∀ x c, acc.lookup x = some c → env.cells.lookup x = some c) →
    ∃ cl, (forIn names acc (fun (x : Str × NameKind) (r : List (Str × Addr)) => (if (x.2 == NameKind.free) = true then (do let a ← cellOf env x.1; pure (ForInStep.yield ((x.1, a) :: r))) else pure (ForInStep.yield r) : Sem (ForInStep (List (Str × Addr)))))) = (pure cl : Sem (List (Str × Addr))) ∧
      (∀ x c, cl.lookup x = some c → env.cells.lookup x = some c) ∧ (∀ x c, acc.lookup x = some c → ∃ c', cl.lookup x = some c') ∧ ∀ y ∈ names, y.2 = .free → ∃ c, cl.lookup y.1 = some c
  | [], acc, _, ha => ⟨acc, rfl, ha, fun x c e => ⟨c, e⟩, fun _ h => nomatch h⟩
  | (n, k) :: r, acc, hf, ha => by
    have hf' : ∀ y ∈ r, y.2 = .free → ∃ c, env.cells.lookup y.1 = some c := fun y hy => hf y (List.mem_cons_of_mem _ hy)
    by_cases hk : k = .free
    · subst hk
      obtain ⟨c, hc⟩ := hf (n, .free) List.mem_cons_self rfl
      have hc' : env.cells.lookup n = some c := hc
      have ha' : ∀ x d, ((n, c) :: acc).lookup x = some d → env.cells.lookup x = some d := fun x d e => by
        rw [List.lookup_cons] at e
        cases hx : x == n with
        | true => rw [hx] at e; cases e; rw [beq_iff_eq.mp hx]; exact hc'
        | false => rw [hx] at e; exact ha x d e
      obtain ⟨cl, e, h1, h2, h3⟩ := closure_key r ((n, c) :: acc) hf' ha'
      have hself : ((n, c) :: acc).lookup n = some c := by rw [List.lookup_cons, beq_self_eq_true]
      refine ⟨cl, ?_, h1, fun x d ex => ?_, fun y hy hyf => ?_⟩
      · rw [List.forIn_cons]
        have ec : cellOf env n = pure c := by unfold cellOf; rw [hc']
        show ((if (NameKind.free == NameKind.free) = true then (do let a ← cellOf env n; pure (ForInStep.yield ((n, a) :: acc))) else pure (ForInStep.yield acc) : Sem _) >>= _) = _
        rw [if_pos (by decide), ec]
        exact e
      · cases hx : x == n with
        | true => rw [beq_iff_eq.mp hx]; exact h2 n c hself
        | false => exact h2 x d (by rw [List.lookup_cons, hx]; exact ex)
      · rcases List.mem_cons.mp hy with rfl | hy
        · exact h2 n c hself
        · exact h3 y hy hyf
    · obtain ⟨cl, e, h1, h2, h3⟩ := closure_key r acc hf' ha
      refine ⟨cl, ?_, h1, h2, fun y hy hyf => ?_⟩
      · rw [List.forIn_cons]
        show ((if (k == NameKind.free) = true then (do let a ← cellOf env n; pure (ForInStep.yield ((n, a) :: acc))) else pure (ForInStep.yield acc) : Sem _) >>= _) = _
        rw [if_neg (by simpa using hk)]
        exact e
      · rcases List.mem_cons.mp hy with rfl | hy
        · exact absurd hyf hk
        · exact h3 y hy hyf
theorem closure_ok {scope : Scope} {env : Env} (h : ∀ y ∈ scope.names, y.2 = .free → ∃ c, env.cells.lookup y.1 = some c) :
    ∃ cl, closureFor scope env = pure cl ∧ (∀ x c, cl.lookup x = some c → env.cells.lookup x = some c) ∧ ∀ y ∈ scope.names, y.2 = .free → ∃ c, cl.lookup y.1 = some c := by
  obtain ⟨cl, e, h1, _, h3⟩ := closure_key (env := env) scope.names [] h (fun x c e => nomatch e)
  refine ⟨cl, ?_, h1, h3⟩
  have e0 : closureFor scope env = ((forIn scope.names [] (fun (x : Str × NameKind) (r : List (Str × Addr)) => (if (x.2 == NameKind.free) = true then (do let a ← cellOf env x.1; pure (ForInStep.yield ((x.1, a) :: r))) else pure (ForInStep.yield r) : Sem (ForInStep (List (Str × Addr)))))) >>= fun r => pure r) := rfl
  rw [e0, e]
  rfl
theorem relabel_free {env : Env} (hf : env.scope.kind = .function) : ∀ {names : List (Str × NameKind)} {x : Str}, names.lookup x = some .free → env.kindOf x = some .cell →
    (names.map fun (n, k) => if (k == NameKind.free && env.scope.kind == .function && env.kindOf n == some .cell) then (n, NameKind.cell) else (n, k)).lookup x = some .cell
  | [], _, h, _ => by simp at h
  | (n, k) :: r, x, h, hc => by
    have ih := @relabel_free env hf r x
    show List.lookup x ((if (k == NameKind.free && env.scope.kind == .function && env.kindOf n == some .cell) = true then (n, NameKind.cell) else (n, k)) :: _) = _
    cases hx : x == n with
    | true =>
      simp only [List.lookup_cons, hx] at h
      cases h
      have e : x = n := beq_iff_eq.mp hx
      subst e
      rw [if_pos (by rw [hf, hc]; decide)]
      simp only [List.lookup_cons, hx]
    | false =>
      simp only [List.lookup_cons, hx] at h
      by_cases hq : (k == NameKind.free && env.scope.kind == .function && env.kindOf n == some .cell) = true
      · rw [if_pos hq]; simp only [List.lookup_cons, hx]; exact ih h hc
      · rw [if_neg hq]; simp only [List.lookup_cons, hx]; exact ih h hc
theorem relabel_back {env : Env} : ∀ {names : List (Str × NameKind)} {x : Str} {k : NameKind},
    (names.map fun (n, k) => if (k == NameKind.free && env.scope.kind == .function && env.kindOf n == some .cell) then (n, NameKind.cell) else (n, k)).lookup x = some k → ∃ k0, names.lookup x = some k0 ∧ (k = k0 ∨ k0 = .free)
  | [], _, _, h => by simp at h
  | (n, k1) :: r, x, k, h => by
    have h : List.lookup x ((if (k1 == NameKind.free && env.scope.kind == .function && env.kindOf n == some .cell) = true then (n, NameKind.cell) else (n, k1)) :: (r.map fun (n, k) => if (k == NameKind.free && env.scope.kind == .function && env.kindOf n == some .cell) then (n, NameKind.cell) else (n, k))) = some k := h
    cases hx : x == n with
    | true =>
      by_cases hq : (k1 == NameKind.free && env.scope.kind == .function && env.kindOf n == some .cell) = true
      · have : k1 = .free := by
          rw [Bool.and_eq_true, Bool.and_eq_true] at hq
          simpa using hq.1.1
        exact ⟨k1, by simp only [List.lookup_cons, hx], .inr this⟩
      · rw [if_neg hq] at h
        simp only [List.lookup_cons, hx] at h
        exact ⟨k1, by simp only [List.lookup_cons, hx], .inl (Option.some.inj h).symm⟩
    | false =>
      have h' : (r.map fun (n, k) => if (k == NameKind.free && env.scope.kind == .function && env.kindOf n == some .cell) then (n, NameKind.cell) else (n, k)).lookup x = some k := by
        by_cases hq : (k1 == NameKind.free && env.scope.kind == .function && env.kindOf n == some .cell) = true
        · rw [if_pos hq] at h; simp only [List.lookup_cons, hx] at h; exact h
        · rw [if_neg hq] at h; simp only [List.lookup_cons, hx] at h; exact h
      obtain ⟨k0, e, z⟩ := relabel_back h'
      exact ⟨k0, by simp only [List.lookup_cons, hx]; exact e, z⟩
def cxComp (X : Cx) (N : List Str) (scope : Scope) (cl : List (Str × Addr)) (C : Addr) (s : Shared) (H : Hp) (fp : List Addr) : Cx :=
  { X with N := N, s₀ := s, H₀ := H, env := compEnvC scope cl C X.env, outer := X.stack, ex := fp, fn := fun _ => false, pn := [], xe := fun _ _ => False }
structure CompOk (X : Cx) (scope : Scope) (ls ys : List Str) (ix : List Nat) : Prop where
  kind : scope.kind = .function
  nocellB : (scope.names.all fun y => y.2 != .cell) = true
  locB : (scope.names.all fun y => y.2 != .local || scope.names.lookup y.1 == some .local) = true
  freeB : (scope.names.all fun y => y.2 != .free || X.env.kindOf y.1 == some .cell) = true
  ylkB : (ys.all fun y => scope.names.lookup y == some .free) = true
  yix : ix.map (fun j => X.N[j]?) = ys.map some
section
variable {X : Cx} {scope : Scope} {ls ys : List Str} {ix : List Nat}
theorem CompOk.nocell (ok : CompOk X scope ls ys ix) : ∀ y ∈ scope.names, y.2 ≠ .cell := fun y hy => by
  simpa using List.all_eq_true.mp ok.nocellB y hy
theorem CompOk.loc (ok : CompOk X scope ls ys ix) : ∀ y ∈ scope.names, y.2 = .local → scope.names.lookup y.1 = some .local := fun y hy e => by
  have h := List.all_eq_true.mp ok.locB y hy
  rw [e] at h
  simpa using h
theorem CompOk.free (ok : CompOk X scope ls ys ix) : ∀ y ∈ scope.names, y.2 = .free → X.env.kindOf y.1 = some .cell := fun y hy e => by
  have h := List.all_eq_true.mp ok.freeB y hy
  rw [e] at h
  simpa using h
theorem CompOk.ylk (ok : CompOk X scope ls ys ix) : ∀ y ∈ ys, scope.names.lookup y = some .free := fun y hy => by
  simpa using List.all_eq_true.mp ok.ylkB y hy
end
def inSt (n : Nat) (ix : List Nat) (σ : St) : St := List.replicate n none ++ ix.map fun j => (σ[j]?).join
section
variable {X : Cx} {pins : List (Addr × Obj)} {σ : St} {H : Hp} {s : Shared} {scope : Scope} {ls ys : List Str} {ix : List Nat} {cl : List (Str × Addr)} {fp : List Addr}
theorem comp_in {h₁ : Heap} {tk : Nat} {m : Str → Option Value} (I : Inv X pins σ H s) (ok : CompOk X scope ls ys ix) (hcl1 : ∀ x c, cl.lookup x = some c → X.env.cells.lookup x = some c)
    (hcl2 : ∀ y ∈ scope.names, y.2 = .free → ∃ c, cl.lookup y.1 = some c) (f3 : ∀ b ∈ fp, FpOk X pins H b) (hob : ∀ b ∈ fp, b < s.heap.objs.size)
    (hns : h₁.Ns s.heap.objs.size m) (hk : ∀ b o, s.heap.get? b = some o → h₁.get? b = some o) :
    Inv (cxComp X (ls ++ ys) scope cl s.heap.objs.size s H fp) [] (inSt ls.length ix σ) H { s with heap := h₁, toks := tk } := by
  have hfree : ∀ x, scope.names.lookup x = some .free → X.env.kindOf x = some .cell := fun x e => ok.free (x, .free) (PySem.mem_of_lookup e) rfl
  refine ⟨⟨I.ok.mod, ok.kind, I.ok.glob, I.ok.blt, Nat.le_refl _, fun x y c h1 h2 => I.ok.inj x y c (hcl1 x c h1) (hcl1 y c h2), fun x hx => ?_, fun x c hx _ => absurd hx Bool.false_ne_true, I.ok.hd, I.ok.frames, .inl rfl,
    fun b hb => ⟨Nat.ne_of_lt (hob b hb), fun x c e => (f3 b hb).2.2.2.2.1 x c (hcl1 x c e)⟩, I.bs, Nat.le_trans I.ok.bsz I.sz, fun b o e hb => ?_, fun b hb z => ?_, I.stack, I.stkFree⟩,
    rfl, I.bare, Un.kept hk, ⟨m, hns, fun i x v h1 h2 h3 => ?_⟩, fun x c e => ?_, I.fresh, fun x c e => I.freeC x c (hcl1 x c e), fun p hp => absurd (show p ∈ ([] : List (Addr × Obj)) from hp) (by simp), I.hok.kept hk, ?_⟩
  · have e : ∃ k, (relabel scope X.env).names.lookup x = some k ∧ (k = .cell ∨ k = .free) := by
      rcases hx with hx | hx
      · exact ⟨_, hx, .inl rfl⟩
      · exact ⟨_, hx, .inr rfl⟩
    obtain ⟨k, e, hkk⟩ := e
    obtain ⟨k0, e0, z⟩ := relabel_back e
    have hm := PySem.mem_of_lookup e0
    have hk0 : k0 = .free := by
      rcases z with z | z
      · rcases hkk with q | q
        · exact absurd (z.symm.trans q) (ok.nocell _ hm)
        · exact z.symm.trans q
      · exact z
    exact hcl2 _ hm hk0
  · obtain ⟨q1, q2, q3, q4, _⟩ := f3 b hb
    rcases q4 with q4 | q4
    · exact I.ok.noex b o e q4
    · exact absurd (Nat.lt_of_lt_of_le (Heap.lt_size e) (Nat.le_trans I.ok.bsz q4)) (Nat.lt_irrefl _)
  · rcases List.mem_cons.mp (I.stkSub b z) with q | q
    · exact (f3 b hb).2.1 q
    · exact (f3 b hb).2.2.1 q
  · have h1 : (ls ++ ys)[i]? = some x := h1
    have h2 : (List.replicate ls.length none ++ ix.map fun j => (σ[j]?).join)[i]? = some (some v) := h2
    by_cases hi : i < ls.length
    · rw [List.getElem?_append_left (by rw [List.length_replicate]; exact hi), List.getElem?_replicate, if_pos hi] at h2
      cases h2
    · rw [List.getElem?_append_right (by rw [List.length_replicate]; omega), List.length_replicate, List.getElem?_map] at h2
      rw [List.getElem?_append_right (by omega)] at h1
      cases e : ix[i - ls.length]? with
      | none => rw [e] at h2; cases h2
      | some j =>
        rw [e] at h2
        have h2 : (σ[j]?).join = some v := Option.some.inj h2
        have hσ : σ[j]? = some (some v) := by
          cases q : σ[j]? with
          | none => rw [q] at h2; cases h2
          | some z => rw [q] at h2; exact congrArg some h2
        have hN : X.N[j]? = some x := by
          have q := congrArg (fun l => l[i - ls.length]?) ok.yix
          simp only [List.getElem?_map, e, h1, Option.map_some] at q
          exact Option.some.inj q
        have hl := ok.ylk x (List.mem_of_getElem? h1)
        have hc := hfree x hl
        obtain ⟨m', hn', hl'⟩ := I.loc
        obtain ⟨u, r, lk⟩ := hl' j x v hN hσ (.inr (.inl hc))
        refine ⟨u, r, ?_⟩
        rcases lk with ⟨lk, _⟩ | ⟨_, c, ec, z⟩
        · rw [hc] at lk; cases lk
        · obtain ⟨c', ec'⟩ := hcl2 _ (PySem.mem_of_lookup hl) rfl
          have ec2 : X.env.cells.lookup x = some c' := hcl1 x c' ec'
          rw [ec] at ec2
          cases ec2
          exact .inr ⟨.inl (relabel_free I.ok.kind hl hc), c, ec', z.keeps hk⟩
  · obtain ⟨v, z⟩ := I.cell x c (hcl1 x c e)
    exact ⟨v, z.keeps hk⟩
  · show (List.replicate ls.length none ++ ix.map fun j => (σ[j]?).join).length = (ls ++ ys).length
    have q := congrArg List.length ok.yix
    rw [List.length_map, List.length_map] at q
    rw [List.length_append, List.length_append, List.length_replicate, List.length_map, q]
end
def PF (X : Cx) (ifs : List Expr) (t : TT) : Prop :=
  ∀ (pins : List (Addr × Obj)) (s : Shared) (σ : St) (H : Hp) (Q : Bool → Hp → Prop), Inv X pins σ H s → t σ H Q →
    wpAny (model X.prog X.w) X.A (forIn ifs true fun c r => if r = true then do let ok ← isTrue c X.env (eval c X.env); pure (ForInStep.yield ok) else pure (ForInStep.yield r)) (TP X pins σ Q) X.xe s
def tYes : TT := fun _ H Q => Q true H
theorem pf_nil {X : Cx} : PF X [] tYes := fun _ _ _ H _ I h => wpAny_tests_nil ⟨H, I, h⟩
theorem pf_one {X : Cx} {c : Expr} {t : TT} (h : PT X c t) : PF X [c] t := fun pins s σ H Q I hw => wpAny_tests_one (h pins s σ H Q I hw)
def lcW (σ0 : St) (g : TG) (tt : TT) (te : TE) (J : It) (H1 : Hp) (D : Addr) (Q : Hp → Prop) : Prop :=
  ∃ W : Nat → Nat → St → Hp → Prop, (∃ m, W 0 m σ0 (upd H1 D (.lst []))) ∧ ∀ i m τ H, W i m τ H →
    (J.stop i H ∧ Q H) ∨ (J.go i H ∧ ∃ N : St → Hp → Prop, (∀ τ' H', N τ' H' → ∃ m', m' < m ∧ W (i + 1) m' τ' H') ∧ ∀ x H', J.yld i H x H' → g x τ H' fun τ2 H2 => tt τ2 H2 fun b H3 =>
      if b = true then te τ2 H3 fun v H4 => ∃ acc, H4 D = some (.lst acc) ∧ acc.length < sizeLine ∧ N τ2 (upd H4 D (.lst (acc ++ [v]))) else N τ2 H3)
def tLc (wi : TI) (n : Nat) (ix : List Nat) (g : TG) (tt : TT) (te : TE) : TE := fun σ H Q => wi σ H fun J H1 => ∀ D, H1 D = none → lcW (inSt n ix σ) g tt te J H1 D fun H' => Q (.ref D) H'
def tLcSet (wi : TI) (n : Nat) (ix : List Nat) (g : TG) (tt : TT) (te : TE) (i : Nat) : TS := fun D σ H => tLc wi n ix g tt te σ H fun x H1 => D.nx (σ.set i (some x)) H1
section
variable {X : Cx} {scope : Scope} {ls ys : List Str} {ix : List Nat} {tg iter elt : Expr} {ifs : List Expr} {pos : Pos} {wi : TI} {g : TG} {tt : TT} {te : TE}
theorem comp_run {pins : List (Addr × Obj)} {σ : St} {H1 : Hp} {s : Shared} {J : It} {it : Addr} {fp : List Addr} {tn : Nat → Heap → Prop} {cl : List (Str × Addr)} {Q : Addr → Hp → Prop} {R : Value → Addr → Result → Shared → Prop} {E : Value → Shared → Prop} (hc : X.calm = true)
    (ok : CompOk X scope ls ys ix) (I : Inv X pins σ H1 s) (T : Turn X.prog X.w X.K tg J fp it tn) (st : tn 0 s.heap) (f2 : ∀ b ∈ fp, FpOk X pins H1 b)
    (hcl1 : ∀ x c, cl.lookup x = some c → X.env.cells.lookup x = some c) (hcl2 : ∀ y ∈ scope.names, y.2 = .free → ∃ c, cl.lookup y.1 = some c)
    (hg : ∀ cl C s H fp, PG (cxComp X (ls ++ ys) scope cl C s H fp) tg g) (ht : ∀ cl C s H fp, PF (cxComp X (ls ++ ys) scope cl C s H fp) ifs tt) (he : ∀ cl C s H fp, PE (cxComp X (ls ++ ys) scope cl C s H fp) elt te)
    (hJ : ∀ D, H1 D = none → lcW (inSt ls.length ix σ) g tt te J H1 D (Q D))
    (hR : ∀ D C H' s', Q D H' → Inv X pins σ H' s' → H' C = none → FpOk X pins H' C → (∃ m, s'.heap.Ns C m) → R (.ref D) C (.ok .next) s') :
    wpAny (model X.prog X.w) X.A (newList []) (fun acc s₃ => wpAny (model X.prog X.w) X.A (newFunctionEnv scope X.env.globals cl [] X.env.qual none .none (some X.env)) (fun cenv s₄ =>
      codeAny (model X.prog X.w) X.A (.compStart (.ListComp elt [⟨tg, iter, ifs, 0⟩] scope pos) 0 (.ref it) acc { cenv with scope := relabel scope X.env }) (R acc cenv.locals) s₄) E s₃) E s := by
  have hfp : ∀ b ∈ fp, b < s.heap.objs.size := fun b hb => by
    obtain ⟨o, e, _⟩ := T.obj _ _ st b hb
    exact Heap.lt_size e
  have I3 := I.lnew (ys := []) (its := []) (t' := s.toks) .nil (Nat.zero_le _)
  have hD : H1 s.heap.objs.size = none := I.fresh
  obtain ⟨W, ⟨m0, w0⟩, turn⟩ := hJ s.heap.objs.size hD
  refine wpAny_newObj_type (wpAny_newFunctionEnv ok.nocell (by intro y hy; simp at hy) (fun h₁ hns hsb => ?_) ok.kind)
  generalize hs3 : ({ s with heap := s.heap.push { cls := .type "list", data := .seq ([] : List Value).toArray }, toks := s.toks } : Shared) = s3 at I3
  have e3 : s.heap.push { cls := .type "list", dict := none, data := .seq ([] : List Value).toArray } = s3.heap := by rw [← hs3]
  have e3' : ({ s with heap := s.heap.push { cls := .type "list", dict := none, data := .seq ([] : List Value).toArray } } : Shared) = s3 := by rw [← hs3]
  generalize hH3 : upd H1 s.heap.objs.size (.lst []) = H3 at I3 w0
  have hsz : s3.heap.objs.size = s.heap.objs.size + 1 := by rw [← e3, Heap.size_push]
  have up3 : ∀ b o, s.heap.get? b = some o → s3.heap.get? b = some o := fun b o e => by rw [← e3]; exact Heap.get?_push_of_some _ e
  have f3 : ∀ b ∈ fp, FpOk X pins H3 b := fun b hb => by
    refine ⟨?_, (f2 b hb).2⟩
    rw [← hH3, upd_ne (Nat.ne_of_lt (hfp b hb))]
    exact (f2 b hb).1
  have hns : h₁.Ns s3.heap.objs.size (fun x => ([] : List (Str × Value)).reverse.lookup x) := by rw [← e3]; exact hns
  have hsb : Heap.SameBut s3.heap.objs.size (s3.heap.push { cls := .type (if (some X.env).isSome then "dict" else "frame"), data := .dict #[] }) h₁ := by rw [← e3]; exact hsb
  have up4 : ∀ b o, s3.heap.get? b = some o → h₁.get? b = some o := fun b o e => hsb.extBut b o (Nat.ne_of_lt (Heap.lt_size e)) (Heap.get?_push_of_some _ e)
  have Ic := comp_in (tk := s3.toks) I3 ok hcl1 hcl2 f3 (fun b hb => by rw [hsz]; exact Nat.lt_succ_of_lt (hfp b hb)) hns up4
  have stat : ∀ {H' : Hp} {pl : List (Addr × Obj)}, (∀ b ∈ fp, H' b = none) → pl = [] → ∀ b ∈ fp, FpOk (cxComp X (ls ++ ys) scope cl s3.heap.objs.size s3 H3 fp) pl H' b := fun {H' pl} hn hpl b hb => by
    subst hpl
    refine ⟨hn b hb, Nat.ne_of_lt (by rw [show (cxComp X (ls ++ ys) scope cl s3.heap.objs.size s3 H3 fp).env.locals = s3.heap.objs.size from rfl, hsz]; exact Nat.lt_succ_of_lt (hfp b hb)), Ic.ok.exfs b hb, .inl hb, fun x c e => (f3 b hb).2.2.2.2.1 x c (hcl1 x c e), fun p hp => absurd (show p ∈ ([] : List (Addr × Obj)) from hp) (by simp)⟩
  have loop : codeAny (model X.prog X.w) X.A (.compLoop (.ListComp elt [⟨tg, iter, ifs, 0⟩] scope pos) 0 (.ref it) (.ref s.heap.objs.size) (compEnvC scope cl s3.heap.objs.size X.env)) (R (.ref s.heap.objs.size) s3.heap.objs.size) { s3 with heap := h₁, toks := s3.toks } := by
    refine compLoop_go (fun n s' => ∃ i τ H', Inv (cxComp X (ls ++ ys) scope cl s3.heap.objs.size s3 H3 fp) [] τ H' s' ∧ tn i s'.heap ∧ (∀ b ∈ fp, H' b = none) ∧ W i n τ H') (fun _ _ => False) (fun _ _ h => h.elim) ?_ m0
      ⟨0, inSt ls.length ix σ, H3, Ic, T.keep _ _ _ st (fun b _ o e => up4 b o (up3 b o e)), fun b hb => (f3 b hb).1, w0⟩
    rintro n s4 ⟨i, τ, H4, I4, st4, fr4, w4⟩
    rcases turn i n τ H4 w4 with ⟨stop, qn⟩ | ⟨go, N, hN, step⟩
    · refine thn (T.done (cxComp X (ls ++ ys) scope cl s3.heap.objs.size s3 H3 fp) rfl rfl rfl hc i [] s4 τ H4 (fun _ _ => False) I4 (stat fr4 rfl) st4 stop) fun r s5 ⟨hr, I5⟩ => ?_
      subst hr
      have Io : Inv X pins σ H4 s5 := I3.call' (ch := fp) I5.os I5.base I5.hok I5.bare fun b hb => ⟨(f3 b hb).2.2.2.1, (f3 b hb).2.1, (f3 b hb).2.2.2.2.1, (f3 b hb).2.2.2.2.2⟩
      obtain ⟨m5, n5, _⟩ := I5.loc
      have hC : H4 s3.heap.objs.size = none := I5.free
      exact hR _ _ H4 s5 qn Io hC (I3.fpOk (Nat.le_refl _) hC) ⟨m5, n5⟩
    · refine thn (T.item (cxComp X (ls ++ ys) scope cl s3.heap.objs.size s3 H3 fp) rfl rfl rfl hc i [] s4 τ H4 (fun _ _ => False) I4 (stat fr4 rfl) st4 go) fun r s5 ⟨u, hr, h5⟩ => ?_
      subst hr
      refine thn h5 fun _ s6 ⟨x, H6, I6, r6, y6, st6, fr6⟩ => ?_
      have I6' := I6.pinned (stat fr6 rfl) (T.obj _ _ st6)
      have fin : ∀ {τ7 : St} {H7 : Hp} {s7 : Shared}, Inv (cxComp X (ls ++ ys) scope cl s3.heap.objs.size s3 H3 fp) ([] ++ pinsAt fp s6.heap) τ7 H7 s7 → N τ7 H7 → ∃ m, m < n ∧ ∃ i τ H', Inv (cxComp X (ls ++ ys) scope cl s3.heap.objs.size s3 H3 fp) [] τ H' s7 ∧ tn i s7.heap ∧ (∀ b ∈ fp, H' b = none) ∧ W i m τ H' := fun {τ7 H7 s7} I7 n7 => by
        obtain ⟨m', hm, w7⟩ := hN τ7 H7 n7
        refine ⟨m', hm, i + 1, τ7, H7, I7.unpinned, T.keep _ _ _ st6 fun b hb o e => (I7.pin (b, o) (List.mem_append_right _ (List.mem_append_right _ (mem_pinsAt hb e)))).1, fun b hb => ?_, w7⟩
        obtain ⟨o, e, d⟩ := T.obj _ _ st6 b hb
        exact (I7.pin (b, o) (List.mem_append_right _ (List.mem_append_right _ (mem_pinsAt hb e)))).2.1
      refine thn (hg _ _ _ _ _ _ s6 τ H6 x u _ I6' r6 (step x H6 y6)) fun _ s7 ⟨τ7, H7, I7, q7⟩ => ?_
      refine thn (ht _ _ _ _ _ _ s7 τ7 H7 _ I7 q7) fun b s8 ⟨H8, I8, q8⟩ => ?_
      cases b with
      | false =>
        rw [if_neg Bool.false_ne_true] at q8 ⊢
        exact fin I8 q8
      | true =>
        rw [if_pos rfl] at q8 ⊢
        refine thn (he _ _ _ _ _ _ s8 τ7 H8 _ I8 q8) fun y s9 ⟨v, H9, I9, r9, acc, hacc, hlen, n9⟩ => ?_
        exact thn (mt_append _ s9 τ7 H9 (.ref s.heap.objs.size) [v] (.ref s.heap.objs.size) [y] (fun _ H' => N τ7 H') I9 rfl (.cons r9 .nil) ⟨_, acc, v, rfl, rfl, hacc, hlen, n9⟩) fun _ s10 ⟨_, H10, I10, _, n10⟩ => fin I10 n10
  exact codeAny_compStart_list loop (T.self _ 0 _ _ _ (T.keep _ _ _ st (fun b _ o e => up4 b o (up3 b o e))) loop)
theorem pe_lc (hc : X.calm = true) (ok : CompOk X scope ls ys ix) (hi : PI X tg iter wi)
    (hg : ∀ cl C s H fp, PG (cxComp X (ls ++ ys) scope cl C s H fp) tg g) (ht : ∀ cl C s H fp, PF (cxComp X (ls ++ ys) scope cl C s H fp) ifs tt) (he : ∀ cl C s H fp, PE (cxComp X (ls ++ ys) scope cl C s H fp) elt te)
    (hs : ∀ x, foldedSetIterable iter X.env x = pure x := by intro _; rfl) : PE X (.ListComp elt [⟨tg, iter, ifs, 0⟩] scope pos) (tLc wi ls.length ix g tt te) := by
  intro pins s σ H Q I h
  obtain ⟨cl, hclos, hcl1, hcl2⟩ := closure_ok (scope := scope) (env := X.env) fun y hy hf => I.ok.has y.1 (.inl (ok.free y hy hf))
  rw [eval_ListComp]
  refine wpAny_comprehension_free (use := none) rfl hs hclos ok.kind ok.loc (thn (hi pins s σ H _ I h) fun v s1 h1 => thn h1 fun itv s2 h2 => ?_)
  obtain ⟨it, fp, tn, J, H2, rfl, I2, T, st2, f2, hJ⟩ := h2
  refine comp_run (R := fun acc C => compPost (model X.prog X.w) X.A X.xe none (EP X pins σ Q) acc C) hc ok I2 T st2 f2 hcl1 hcl2 hg ht he hJ fun D C H' s' q I' hC fC hm => ?_
  obtain ⟨m, hn⟩ := hm
  refine ⟨m, hn, fun h' hsb => ⟨.ref D, H', ?_, rfl, q⟩⟩
  exact I'.turned (t' := s'.toks) (fun b o hb e => (hsb.2 b hb).trans e) hC fC.2.1 fC.2.2.2.1 fC.2.2.2.2.1 fC.2.2.2.2.2
theorem ps_lcset {i : Nat} {x : Str} {spos px : Pos} (hc : X.calm = true) (hN : X.N.Nodup) (hxi : X.N[i]? = some x) (hx : Loc X.env.scope x) (ok : CompOk X scope ls ys ix) (hi : PI X tg iter wi)
    (hg : ∀ cl C s H fp, PG (cxComp X (ls ++ ys) scope cl C s H fp) tg g) (ht : ∀ cl C s H fp, PF (cxComp X (ls ++ ys) scope cl C s H fp) ifs tt) (he : ∀ cl C s H fp, PE (cxComp X (ls ++ ys) scope cl C s H fp) elt te)
    (hs : ∀ x, foldedSetIterable iter X.env x = pure x := by intro _; rfl) (hsw : swapsWith (.ListComp elt [⟨tg, iter, ifs, 0⟩] scope pos) (some (.Name x px)) spos.line X.env = pure true := by rfl)
    (hf : X.fn x = true ∨ X.env.scope.names.lookup x = some .local := by first | exact .inl rfl | exact .inr rfl | assumption) :
    PS X (.Assign [.Name x px] (.ListComp elt [⟨tg, iter, ifs, 0⟩] scope pos) spos) (tLcSet wi ls.length ix g tt te i) := by
  intro pins s σ H D I h
  obtain ⟨cl, hclos, hcl1, hcl2⟩ := closure_ok (scope := scope) (env := X.env) fun y hy hf => I.ok.has y.1 (.inl (ok.free y hy hf))
  rw [exec_Assign_Name_used _ _ _ _ hsw]
  refine wpAny_bind (wpAny_standAt (wpAny_bind ?_))
  show wpAny _ X.A (do let _ ← comprehension (.ListComp elt [⟨tg, iter, ifs, 0⟩] scope pos) scope X.env _ (newList []) false (eval iter X.env) (some (assign (.Name x px) X.env))) _ _ s
  refine wpAny_bind (wpAny_mono (wpAny_comprehension_free (use := some (assign (.Name x px) X.env)) (Q := fun _ s' => ∃ σ' H', Inv X pins σ' H' s' ∧ D.nx σ' H') rfl hs hclos ok.kind ok.loc
    (thn (hi pins s σ H _ I h) fun v s1 h1 => thn h1 fun itv s2 h2 => ?_)) (fun _ s' hq => wpAny_pure (wpAny_pure hq)) fun _ _ e => e)
  obtain ⟨it, fp, tn, J, H2, rfl, I2, T, st2, f2, hJ⟩ := h2
  refine comp_run (R := fun acc C => compPost (model X.prog X.w) X.A X.xe (some (assign (.Name x px) X.env)) (fun _ s' => ∃ σ' H', Inv X pins σ' H' s' ∧ D.nx σ' H') acc C) hc ok I2 T st2 f2 hcl1 hcl2 hg ht he hJ fun Da C H' s' q I' hC fC hm => ?_
  obtain ⟨m, hn⟩ := hm
  show wpAny _ X.A (assign (.Name x px) X.env (.ref Da)) _ _ s'
  refine wpAny_assign_Name (store_ok2 (v := .ref Da) I' hN hxi hx rfl (fun s2 I3 hz => ?_) hf)
  obtain ⟨a, sb, ha⟩ := hz
  have hCa : C ≠ a := by
    rcases ha with ha | ha
    · rw [ha]; exact fC.2.1
    · exact Ne.symm (fC.2.2.2.2.1 x a ha)
  refine ⟨m, hn.sameBut sb hCa, fun h' hsb => ⟨_, H', ?_, q⟩⟩
  exact I3.turned (t' := s2.toks) (fun b o hb e => (hsb.2 b hb).trans e) hC fC.2.1 fC.2.2.2.1 fC.2.2.2.2.1 fC.2.2.2.2.2
end
end L2
namespace L2
open PySem PySem.Spec PyProof.Rows
def Ev (t : TE) (σ : St) (H : Hp) (v : V) : Prop := ∀ Q : VK, Q v H → t σ H Q
def EvT (t : TT) (σ : St) (H : Hp) (b : Bool) : Prop := ∀ Q : Bool → Hp → Prop, Q b H → t σ H Q
def EvA (t : TA) (σ : St) (H : Hp) (vs : List V) : Prop := ∀ Q : List V → Hp → Prop, Q vs H → t σ H Q
section
variable {σ : St} {H : Hp} {ta tb tc te : TE} {t u : TT} {i j k : Int} {a b c : Bool} {v x y : V} {K : PySem.W.Frag}
theorem ev_c : Ev (tC v) σ H v := fun _ q => q
theorem ev_var {n : Nat} (h : σ[n]? = some (some v)) : Ev (tVar n) σ H v := fun _ q => ⟨v, h, q⟩
theorem ev_I0 {g : Int → Int → V} (ha : Ev ta σ H (.int i)) (hb : Ev tb σ H (.int j)) : Ev (tOp (rI0 g) ta tb) σ H (g i j) := fun _ q => ha _ (hb _ ⟨i, j, rfl, rfl, q⟩)
theorem ev_I {C : Int → Int → Prop} {g : Int → Int → V} (ha : Ev ta σ H (.int i)) (hb : Ev tb σ H (.int j)) (hc : C i j) : Ev (tOp (rI C g) ta tb) σ H (g i j) := fun _ q => ha _ (hb _ ⟨i, j, rfl, rfl, hc, q⟩)
theorem ev_eqI (ha : Ev ta σ H (.int i)) (hb : Ev tb σ H (.int j)) : Ev (tOp rEq ta tb) σ H (.bl (decide (i = j))) := fun Q q => ha _ (hb _ ⟨rfl, by
  have e : decide (V.int i = V.int j) = decide (i = j) := by rw [dec_int]; rfl
  rw [e]; exact q⟩)
theorem ev_neI (ha : Ev ta σ H (.int i)) (hb : Ev tb σ H (.int j)) : Ev (tOp rNe ta tb) σ H (.bl (!decide (i = j))) := fun Q q => ha _ (hb _ ⟨rfl, by
  have e : decide (V.int i = V.int j) = decide (i = j) := by rw [dec_int]; rfl
  rw [e]; exact q⟩)
theorem ev_chain {p q : Int → Int → Bool} (ha : Ev ta σ H (.int i)) (hb : Ev tb σ H (.int j)) (hc : Ev tc σ H (.int k)) : Ev (tChain (rI0 fun i j => .bl (p i j)) (rI0 fun i j => .bl (q i j)) ta tb tc) σ H (.bl (p i j && q j k)) := fun Q z => by
  refine ha _ (hb _ ⟨i, j, rfl, rfl, p i j, rfl, ?_⟩)
  cases e : p i j with
  | true => rw [if_pos rfl]; rw [e, Bool.true_and] at z; exact hc _ ⟨j, k, rfl, rfl, z⟩
  | false => rw [if_neg Bool.false_ne_true]; rw [e, Bool.false_and] at z; exact z
theorem ev_and (ha : Ev ta σ H (.bl a)) (hb : a = true → Ev tb σ H (.bl b)) : Ev (tAndV ta tb) σ H (.bl (a && b)) := fun Q z => by
  refine ha _ ⟨a, rfl, ?_⟩
  cases a with
  | true => rw [if_pos rfl]; exact hb rfl _ z
  | false => rw [if_neg Bool.false_ne_true]; exact z
theorem ev_ixT {p : Addr} {xs : List V} (ha : Ev ta σ H (.ref p)) (hb : Ev tb σ H (.int i)) (hs : SqT K H p xs) (he : atI xs i = some v) : Ev (tOp (rIxT K) ta tb) σ H v := fun _ q => ha _ (hb _ ⟨p, xs, i, v, rfl, rfl, hs, he, q⟩)
theorem ev_ixL {p : Addr} {xs : List V} (ha : Ev ta σ H (.ref p)) (hb : Ev tb σ H (.int i)) (hs : SqL K H p xs) (he : atI xs i = some v) : Ev (tOp (rIxL K) ta tb) σ H v := fun _ q => ha _ (hb _ ⟨p, xs, i, v, rfl, rfl, hs, he, q⟩)
theorem ev_isN (ha : Ev ta σ H x) (hb : Ev tb σ H .non) : Ev (tOp (fun x y H Q => y = .non ∧ Q (.bl (decide (x = .non))) H) ta tb) σ H (.bl (decide (x = .non))) := fun _ z => ha _ (hb _ ⟨rfl, z⟩)
theorem ev_cb {r : List V → Hp → VK → Prop} {vs : List V} {t : TA} (ha : EvA t σ H vs) (hs : ∀ Q : VK, Q v H → r vs H Q) : Ev (tCB r t) σ H v := fun Q q => ha _ (hs Q q)
theorem ea_nil : EvA tNil σ H [] := fun _ q => q
theorem ea_cons {t : TA} {vs : List V} (ha : Ev ta σ H v) (hr : EvA t σ H vs) : EvA (tCons ta t) σ H (v :: vs) := fun _ q => ha _ (hr _ q)
theorem et_test (h : Ev te σ H (.bl b)) : EvT (tTest te) σ H b := fun _ q => h _ ⟨b, rfl, q⟩
theorem et_B (h : Ev te σ H (.bl b)) : EvT (tB te) σ H b := fun _ q => h _ ⟨b, rfl, q⟩
theorem et_not (h : EvT t σ H b) : EvT (tNot t) σ H (!b) := fun _ q => h _ q
theorem et_and (ha : EvT t σ H a) (hb : a = true → EvT u σ H b) : EvT (tAnd t u) σ H (a && b) := fun Q z => by
  refine ha _ ?_
  cases a with
  | true => rw [if_pos rfl]; exact hb rfl _ z
  | false => rw [if_neg Bool.false_ne_true]; exact z
theorem et_or (ha : EvT t σ H a) (hb : a = false → EvT u σ H b) : EvT (tOr t u) σ H (a || b) := fun Q z => by
  refine ha _ ?_
  cases a with
  | true => rw [if_pos rfl]; exact z
  | false => rw [if_neg Bool.false_ne_true]; exact hb rfl _ z
theorem rd_if {tc : TT} {t u : TS} {D : Ends} (h : EvT tc σ H b) (h1 : b = true → t D σ H) (h2 : b = false → u D σ H) : tIfS tc t u D σ H := by
  refine h _ ?_
  cases b with
  | true => rw [if_pos rfl]; exact h1 rfl
  | false => rw [if_neg Bool.false_ne_true]; exact h2 rfl
theorem rd_ifF {tc : TT} {t u : TS} {D : Ends} (h : EvT tc σ H b) (hb : b = false) (h2 : u D σ H) : tIfS tc t u D σ H := rd_if h (fun e => absurd (hb.symm.trans e) Bool.false_ne_true) fun _ => h2
theorem rd_set {n : Nat} {D : Ends} (h : Ev te σ H v) (q : D.nx (σ.set n (some v)) H) : tAsg te (gName n) D σ H := h _ q
theorem rd_ret {D : Ends} (h : Ev te σ H v) (q : D.rt v H) : tRet te D σ H := h _ q
end
theorem cmR {i j : Int} (h1 : -(2 ^ 64) < j) (h2 : j < 2 ^ 64) : CMul i j := .inr ⟨h1, h2⟩
theorem cmL {i j : Int} (h1 : -(2 ^ 64) < i) (h2 : i < 2 ^ 64) : CMul i j := .inl ⟨h1, h2⟩
theorem cdB {i j : Int} (h1 : 0 < j) (h2 : j < 2 ^ 200) : CDivB i j := ⟨h1, h2⟩
theorem cpw {i j : Int} (h1 : 0 ≤ j) (h2 : j ≤ 1000000) (h3 : i.natAbs < 2 ^ 64) : CPow i j := ⟨h1, h2, h3⟩
theorem bt_len : bootBuiltins "len" = some (.builtin "len") := by decide +kernel
theorem bt_isinstance : bootBuiltins "isinstance" = some (.builtin "isinstance") := by decide +kernel
theorem bt_int : bootBuiltins "int" = some (.type "int") := by decide +kernel
theorem bt_bool : bootBuiltins "bool" = some (.type "bool") := by decide +kernel
theorem bt_str : bootBuiltins "str" = some (.type "str") := by decide +kernel
theorem bt_tuple : bootBuiltins "tuple" = some (.type "tuple") := by decide +kernel
theorem bt_list : bootBuiltins "list" = some (.type "list") := by decide +kernel
theorem bt_dict : bootBuiltins "dict" = some (.type "dict") := by decide +kernel
theorem bt_min : bootBuiltins "min" = some (.builtin "min") := by decide +kernel
theorem bt_abs : bootBuiltins "abs" = some (.builtin "abs") := by decide +kernel
theorem bt_sum : bootBuiltins "sum" = some (.builtin "sum") := by decide +kernel
theorem bt_sorted : bootBuiltins "sorted" = some (.builtin "sorted") := by decide +kernel
theorem bt_zip : bootBuiltins "zip" = some (.type "zip") := by decide +kernel
theorem st {t : TS} {D : Ends} {σ : St} {H : Hp} {r : VK} {b c : St → Hp → Prop} (h : t D σ H) : ({ nx := t D, rt := r, bk := b, ct := c } : Ends).nx σ H := h
section
variable {σ : St} {H : Hp} {te : TE} {tc : TT} {t u : TS} {ta : TA} {D : Ends} {b : Bool} {v : V} {vs : List V} {n : Nat} {K : PySem.W.Frag}
theorem sq_set (h : Ev te σ H v) (q : u D (σ.set n (some v)) H) : tSeq (tAsg te (gName n)) u D σ H := h _ q
theorem sq_ifF (h : EvT tc σ H b) (hb : b = false) (q : u D σ H) : tSeq (tIfS tc t tNext) u D σ H := rd_ifF (D := { D with nx := u D }) h hb q
theorem sq_if (h : EvT tc σ H b) (h1 : b = true → t { D with nx := u D } σ H) (h2 : b = false → u D σ H) : tSeq (tIfS tc t tNext) u D σ H := rd_if (D := { D with nx := u D }) h h1 h2
theorem sq_un3 {p : Addr} {x y z : V} {i j k : Nat} (h : Ev te σ H (.ref p)) (hs : SqT K H p [x, y, z]) (q : u D (((σ.set i (some x)).set j (some y)).set k (some z)) H) :
    tSeq (tAsg te (gTup K 3 (gCons (gName i) (gCons (gName j) (gCons (gName k) gNil))))) u D σ H := h _ ⟨p, _, rfl, hs, rfl, _, _, rfl, _, _, rfl, _, _, rfl, rfl, q⟩
theorem if_of {tc : TT} {t u : TS} (q : tc σ H fun b H1 => if b = true then t D σ H1 else u D σ H1) : tIfS tc t u D σ H := q
theorem sq_ifof (q : tc σ H fun b H1 => if b = true then t { D with nx := u D } σ H1 else u D σ H1) : tSeq (tIfS tc t tNext) u D σ H := q
theorem gn {Q : St → Hp → Prop} (q : Q (σ.set n (some v)) H) : gName n v σ H Q := q
end
structure Callee (P : Program) (w : World) (K : PySem.W.Frag) (mg : Str → Option Value) (base : Heap) (x : Str) (k : Nat) (ps : List Str) (sp : Sp) : Prop where
  ex : ∃ f fd, FnOk P w K mg base CX0 k f fd ps sp ∧ mg x = some (.ref f) ∧ PySem.W.keepIn K (.ref f) = true ∧ Binds K fd ps []
theorem pe_cal {X : Cx} {x : Str} {k : Nat} {ps : List Str} {sp : Sp} {p pos : Pos} {e : Expr} {es : List Expr} {t : TA} (C : Callee X.prog X.w X.K X.mg X.base x k ps sp) (hr : Room k X.A) (hg : Gl X x) (ha : PA X (e :: es) t)
    (hdb : (x == ("__debug__" : Str)) = false := by decide) (he : starEach (e :: es) X.env = (false, eval e X.env) :: starEach es X.env := by rfl) (hpl : (backTo pos (starEach es X.env)).any (·.1) = false := by rfl) :
    PE X (.Call (.Name x p) (e :: es) [] pos) (tCall sp [] E0 t) := by
  obtain ⟨f, fd, G, hm, hk, hb⟩ := C.ex
  exact pe_call G hr hg hm hk hb .nil pass0 ha hdb he hpl
theorem SqT.same {K : PySem.W.Frag} {H H' : Hp} {a : Addr} {xs : List V} (e : Same H H') (h : SqT K H a xs) : SqT K H' a xs := by
  rcases h with (h | ⟨o, h⟩) | h
  · exact .inl (.inl (e _ _ h))
  · exact .inl (.inr ⟨o, e _ _ h⟩)
  · exact .inr h
theorem Same.upd {H H' : Hp} (e : Same H H') {p : Addr} {o : HO} (hp : H' p = none) : Same H (upd H' p o) := fun b u h => by
  rw [upd_ne (ne_of_none (e b u h) hp)]
  exact e b u h
end L2
namespace L2
open PySem PySem.Spec PyProof.Rows
section
variable {X : Cx} {tg : Expr}
end
theorem lc_range {lo : Int} {n : Nat} {σ0 : St} {g : TG} {tt : TT} {te : TE} {H1 : Hp} {D : Addr} {Q : Hp → Prop} (Pv : Nat → St → Hp → Prop) (h0 : Pv 0 σ0 (upd H1 D (.lst [])))
    (hs : ∀ i τ H, i < n → Pv i τ H → g (.int (lo + i)) τ H fun τ2 H2 => tt τ2 H2 fun b H3 =>
      if b = true then te τ2 H3 fun v H4 => ∃ acc, H4 D = some (.lst acc) ∧ acc.length < sizeLine ∧ Pv (i + 1) τ2 (upd H4 D (.lst (acc ++ [v]))) else Pv (i + 1) τ2 H3)
    (hd : ∀ τ H, Pv n τ H → Q H) : lcW σ0 g tt te (Itr lo n) H1 D Q := by
  refine ⟨fun i m τ H => m = n - i ∧ i ≤ n ∧ Pv i τ H, ⟨n, by simp, Nat.zero_le _, h0⟩, ?_⟩
  rintro i m τ H ⟨rfl, hi, p⟩
  by_cases hlt : i < n
  · refine .inr ⟨hlt, Pv (i + 1), fun τ' H' p' => ⟨n - (i + 1), by omega, rfl, hlt, p'⟩, fun x H' y => ?_⟩
    obtain ⟨e, y⟩ := y
    subst e y
    exact hs i τ _ hlt p
  · have e : i = n := by omega
    subst e
    exact .inl ⟨Nat.le_refl _, hd τ H p⟩
theorem lc_listG {K : PySem.W.Frag} {a : Addr} {xs : List V} {σ0 : St} {g : TG} {tt : TT} {te : TE} {H1 : Hp} {D : Addr} {Q : Hp → Prop} (Pv : Nat → St → Hp → Prop) (h0 : Pv 0 σ0 (upd H1 D (.lst [])))
    (hl : ∀ i τ H, i ≤ xs.length → Pv i τ H → SqL K H a xs)
    (hs : ∀ i x τ H, xs[i]? = some x → Pv i τ H → g x τ H fun τ2 H2 => tt τ2 H2 fun b H3 =>
      if b = true then te τ2 H3 fun v H4 => ∃ acc, H4 D = some (.lst acc) ∧ acc.length < sizeLine ∧ Pv (i + 1) τ2 (upd H4 D (.lst (acc ++ [v]))) else Pv (i + 1) τ2 H3)
    (hd : ∀ τ H, Pv xs.length τ H → Q H) : lcW σ0 g tt te (Itl K a) H1 D Q := by
  refine ⟨fun i m τ H => m = xs.length - i ∧ i ≤ xs.length ∧ Pv i τ H, ⟨xs.length, by simp, Nat.zero_le _, h0⟩, ?_⟩
  rintro i m τ H ⟨rfl, hi, p⟩
  have q := hl i τ H hi p
  by_cases hlt : i < xs.length
  · refine .inr ⟨⟨xs, xs[i], q, by simp [hlt]⟩, Pv (i + 1), fun τ' H' p' => ⟨xs.length - (i + 1), by omega, rfl, hlt, p'⟩, fun x H' y => ?_⟩
    obtain ⟨e, y⟩ := y
    subst e
    exact hs i x τ _ (y xs q) p
  · have e : i = xs.length := by omega
    subst e
    exact .inl ⟨⟨xs, q, Nat.le_refl _⟩, hd τ H p⟩
end L2
namespace L2
open PySem PySem.Spec PyProof.Rows
structure FlyT (h : Heap) (a T : Addr) (cls : Value) : Prop where
  ex : ∃ (oe : Obj) (vs : Array Value) (oT : Obj) (ts : Array Value) (a0 : Value), h.get? a = some oe ∧ oe.cls = cls ∧ vs[0]? = some a0 ∧ oe.data = .fields vs ∧ vs[1]? = some (.ref T) ∧ T ≠ a ∧ h.get? T = some oT ∧ oT.data = .fields ts ∧ ts[3]? = some .none
def CX1 (P : Program) (w : World) : CXT := fun outer H s E e s' => ∃ (a T : Addr) (C : Value) (H' : Hp), e = .ref a ∧ s'.os = s.os ∧ AllBare s'.gens ∧ Un (frs outer) [] H H' s.heap s'.heap ∧ HOk P w H' s'.heap ∧
  H' a = none ∧ H' T = none ∧ s.heap.get? a = none ∧ s.heap.get? T = none ∧ FlyT s'.heap a T C ∧ E C none H'
theorem ObjOk.there {P : Program} {w : World} {H : Hp} {h : Heap} {a : Addr} {o : HO} (x : ObjOk P w H h a o) : ∃ ob, h.get? a = some ob := by
  cases o with
  | lst xs => obtain ⟨_, _, _, _, e⟩ := x; exact ⟨_, e⟩
  | tup xs => obtain ⟨_, _, _, ob, e, _⟩ := x; exact ⟨_, e⟩
  | dK kvs => obtain ⟨_, _, _, _, o, _, _, e, _⟩ := x; exact ⟨_, e⟩
  | dT kvs => obtain ⟨_, _, _, _, o, _, _, e, _⟩ := x; exact ⟨_, e⟩
  | set S n => obtain ⟨o, _, _, _, e, _⟩ := x; exact ⟨_, e⟩
  | ins C dx fs => obtain ⟨_, _, _, e, _⟩ := x; exact ⟨_, e⟩
  | own y => exact x
  | xd fs => obtain ⟨_, ⟨_, _, _, e, _⟩, _⟩ := x; exact ⟨_, e⟩
  | rng lo hi => obtain ⟨_, _, _, e⟩ := x; exact ⟨_, e⟩
  | frz ob u => obtain ⟨e, _⟩ := x; exact ⟨_, e⟩
  | tbl ps => exact ⟨_, (show h.get? a = some _ from x)⟩
  | met f y => exact ⟨_, (show h.get? a = some _ from x)⟩
  | ext φ => exact x.2.1
theorem HOk.none_of {P : Program} {w : World} {H : Hp} {h : Heap} {a : Addr} (x : HOk P w H h) (e : h.get? a = none) : H a = none := by
  cases q : H a with
  | none => rfl
  | some u =>
    obtain ⟨o, z⟩ := (x a u q).there
    rw [e] at z; cases z
theorem HOk.keepT {P : Program} {w : World} {H : Hp} {h h' : Heap} (x : HOk P w H h) (k : ∀ b u, (H b).isSome = true → h.get? b = some u → h'.get? b = some u) : HOk P w H h' := fun a o e =>
  (x a o e).stay (fun b u hb q => k b u (by
    rcases hb with z | z
    · rw [z, e]; rfl
    · rw [z]; rfl) q) (fun _ q => q) fun _ _ q => q
theorem un_pass {fs0 fs1 hid : List Addr} {H0 H : Hp} {h0 h h' : Heap} (u : Un fs0 [] H0 H h0 h) (B : Heap) (hB : B = PySem.W.hideAll h (hid ++ fs1)) (st : B.StaysIn h') (sl : h.UpToSlots h')
    (hh : ∀ b ∈ hid, h0.get? b = none) (hf : ∀ b ∈ fs1, h0.get? b = none ∨ b ∈ fs0) (hd : ∀ b o, b ∈ fs0 → h.get? b = some o → ∀ vs, o.data ≠ .fields vs) (hHf : ∀ b ∈ fs1, H b = none) (hHh : ∀ b ∈ hid, H b = none)
    (hd1 : ∀ b o, b ∈ fs1 → h.get? b = some o → ∀ vs, o.data ≠ .fields vs) :
    Un fs0 [] H0 H h0 h' := by
  have keepH : ∀ b o, h.get? b = some o → b ∉ hid → b ∉ fs1 → h'.get? b = some o := fun b o e n1 n2 => st b o (by
    rw [hB]
    exact PySem.W.hideAll_get _ e fun z => (List.mem_append.mp z).elim n1 n2)
  have nh : ∀ b o, h0.get? b = some o → b ∉ hid := fun b o e z => by rw [hh b z] at e; cases e
  have nf : ∀ b o, h0.get? b = some o → b ∉ fs0 → b ∉ fs1 := fun b o e n z => by
    rcases hf b z with q | q
    · rw [q] at e; cases e
    · exact n q
  refine ⟨fun b o e n hb hx => keepH b o (u.keep b o e n hb hx) (nh b o e) (nf b o e hb), fun b o e n hb hx => ?_, u.free, fun b o e hx => ?_, u.tups, u.frzs, u.tbls⟩
  · obtain ⟨s1, e1⟩ := u.slot b o e n hb hx
    obtain ⟨s2, e2⟩ := sl b _ e1 (hd b _ hb e1)
    exact ⟨s2, e2⟩
  · obtain ⟨o', e1⟩ := u.there b o e hx
    by_cases hb : b ∈ fs1
    · obtain ⟨s2, e2⟩ := sl b _ e1 (hd1 b o' hb e1)
      exact ⟨_, e2⟩
    · exact ⟨o', keepH b o' e1 (nh b o e) hb⟩
section
variable {P : Program} {w : World} {K : PySem.W.Frag} {mg : Str → Option Value} {base : Heap} {N : List Str} {qual : Str} {scope : Scope} {f : Addr} {cd : Value} {A : Around} {outer : List Env} {s₀ : Shared} {H₀ : Hp} {E : XK}
abbrev cx1 (P : Program) (w : World) (K : PySem.W.Frag) (mg : Str → Option Value) (base : Heap) (N : List Str) (qual : Str) (scope : Scope) (f : Addr) (cd : Value) (A : Around) (outer : List Env) (s₀ : Shared) (H₀ : Hp) (E : XK) : Cx :=
  cxOf (CX1 P w) P w K mg base N qual scope f cd A outer s₀ H₀ E
theorem cx1_frames {pins : List (Addr × Obj)} {σ : St} {H : Hp} {s : Shared} (I : Inv (cx1 P w K mg base N qual scope f cd A outer s₀ H₀ E) pins σ H s) :
    ∀ b, b ∈ s₀.heap.objs.size :: frs outer → H b = none ∧ ∃ o, s.heap.get? b = some o ∧ ∀ vs, o.data ≠ .fields vs := fun b hb => by
  have hb' : b ∈ frs (cx1 P w K mg base N qual scope f cd A outer s₀ H₀ E).stack := hb
  exact ⟨I.stkFree b hb', (I.stack.mem hb').2⟩
theorem pass1 {E' : XK} (hE : ∀ C H, E' C none H → E C none H) : Passes (CX1 P w) (cx1 P w K mg base N qual scope f cd A outer s₀ H₀ E) E' := by
  intro pins σ H s e s' I hx
  obtain ⟨a, T, C, H', rfl, os, bare, u, hok, ha, hT, na, nT, fl, q⟩ := hx
  have I' : Inv (cx1 P w K mg base N qual scope f cd A outer s₀ H₀ E) pins σ H' s' := I.call' (ch := []) os u hok bare fun b z => nomatch z
  obtain ⟨oe, vs, oT, ts, a0, he, hc, h0, hd, h1, hTa, hoT, hdT, h3⟩ := fl.ex
  have fr := cx1_frames I'
  have nof : ∀ b o vs, s'.heap.get? b = some o → o.data = .fields vs → b ∉ s₀.heap.objs.size :: frs outer := fun b o vs e d z => by
    obtain ⟨o', e', n⟩ := (fr b z).2
    rw [e] at e'; cases e'
    exact n vs d
  show wpAny (model P w) (A.deeper (envOfC qual scope s₀.heap.objs.size f cd)) (leaving (envOfC qual scope s₀.heap.objs.size f cd) (.ref a)) (fun _ s'' => CX1 P w outer H₀ s₀ E (.ref a) s'') (fun e' s'' => CX1 P w outer H₀ s₀ E e' s'') s'
  have hB : PySem.W.hideAll s'.heap ([a, T] ++ (s₀.heap.objs.size :: frs outer)) = PySem.W.hideAll s'.heap ([a, T] ++ (s₀.heap.objs.size :: frs outer)) := rfl
  revert hB
  generalize hBB : PySem.W.hideAll s'.heap ([a, T] ++ (s₀.heap.objs.size :: frs outer)) = B
  intro _
  have hBn : ∀ b, b ∈ [a, T] ++ (s₀.heap.objs.size :: frs outer) → B.get? b = none := fun b hb => by rw [← hBB]; exact PySem.W.hideAll_none _ hb
  have fly : Heap.FlyingW B (envOfC qual scope s₀.heap.objs.size f cd :: outer) a C a0 s'.heap := by
    refine ⟨fun b o e => ?_, hBn a (by simp), ?_, ⟨oe, vs, T, oT, ts, he, ⟨hc, h0⟩, hd, h1, hBn T (by simp), hTa, hoT, hdT, h3⟩⟩
    · rw [← hBB] at e; exact PySem.W.of_hideAll _ e
    · have z := I'.stack
      rw [← hBB]
      refine PySem.W.funFrames_hide z fun env henv L hL => List.mem_append_right _ ?_
      show L ∈ frs (envOfC qual scope s₀.heap.objs.size f cd :: outer)
      exact List.mem_filterMap.mpr ⟨env, henv, hL⟩
  have hfr : (A.deeper (envOfC qual scope s₀.heap.objs.size f cd)).frames = some (envOfC qual scope s₀.heap.objs.size f cd :: outer) := I'.ok.frames
  refine wpAny_leaves_onW hfr rfl fly fun h' fl' sl => ?_
  obtain ⟨st, _, _, oe', vs', T', oT', ts', he', ⟨hc', h0'⟩, hd', h1', hBT, hTa', hoT', hdT', h3'⟩ := fl'
  have uB : Un (frs outer) [] H₀ H' s₀.heap s'.heap := I'.base
  have hs0L : s₀.heap.get? s₀.heap.objs.size = none := Heap.get?_none_of_le (Nat.le_refl _)
  have s0n : ∀ b, s.heap.get? b = none → s₀.heap.get? b = none := fun b e => by
    cases q : s₀.heap.get? b with
    | none => rfl
    | some o =>
      obtain ⟨o', z⟩ := I.base.there b o q (show b ∉ ([] : List Addr) by simp)
      rw [e] at z; cases z
  have hslots : ∀ b o, b ∈ s₀.heap.objs.size :: frs outer → s'.heap.get? b = some o → ∀ vs, o.data ≠ .fields vs := fun b o hb e vs d => nof b o vs e d hb
  have un := un_pass (fs1 := s₀.heap.objs.size :: frs outer) (hid := [a, T]) uB B hBB.symm st sl (fun b hb => by
      rcases List.mem_cons.mp hb with rfl | hb
      · exact s0n _ na
      · rw [List.mem_singleton.mp hb]; exact s0n _ nT) (fun b hb => by
      rcases List.mem_cons.mp hb with rfl | hb
      · exact .inl hs0L
      · exact .inr hb) (fun b o hb e => hslots b o (List.mem_cons_of_mem _ hb) e) (fun b hb => (fr b hb).1) (fun b hb => by
      rcases List.mem_cons.mp hb with rfl | hb
      · exact ha
      · rw [List.mem_singleton.mp hb]; exact hT) hslots
  have hT'n : s₀.heap.get? T' = none ∧ H' T' = none := by
    by_cases hTT : T' = T
    · subst hTT; exact ⟨s0n _ nT, hT⟩
    · have nfr : T' ∉ s₀.heap.objs.size :: frs outer := fun z => by
        obtain ⟨o', e', n⟩ := (fr T' z).2
        obtain ⟨sl', e2⟩ := sl T' o' e' n
        rw [hoT'] at e2
        have e3 := Option.some.inj e2
        rw [e3] at hdT'
        exact n ts' hdT'
      have nget : s'.heap.get? T' = none := by
        cases q : s'.heap.get? T' with
        | none => rfl
        | some o =>
          have z : B.get? T' = some o := by
            rw [← hBB]
            refine PySem.W.hideAll_get _ q fun m => ?_
            rcases List.mem_append.mp m with m | m
            · rcases List.mem_cons.mp m with m | m
              · exact hTa' m
              · exact hTT (List.mem_singleton.mp m)
            · exact nfr m
          rw [hBT] at z; cases z
      refine ⟨?_, I'.hok.none_of nget⟩
      cases q : s₀.heap.get? T' with
      | none => rfl
      | some o =>
        obtain ⟨o', z⟩ := uB.there T' o q (by simp)
        rw [nget] at z; cases z
  refine ⟨a, T', C, H', rfl, I'.os, I'.bare, un, ?_, ha, hT'n.2, s0n _ na, hT'n.1, ⟨oe', vs', oT', ts', a0, he', hc', h0', hd', h1', hTa', hoT', hdT', h3'⟩, hE _ _ q⟩
  refine I'.hok.keepT fun b u hb e => st b u ?_
  rw [← hBB]
  refine PySem.W.hideAll_get _ e fun m => ?_
  rcases List.mem_append.mp m with m | m
  · rcases List.mem_cons.mp m with rfl | m
    · rw [ha] at hb; cases hb
    · rw [List.mem_singleton.mp m, hT] at hb; cases hb
  · rw [(fr b m).1] at hb; cases hb
theorem made1 {pins : List (Addr × Obj)} {σ : St} {H : Hp} {s : Shared} {a : Addr} {h' : Heap} {C : Value} {args : List Value} (I : Inv (cx1 P w K mg base N qual scope f cd A outer s₀ H₀ E) pins σ H s)
    (hx : Heap.MadeExcOf s.heap h' a C args) (q : E C none H) : (cx1 P w K mg base N qual scope f cd A outer s₀ H₀ E).xe (.ref a) { s with heap := h' } := by
  have fr := cx1_frames I
  show wpAny (model P w) (A.deeper (envOfC qual scope s₀.heap.objs.size f cd)) (leaving (envOfC qual scope s₀.heap.objs.size f cd) (.ref a)) (fun _ s'' => CX1 P w outer H₀ s₀ E (.ref a) s'') (fun e' s'' => CX1 P w outer H₀ s₀ E e' s'') { s with heap := h' }
  generalize hBB : PySem.W.hideAll s.heap ([] ++ (s₀.heap.objs.size :: frs outer)) = B
  have hkb : B.StaysIn s.heap := fun b o e => by rw [← hBB] at e; exact PySem.W.of_hideAll _ e
  have hl : s.heap.FunFrames B (envOfC qual scope s₀.heap.objs.size f cd :: outer) := by
    have z := I.stack
    rw [← hBB]
    exact PySem.W.funFrames_hide z fun env henv L hL => List.mem_append_right _ (show L ∈ frs (envOfC qual scope s₀.heap.objs.size f cd :: outer) from List.mem_filterMap.mpr ⟨env, henv, hL⟩)
  have hfr : (A.deeper (envOfC qual scope s₀.heap.objs.size f cd)).frames = some (envOfC qual scope s₀.heap.objs.size f cd :: outer) := I.ok.frames
  refine wpAny_leaves_madeW (s := { s with heap := h' }) hfr rfl hkb hl hx fun h2 t fl' _ _ sl' => ?_
  have sl : s.heap.UpToSlots h2 := (Heap.UpToSlots.of_keeps hx.keeps).trans sl'
  obtain ⟨st, _, _, oe', vs', T', oT', ts', he', ⟨hc', h0'⟩, hd', h1', hBT, hTa', hoT', hdT', h3'⟩ := fl'
  have uB : Un (frs outer) [] H₀ H s₀.heap s.heap := I.base
  have hs0L : s₀.heap.get? s₀.heap.objs.size = none := Heap.get?_none_of_le (Nat.le_refl _)
  have s0n : ∀ b, s.heap.get? b = none → s₀.heap.get? b = none := fun b e => by
    cases q : s₀.heap.get? b with
    | none => rfl
    | some o =>
      obtain ⟨o', z⟩ := I.base.there b o q (show b ∉ ([] : List Addr) by simp)
      rw [e] at z; cases z
  have hslots : ∀ b o, b ∈ s₀.heap.objs.size :: frs outer → s.heap.get? b = some o → ∀ vs, o.data ≠ .fields vs := fun b o hb e vs d => by
    obtain ⟨o', e', n⟩ := (fr b hb).2
    rw [e] at e'; cases e'
    exact n vs d
  have un := un_pass (fs1 := s₀.heap.objs.size :: frs outer) (hid := []) uB B hBB.symm st sl (fun b hb => nomatch hb) (fun b hb => by
      rcases List.mem_cons.mp hb with rfl | hb
      · exact .inl hs0L
      · exact .inr hb) (fun b o hb e => hslots b o (List.mem_cons_of_mem _ hb) e) (fun b hb => (fr b hb).1) (fun b hb => nomatch hb) hslots
  have nget : s.heap.get? T' = none := by
    cases q : s.heap.get? T' with
    | none => rfl
    | some o =>
      by_cases hf : T' ∈ s₀.heap.objs.size :: frs outer
      · obtain ⟨sl2, e2⟩ := sl T' o q (hslots T' o hf q)
        rw [hoT'] at e2
        have e3 := Option.some.inj e2
        rw [e3] at hdT'
        exact absurd hdT' (hslots T' o hf q ts')
      · have z : B.get? T' = some o := by
          rw [← hBB]
          exact PySem.W.hideAll_get _ q fun m => (List.mem_append.mp m).elim (fun m => nomatch m) hf
        rw [hBT] at z; cases z
  refine ⟨a, T', C, H, rfl, I.os, I.bare, un, ?_, I.hok.none_of hx.new, I.hok.none_of nget, s0n _ hx.new, s0n _ nget, ⟨oe', vs', oT', ts', _, he', hc', h0', hd', h1', hTa', hoT', hdT', h3'⟩, q⟩
  refine I.hok.keepT fun b u hb e => st b u ?_
  rw [← hBB]
  refine PySem.W.hideAll_get _ e fun m => ?_
  rcases List.mem_append.mp m with m | m
  · exact nomatch m
  · rw [(fr b m).1] at hb; cases hb
end
def Raises (X : Cx) (Ex : St → Value → Hp → Prop) : Prop :=
  ∀ (pins : List (Addr × Obj)) (σ : St) (H : Hp) (s : Shared) (a : Addr) (h' : Heap) (C : Value) (args : List Value), Inv X pins σ H s → Heap.MadeExcOf s.heap h' a C args → Ex σ C H → X.xe (.ref a) { s with heap := h' }
def Comes (P : Program) (w : World) (X : Cx) (Ex : St → Value → Hp → Prop) : Prop :=
  ∀ (pins : List (Addr × Obj)) (σ : St) (H : Hp) (s : Shared) (e : Value) (s' : Shared), Inv X pins σ H s → CX1 P w X.stack H s (fun C _ H' => Ex σ C H') e s' → X.xe e s'
def tRaise (Ex : St → Value → Hp → Prop) (C : Value) (t : TA) : TS := fun _ σ H => t σ H fun vs H1 => vs.length ≤ sizeLine ∧ Ex σ C H1
def tCalX (Ex : St → Value → Hp → Prop) (sp : Sp) (dvs : List V) (t : TA) : TE := fun σ H Q => t σ H fun vs H1 => sp (vs ++ dvs) H1 Q fun C _ H' => Ex σ C H'
section
variable {X : Cx}
theorem ps_raise {Ex : St → Value → Hp → Prop} {x : Str} {C : Addr} {bm : List Value} {B newId initId : String} {e₀ : Expr} {rest : List Expr} {t : TA} {np cpos pos : Pos} (O : OwnCls x C bm newId X.mg X.base) (FB : ExcBaseFacts B newId initId bm) (hc : X.calm = true) (hg : Gl X x)
    (hx : Raises X Ex) (ha : PA X (e₀ :: rest) t) (hd : (x == ("__debug__" : Str)) = false := by decide) (he : starEach (e₀ :: rest) X.env = (false, eval e₀ X.env) :: starEach rest X.env := by rfl)
    (hpl : (backTo cpos (starEach rest X.env)).any (·.1) = false := by rfl) : PS X (.Raise (some (.Call (.Name x np) (e₀ :: rest) [] cpos)) none pos) (tRaise Ex (.ref C) t) := by
  intro pins s σ H D I h
  obtain ⟨tl, Nm, nm, q, bs, hdct, sn, sub, ab, col, dd, k0, k1, k2, k3, k5, mN, hC, hN, hni, T⟩ := O.obj
  refine wpAny_Raise_call_subT FB (mN := mN) (k5 := k5) (k3 := k3) (k2 := k2) (k1 := k1) (k0 := k0) (dd := dd) (col := col) (ab := ab) (sub := sub) (sn := sn) (hdct := hdct)
    (bm := tl) (bs := bs) (N := Nm) (q := q) (nm := nm) (C := C) (T.hasType FB.hasBase) (I.ok.hd hc) ?_ hni (ld_glob I hg O.bound ⟨rfl, ?_⟩ hd)
  · rw [he]
    show (false || (backTo cpos (starEach rest X.env)).any (·.1)) = false
    rw [hpl]; rfl
  · have hA := ha cpos pins s σ H _ I h
    rw [he] at hA ⊢
    refine Calls.evalArgs_plain (thn hA fun us s2 ⟨vs, H2, I2, r2, hz, q2⟩ => ?_)
    exact ⟨rfl, by rw [← r2.length]; exact hz, I2.bk _ _ hC, hN.keeps I2.bk, T.keeps I2.bk, fun h' e hm => hx pins σ H2 s2 e h' _ _ I2 hm q2⟩
structure CalleeX (P : Program) (w : World) (K : PySem.W.Frag) (mg : Str → Option Value) (base : Heap) (x : Str) (k : Nat) (ps : List Str) (sp : Sp) : Prop where
  ex : ∃ f fd, FnOk P w K mg base (CX1 P w) k f fd ps sp ∧ mg x = some (.ref f) ∧ PySem.W.keepIn K (.ref f) = true ∧ Binds K fd ps []
theorem pe_calX {Ex : St → Value → Hp → Prop} {x : Str} {k : Nat} {ps : List Str} {sp : Sp} {p pos : Pos} {e : Expr} {es : List Expr} {t : TA} (C : CalleeX X.prog X.w X.K X.mg X.base x k ps sp) (hr : Room k X.A) (hg : Gl X x) (hx : Comes X.prog X.w X Ex) (ha : PA X (e :: es) t)
    (hdb : (x == ("__debug__" : Str)) = false := by decide) (he : starEach (e :: es) X.env = (false, eval e X.env) :: starEach es X.env := by rfl) (hpl : (backTo pos (starEach es X.env)).any (·.1) = false := by rfl) :
    PE X (.Call (.Name x p) (e :: es) [] pos) (tCalX Ex sp [] t) := by
  obtain ⟨f, fd, F, hm, hk, hb⟩ := C.ex
  intro pins s σ H Q I h
  refine wpAny_Call_Name_kw (ld_glob I hg hm ?_ hdb)
  refine PySem.W.callWith_K (h₀ := X.base) I.ok.mod.kin hk (thn (ha pos pins s σ H _ I h) fun us s1 ⟨vs, H1, I1, r, q⟩ => ⟨I1.kIn, ?_⟩) he hpl
  have r2 : Vals (vs ++ []) (us ++ []) := r.append .nil
  have hl : (us ++ []).length = ps.length := by rw [← r2.length]; exact F.len _ _ _ _ q
  refine wpAny_call (codeAny_mono (F.run X.A X.stack s1 H1 ⟨us, []⟩ (us ++ []) (vs ++ []) Q _ hr I1.env0 (hb s1 us I1.kIn hl) r2 q) fun r s' hq => ?_)
  cases r with
  | error e => exact hx pins σ H1 s1 e s' I1 hq
  | ok fl =>
    cases fl with
    | ret u => exact I1.after hq
    | next => exact False.elim hq
    | brk => exact False.elim hq
    | cont => exact False.elim hq
end
section
variable {P : Program} {w : World} {K : PySem.W.Frag} {mg : Str → Option Value} {base : Heap} {N : List Str} {qual : Str} {scope : Scope} {f : Addr} {cd : Value} {A : Around} {outer : List Env} {s₀ : Shared} {H₀ : Hp} {E : XK}
theorem raises1 : Raises (cx1 P w K mg base N qual scope f cd A outer s₀ H₀ E) fun _ C H => E C none H := fun pins σ H s a h' C args I hx q => made1 I hx q
theorem comes1 : Comes P w (cx1 P w K mg base N qual scope f cd A outer s₀ H₀ E) fun _ C H => E C none H := fun pins σ H s e s' I hx => by
  exact pass1 (E' := fun C _ H' => E C none H') (fun C H q => q) pins σ H s e s' I hx
end
end L2
namespace L2
open PySem PySem.Spec PyProof.Rows
section
variable {P : Program} {w : World} {K : PySem.W.Frag} {mg : Str → Option Value} {base : Heap}
theorem Fun.okX {x qual : Str} {st : Stmt} {f : Addr} {fd : FuncData} {N ps : List Str} {k : Nat} {sp : Sp} (F : Fun K x qual st f fd) (S : FnScope N ps (defScope st)) (len : ∀ vs H Q E, sp vs H Q E → vs.length = ps.length)
    (hbody : ∀ (cdv : Value) (A : Around) (outer : List Env) (s : Shared) (H : Hp) (vs : List V) (Q : VK) (E : XK), Room k (A.deeper (envOfC qual (defScope st) s.heap.objs.size f cdv)) → sp vs H Q E →
      ∃ t, PSs (cx1 P w K mg base N qual (defScope st) f cdv A outer s H E) (defBody st) t ∧ t { nx := fun _ H' => Q .non H', rt := Q } (start N vs) H) : FnOk P w K mg base (CX1 P w) (k + 1) f fd ps sp := by
  obtain ⟨oc, od, kV, doc, pm, an, cdv, ct, osl, rfl, lk, hcd⟩ := F.ex
  exact fn_of lk hcd S len fun A outer s H vs Q E hr hsp => hbody cdv A outer s H vs Q E hr hsp
end
def tryB (X : Cx) (xe : Value → Shared → Prop) (pn : List (Addr × Obj)) : Cx := { X with xe := xe, pn := pn }
def cxH (X : Cx) (a : Addr) : Cx := { X with A := X.A.mark (some (.ref a)), calm := false, xe := fun _ _ => False }
def excO (a : Addr) (C : Value) : HO := .ext fun h => ∃ o vs, h.get? a = some o ∧ o.cls = C ∧ o.data = .fields vs
section
variable {X : Cx} {pins : List (Addr × Obj)} {σ : St} {H : Hp} {s : Shared}
theorem ok_tryB {xe : Value → Shared → Prop} {pn : List (Addr × Obj)} (ok : X.Ok) : (tryB X xe pn).Ok :=
  ⟨ok.mod, ok.kind, ok.glob, ok.blt, ok.above, ok.inj, ok.has, ok.cab, ok.hd, ok.frames, ok.stk, ok.exf, ok.bs, ok.bsz, ok.noex, ok.exfs, ok.funs, ok.frf⟩
theorem ok_ofB {xe : Value → Shared → Prop} {pn : List (Addr × Obj)} (ok : (tryB X xe pn).Ok) : X.Ok :=
  ⟨ok.mod, ok.kind, ok.glob, ok.blt, ok.above, ok.inj, ok.has, ok.cab, ok.hd, ok.frames, ok.stk, ok.exf, ok.bs, ok.bsz, ok.noex, ok.exfs, ok.funs, ok.frf⟩
theorem ok_cxH {a : Addr} (ok : X.Ok) : (cxH X a).Ok :=
  ⟨ok.mod, ok.kind, ok.glob, ok.blt, ok.above, ok.inj, ok.has, ok.cab, fun z => absurd z Bool.false_ne_true, ok.frames, ok.stk, ok.exf, ok.bs, ok.bsz, ok.noex, ok.exfs, ok.funs, ok.frf⟩
theorem ok_ofH {a : Addr} (ok : (cxH X a).Ok) (hd : X.calm = true → X.A.handled = none) : X.Ok :=
  ⟨ok.mod, ok.kind, ok.glob, ok.blt, ok.above, ok.inj, ok.has, ok.cab, hd, ok.frames, ok.stk, ok.exf, ok.bs, ok.bsz, ok.noex, ok.exfs, ok.funs, ok.frf⟩
theorem inv_tryB {xe : Value → Shared → Prop} (I : Inv X pins σ H s) : Inv (tryB X xe (X.pn ++ pins)) [] σ H s :=
  ⟨ok_tryB I.ok, I.os, I.bare, I.base, I.loc, I.cell, I.free, I.freeC, fun p hp => I.pin p (by simpa [L2.tryB] using hp), I.hok, I.len⟩
theorem inv_ofB {xe : Value → Shared → Prop} {pins' : List (Addr × Obj)} (I : Inv (L2.tryB X xe (X.pn ++ pins)) pins' σ H s) : Inv X pins σ H s :=
  ⟨ok_ofB I.ok, I.os, I.bare, I.base, I.loc, I.cell, I.free, I.freeC, fun p hp => I.pin p (List.mem_append_left _ hp), I.hok, I.len⟩
theorem inv_cxH {a : Addr} (I : Inv X pins σ H s) : Inv (cxH X a) pins σ H s :=
  ⟨ok_cxH I.ok, I.os, I.bare, I.base, I.loc, I.cell, I.free, I.freeC, I.pin, I.hok, I.len⟩
theorem inv_ofH {a : Addr} (I : Inv (L2.cxH X a) pins σ H s) (hd : X.calm = true → X.A.handled = none) : Inv X pins σ H s :=
  ⟨ok_ofH I.ok hd, I.os, I.bare, I.base, I.loc, I.cell, I.free, I.freeC, I.pin, I.hok, I.len⟩
theorem Inv.track {a : Addr} {o : HO} (I : Inv X pins σ H s) (ha : H a = none) (na : X.s₀.heap.get? a = none) (hL : X.env.locals ≠ a) (hC : ∀ x c, X.env.cells.lookup x = some c → c ≠ a) (hp : ∀ p ∈ X.pn ++ pins, p.1 ≠ a)
    (new : ObjOk X.prog X.w (upd H a o) s.heap a o) : Inv X pins σ (upd H a o) s := by
  have ne : ∀ b u, H b = some u → b ≠ a := fun b u e z => by rw [z, ha] at e; cases e
  have up : ∀ b u, H b = some u → upd H a o b = some u := fun b u e => by rw [upd_ne (ne b u e)]; exact e
  refine ⟨I.ok, I.os, I.bare, ⟨I.base.keep, I.base.slot, fun b ob e n hx => ?_, I.base.there, fun b xs e => up _ _ (I.base.tups b xs e), fun b ob u e => up _ _ (I.base.frzs b ob u e), fun b ps e => ?_⟩, I.loc, I.cell, ?_, fun x c e => ?_, fun p hpp => ?_, fun b u e => ?_, I.len⟩
  · have z : b ≠ a := fun z => by rw [z, na] at e; cases e
    rw [upd_ne z]; exact I.base.free b ob e n hx
  · obtain ⟨m, e'⟩ := I.base.tbls b ps e
    exact ⟨m, up _ _ e'⟩
  · rw [upd_ne hL]; exact I.free
  · rw [upd_ne (hC x c e)]; exact I.freeC x c e
  · obtain ⟨p1, p2, p3, p4, p5⟩ := I.pin p hpp
    exact ⟨p1, by rw [upd_ne (hp p hpp)]; exact p2, p3, p4, p5⟩
  · by_cases hb : b = a
    · subst hb; rw [upd_same] at e; cases e; exact new
    · rw [upd_ne hb] at e
      exact (I.hok b u e).stay (fun _ _ _ q => q) (fun c q => up _ _ q) fun c xs q => up _ _ q
theorem Inv.land {a T : Addr} {B h5 : Heap} (I : Inv X pins σ H s) (hex : X.ex = []) (hst : X.stack = X.env :: X.outer) (hfr : X.env.frame = some X.env.locals) (ha : H a = none) (hT : H T = none) (na : X.s₀.heap.get? a = none) (nT : X.s₀.heap.get? T = none)
    (np : ∀ p ∈ X.pn ++ pins, p.1 ≠ a ∧ p.1 ≠ T) (hBB : PySem.W.hideAll s.heap ([a, T] ++ frs X.stack) = B) (st : B.StaysIn h5) (sl : s.heap.UpToSlots h5) : Inv X pins σ H { s with heap := h5 } := by
  have efs : frs X.stack = X.env.locals :: X.fs := by
    rw [hst]
    show List.filterMap (·.frame) (X.env :: X.outer) = _
    rw [List.filterMap_cons, hfr]
    rfl
  have keepH : ∀ b o, s.heap.get? b = some o → b ≠ a → b ≠ T → b ∉ frs X.stack → h5.get? b = some o := fun b o e n1 n2 n3 => st b o (by
    rw [← hBB]
    refine PySem.W.hideAll_get _ e fun z => ?_
    rcases List.mem_append.mp z with z | z
    · rcases List.mem_cons.mp z with z | z
      · exact n1 z
      · exact n2 (List.mem_singleton.mp z)
    · exact n3 z)
  have hd1 : ∀ b o, b ∈ frs X.stack → s.heap.get? b = some o → ∀ vs, o.data ≠ .fields vs := fun b o hb e vs d => by
    obtain ⟨_, o', e', n⟩ := I.stack.mem hb
    rw [e] at e'; cases e'
    exact n vs d
  have n0 : X.s₀.heap.get? X.env.locals = none := Heap.get?_none_of_le I.ok.above
  have uB := I.base
  rw [hex] at uB
  have un := un_pass (fs1 := frs X.stack) (hid := [a, T]) uB B hBB.symm st sl (fun b hb => by
      rcases List.mem_cons.mp hb with rfl | hb
      · exact na
      · rw [List.mem_singleton.mp hb]; exact nT) (fun b hb => by
      rw [efs] at hb
      rcases List.mem_cons.mp hb with rfl | hb
      · exact .inl n0
      · exact .inr hb) (fun b o hb e => hd1 b o (by rw [efs]; exact List.mem_cons_of_mem _ hb) e) I.stkFree (fun b hb => by
      rcases List.mem_cons.mp hb with rfl | hb
      · exact ha
      · rw [List.mem_singleton.mp hb]; exact hT) hd1
  have cellK : ∀ c v, s.heap.IsCell c v → h5.IsCell c v := fun c v ⟨o, e, d⟩ => by
    obtain ⟨s2, e2⟩ := sl c o e fun vs z => by rw [d] at z; cases z
    exact ⟨_, e2, d⟩
  refine ⟨I.ok, I.os, I.bare, by rw [hex]; exact un, ?_, fun x c e => ?_, I.free, I.freeC, fun p hp => ?_, ?_, I.len⟩
  · obtain ⟨m, hn, hl⟩ := I.loc
    refine ⟨m, sl.ns hn, fun i x v e1 e2 e3 => ?_⟩
    obtain ⟨u, r, lk⟩ := hl i x v e1 e2 e3
    refine ⟨u, r, ?_⟩
    rcases lk with lk | ⟨k, c, e, z⟩
    · exact .inl lk
    · exact .inr ⟨k, c, e, cellK c _ z⟩
  · obtain ⟨v, z⟩ := I.cell x c e
    exact ⟨v, cellK c v z⟩
  · obtain ⟨p1, p2, p3, p4, p5⟩ := I.pin p hp
    refine ⟨keepH p.1 p.2 p1 (np p hp).1 (np p hp).2 ?_, p2, p3, p4, p5⟩
    rw [efs]
    exact fun z => (List.mem_cons.mp z).elim p3 p4
  · refine I.hok.keepT fun b u hb e => keepH b u e (fun z => ?_) (fun z => ?_) fun z => ?_
    · rw [z, ha] at hb; cases hb
    · rw [z, hT] at hb; cases hb
    · rw [I.stkFree b z] at hb; cases hb
end
section
variable {X : Cx}
theorem goes_ok {pins : List (Addr × Obj)} {σ : St} {H : Hp} {s : Shared} {i : Nat} {n : Str} {pos : Pos} {A : Around} {E : Value → Shared → Prop} {Q : Unit → Shared → Prop} (I : Inv X pins σ H s) (hN : X.N.Nodup) (hi : X.N[i]? = some n) (hl : X.env.kindOf n = some .local)
    (h : ∀ s', Inv X pins (σ.set i none) H s' → Q () s') : wpAny (model X.prog X.w) A (do bindName X.env n .none; unbindBehindTheSuite X.env n pos) Q E s := by
  obtain ⟨m, hn, hlo⟩ := id I.loc
  have hcls : (X.env.scope.kind == .class || (X.env.scope.kind == .module && X.env.locals != X.env.globals)) = false := by rw [I.ok.kind]; rfl
  refine wpAny_nameGoes_keeps hl hn hcls fun h' v hn' hs => h _ ?_
  have ab : ∀ b o, X.s₀.heap.get? b = some o → b ≠ X.env.locals := fun b o e => Nat.ne_of_lt (Nat.lt_of_lt_of_le (Heap.lt_size e) I.ok.above)
  obtain ⟨oL, _, _, hoL, _⟩ := id hn
  refine ⟨I.ok, I.os, I.bare, ⟨fun b o e n hb hx => ?_, fun b o e n hb hx => ?_, I.base.free, fun b o e hx => ?_, I.base.tups, I.base.frzs, I.base.tbls⟩, ⟨_, hn', fun j y v' e1 e2 e3 => ?_⟩, fun y c e => ?_, I.free, I.freeC, fun p hp => ?_, ?_, by simpa using I.len⟩
  · exact (hs.2 b (ab b o e)).trans (I.base.keep b o e n hb hx)
  · obtain ⟨sl, e1⟩ := I.base.slot b o e n hb hx
    exact ⟨sl, (hs.2 b (ab b o e)).trans e1⟩
  · obtain ⟨o', e1⟩ := I.base.there b o e hx
    exact ⟨o', (hs.2 b (ab b o e)).trans e1⟩
  · by_cases hj : j = i
    · subst hj
      have hiσ : j < σ.length := by rw [I.len]; exact (List.getElem?_eq_some_iff.mp hi).1
      rw [List.getElem?_set_self hiσ] at e2
      cases e2
    · rw [List.getElem?_set_ne (Ne.symm hj)] at e2
      obtain ⟨u', r', q⟩ := hlo j y v' e1 e2 e3
      refine ⟨u', r', ?_⟩
      rcases q with ⟨k, e⟩ | ⟨k, c, e, z⟩
      · refine .inl ⟨k, ?_⟩
        have hyn : y ≠ n := fun e => hj (nodup_ix hN e1 (e ▸ hi))
        simp [hyn, e]
      · exact .inr ⟨k, c, e, z.sameBut hs (I.cne y c e)⟩
  · obtain ⟨w', z⟩ := I.cell y c e
    exact ⟨w', z.sameBut hs (I.cne y c e)⟩
  · obtain ⟨e, nn, ne, nf, d⟩ := I.pin p hp
    exact ⟨(hs.2 p.1 ne).trans e, nn, ne, nf, d⟩
  · refine I.hok.keepT fun b u hb e => (hs.2 b fun z => ?_).trans e
    rw [z, I.free] at hb; cases hb
theorem fly_of {B h : Heap} {l : List Env} {a T : Addr} {C : Value} (hBa : B.get? a = none) (st : B.StaysIn h) (hl : h.FunFrames B l) (fl : FlyT h a T C) (hBT : B.get? T = none) : ∃ a0, Heap.FlyingW B l a C a0 h := by
  obtain ⟨oe, vs, oT, ts, a0, he, hc, h0, hd, h1, hTa, hoT, hdT, h3⟩ := fl.ex
  exact ⟨a0, st, hBa, hl, oe, vs, T, oT, ts, he, ⟨hc, h0⟩, hd, h1, hBT, hTa, hoT, hdT, h3⟩
theorem noted_ok {pins : List (Addr × Obj)} {σ : St} {H : Hp} {s : Shared} {a T : Addr} {C : Value} {E : Value → Shared → Prop} {Q : Unit → Shared → Prop} (I : Inv X pins σ H s) (hex : X.ex = []) (hst : X.stack = X.env :: X.outer) (hfr : X.env.frame = some X.env.locals)
    (ha : H a = none) (hT : H T = none) (na : X.s₀.heap.get? a = none) (nT : X.s₀.heap.get? T = none) (np : ∀ p ∈ X.pn ++ pins, p.1 ≠ a ∧ p.1 ≠ T) (fl : FlyT s.heap a T C)
    (h : ∀ s' T', Inv X pins σ H s' → H T' = none → X.s₀.heap.get? T' = none → (∀ p ∈ X.pn ++ pins, p.1 ≠ a ∧ p.1 ≠ T') → FlyT s'.heap a T' C → Q () s') :
    wpAny (model X.prog X.w) X.A (noteFrame (.ref a) X.env) (fun _ s₂ => wpAny (model X.prog X.w) X.A (setFlight (.ref a) none) Q E s₂) E s := by
  generalize hBB : PySem.W.hideAll s.heap ([a, T] ++ frs X.stack) = B
  have hBn : ∀ b, b ∈ [a, T] ++ frs X.stack → B.get? b = none := fun b hb => by rw [← hBB]; exact PySem.W.hideAll_none _ hb
  have st0 : B.StaysIn s.heap := fun b o e => by rw [← hBB] at e; exact PySem.W.of_hideAll _ e
  have hl : s.heap.FunFrames B (X.env :: X.outer) := by
    have z := I.stack
    rw [← hBB, ← hst]
    exact PySem.W.funFrames_hide z fun env henv L hL => List.mem_append_right _ (List.mem_filterMap.mpr ⟨env, henv, hL⟩)
  obtain ⟨a0, fw⟩ := fly_of (hBn a (by simp)) st0 hl fl (hBn T (by simp))
  have hfrs : X.A.frames = some (X.env :: X.outer) := by rw [← hst]; exact I.ok.frames
  refine wpAny_looks_onW hfrs hfr fw fun h4 held4 sl4 => ?_
  refine wpAny_landsW (s := { s with heap := h4 }) held4 fun h5 fw5 sl5 => ?_
  have sl : s.heap.UpToSlots h5 := sl4.trans sl5
  obtain ⟨st5, _, _, oe', vs', T', oT', ts', he', ⟨hc', h0'⟩, hd', h1', hBT, hTa', hoT', hdT', h3'⟩ := fw5
  have hd1 : ∀ b o, b ∈ frs X.stack → s.heap.get? b = some o → ∀ vs, o.data ≠ .fields vs := fun b o hb e vs d => by
    obtain ⟨_, o', e', n⟩ := I.stack.mem hb
    rw [e] at e'; cases e'
    exact n vs d
  have hT' : T' = T ∨ s.heap.get? T' = none := by
    cases q : s.heap.get? T' with
    | none => exact .inr rfl
    | some o =>
      by_cases hTT : T' = T
      · exact .inl hTT
      · by_cases hf : T' ∈ frs X.stack
        · obtain ⟨sl2, e2⟩ := sl T' o q (hd1 T' o hf q)
          rw [hoT'] at e2
          have e3 := Option.some.inj e2
          rw [e3] at hdT'
          exact absurd hdT' (hd1 T' o hf q ts')
        · have z : B.get? T' = some o := by
            rw [← hBB]
            refine PySem.W.hideAll_get _ q fun m => ?_
            rcases List.mem_append.mp m with m | m
            · rcases List.mem_cons.mp m with m | m
              · exact hTa' m
              · exact hTT (List.mem_singleton.mp m)
            · exact hf m
          rw [hBT] at z; cases z
  have I5 := I.land hex hst hfr ha hT na nT np hBB st5 sl
  refine h { s with heap := h5 } T' I5 ?_ ?_ (fun p hp => ⟨(np p hp).1, ?_⟩) ⟨oe', vs', oT', ts', a0, he', hc', h0', hd', h1', hTa', hoT', hdT', h3'⟩
  · rcases hT' with rfl | z
    · exact hT
    · exact I.hok.none_of z
  · rcases hT' with rfl | z
    · exact nT
    · cases q : X.s₀.heap.get? T' with
      | none => rfl
      | some o =>
        obtain ⟨o', z'⟩ := I.base.there T' o q (by rw [hex]; simp)
        rw [z] at z'; cases z'
  · rcases hT' with rfl | z
    · exact (np p hp).2
    · intro e
      have := (I.pin p hp).1
      rw [e, z] at this; cases this
theorem lands_ok {pins : List (Addr × Obj)} {σ : St} {H : Hp} {s : Shared} {a T : Addr} {C : Value} {A : Around} {E : Value → Shared → Prop} {Q : Unit → Shared → Prop} (I : Inv X pins σ H s) (hex : X.ex = []) (hst : X.stack = X.env :: X.outer) (hfr : X.env.frame = some X.env.locals)
    (ha : H a = none) (hT : H T = none) (na : X.s₀.heap.get? a = none) (nT : X.s₀.heap.get? T = none) (np : ∀ p ∈ X.pn ++ pins, p.1 ≠ a ∧ p.1 ≠ T) (fl : FlyT s.heap a T C)
    (h : ∀ s', Inv X pins σ H s' → (∃ T', FlyT s'.heap a T' C) → Q () s') : wpAny (model X.prog X.w) A (setFlight (.ref a) none) Q E s := by
  generalize hBB : PySem.W.hideAll s.heap ([a, T] ++ frs X.stack) = B
  have hBn : ∀ b, b ∈ [a, T] ++ frs X.stack → B.get? b = none := fun b hb => by rw [← hBB]; exact PySem.W.hideAll_none _ hb
  have st0 : B.StaysIn s.heap := fun b o e => by rw [← hBB] at e; exact PySem.W.of_hideAll _ e
  have hl : s.heap.FunFrames B (X.env :: X.outer) := by
    have z := I.stack
    rw [← hBB, ← hst]
    exact PySem.W.funFrames_hide z fun env henv L hL => List.mem_append_right _ (List.mem_filterMap.mpr ⟨env, henv, hL⟩)
  obtain ⟨a0, fw⟩ := fly_of (hBn a (by simp)) st0 hl fl (hBn T (by simp))
  refine wpAny_setFlight_noneW fw.1 fw.2.2.1 fw.2.2.2.at fun h' st _ tr kp => ?_
  obtain ⟨oe', vs', T', oT', ts', he', ⟨hc', h0'⟩, hd', h1', _, hTa', hoT', hdT', h3'⟩ := tr
  exact h _ (I.land hex hst hfr ha hT na nT np hBB st fun b o e n => ⟨o.slots, kp b o e n⟩) ⟨T', ⟨oe', vs', oT', ts', a0, he', hc', h0', hd', h1', hTa', hoT', hdT', h3'⟩⟩
end
end L2
namespace L2
open PySem PySem.Spec PyProof.Rows
open PySem.W (Looks)
open Builtin Builtin.ObjectAttr Builtin.Getset_descriptor
structure ExcCls (K : PySem.W.Frag) (C : Addr) : Prop where
  ga : PySem.W.findIn K (.ref C) "__getattribute__" = some (some (.builtin "BaseException.__getattribute__"))
  gt : PySem.W.findIn K (.ref C) "__getattr__" = some none
  cl : PySem.W.findIn K (.ref C) "__class__" = some (some (.builtin "object.__class__"))
  gg : PySem.W.specialIn K (.builtin "object.__class__") "__get__" = some (some (.builtin "getset_descriptor.__get__"))
  tk : PySem.W.takesIn K (.builtin "object.__class__") = some true
  ob : PySem.W.mroIn K C (.type "object") = some true
  be : PySem.W.mroIn K C (.type "BaseException") = some true
section
variable {prog : Program} {w : World} {A : Around} {E : Value → Shared → Prop} {K : PySem.W.Frag} {C a : Addr} {h : Heap} {g : Array GenState} {d : Drawn} {t : Nat} {os : OsState} {o : Obj}
theorem exc_ty {M : Model} (hx : h.get? a = some o) (hc : o.cls = .ref C) : Looks M h (typeOf (.ref a)) (.ref C) := hc ▸ (Looks.ld hx).andThen .now
theorem exc_find {M : Model} (X : K.In h) (Z : ExcCls K C) : Looks M h (find (.ref a) (.ref C) "__class__") (Found.bind (.builtin "getset_descriptor.__get__") (.builtin "object.__class__")) := by
  have L1 := PySem.W.looks_findIn (M := M) X Z.cl
  have L2 := PySem.W.looks_specialIn (M := M) X Z.gg
  have L3 := PySem.W.looks_takesIn (M := M) X Z.tk
  have L4 : Looks M h (dataDescriptor? (some (.builtin "object.__class__")) (some (.builtin "getset_descriptor.__get__"))) (some (.builtin "getset_descriptor.__get__", .builtin "object.__class__")) := L3.andThen (Looks.of_pure rfl)
  exact L1.andThen (L2.andThen (L4.andThen (Looks.tag .now)))
theorem exc_get {R : Result → Shared → Prop} (X : K.In h) (Z : ExcCls K C) (hx : h.get? a = some o) (hc : o.cls = .ref C) (hR : R (.ok (.ret (.ref C))) ⟨h, g, d, t, os⟩) :
    codeAny (model prog w) A (.call (.builtin "getset_descriptor.__get__") ⟨[.builtin "object.__class__", .ref a, .ref C], []⟩) R ⟨h, g, d, t, os⟩ := by
  have T0 := exc_ty (M := model prog w) hx hc
  have T1 := PySem.W.looks_mroIn (M := model prog w) X Z.ob
  refine codeAny_call_builtin PySem.W.KF.slot_gs.plain PySem.W.KF.entry_gs ?_
  refine PySem.W.KF.slot_gs.check _ _ _ _ _ _ _ _ PySem.W.KF.type_class (PySem.W.KF.args_gs _ _ _) ?_
  unfold Builtin.«getset_descriptor.__get__» descrGet
  rw [PySem.W.dga_obj]
  refine wpAny_bind (wpAny_pure ?_)
  unfold descrGetter descrCheckInstance descrNameAndClass isInstance
  simp only [PySem.W.KF.owner_class]
  repeat lk
  refine ⟨Code.quiet_builtin _ (by decide +kernel), ?_⟩
  refine codeAny_builtin PySem.W.KF.entry_class ?_
  unfold Builtin.«object.__class__» shownTypeOf
  repeat lk
  exact hR
theorem exc_check {M : Model} {nameV : Value} {Q : Unit → Shared → Prop} (X : K.In h) (Z : ExcCls K C) (hx : h.get? a = some o) (hc : o.cls = .ref C) (hq : Q () ⟨h, g, d, t, os⟩) :
    wpAny M A (checkBuiltinCall "BaseException.__getattribute__" ⟨[.ref a, nameV], []⟩) Q E ⟨h, g, d, t, os⟩ := by
  have c1 : builtinKind "BaseException.__getattribute__" = some .slot := by decide +kernel
  have c2 : splitId "BaseException.__getattribute__" = some ("BaseException", "__getattribute__") := by decide +kernel
  have T0 := exc_ty (M := M) hx hc
  have T1 := PySem.W.looks_mroIn (M := M) X Z.be
  have c3 := F.args_bexc_ga (.ref a) nameV
  simp only [checkBuiltinCall, c1, c2]
  refine wpAny_bind ?_
  unfold isInstance
  repeat lk
  repeat (any_goals (first | assumption | wp_step))
theorem exc_entry {tk : Tok} {Q : Fin → Shared → Prop} (X : K.In h) (Z : ExcCls K C) (hx : h.get? a = some o) (hc : o.cls = .ref C) (hq : Q (.done (.ret (.ref C))) ⟨h, g, d, t, os⟩) :
    wpAny (model prog w) A (Builtin.«object.__getattribute__» ⟨[.ref a, .str "__class__" tk], []⟩) Q E ⟨h, g, d, t, os⟩ := by
  have T0 := exc_ty (M := model prog w) hx hc
  have T1 := exc_find (a := a) (M := model prog w) X Z
  unfold Builtin.«object.__getattribute__»
  refine wpAny_bind (m := slotArgs "__getattribute__" 1 ⟨[.ref a, .str "__class__" tk], []⟩) (wpAny_pure ?_)
  refine wpAny_bind (m := attrName (.str "__class__" tk)) (wpAny_pure ?_)
  refine wpAny_bind (T0.at (wpAny_bind (T1.at ?_)))
  show wpAny _ _ (bindTo _ _ (.ref a) (.ref C)) _ _ _
  unfold bindTo
  refine wpAny_bind (wpAny_holding (wpAny_call (exc_get X Z hx hc ?_)))
  exact wpAny_pure hq
theorem exc_attr {Q : Option Value → Shared → Prop} {s : Shared} (X : K.In s.heap) (Z : ExcCls K C) (hx : s.heap.get? a = some o) (hc : o.cls = .ref C) (hq : Q (some (.ref C)) { s with toks := s.toks + 1 }) :
    wpAny (model prog w) A (getAttr? (.ref a) "__class__") Q E s := by
  obtain ⟨h, g, d, t, os⟩ := s
  have T0 := exc_ty (M := model prog w) hx hc
  have T1 := PySem.W.looks_findIn (M := model prog w) X Z.ga
  have T2 := PySem.W.looks_findIn (M := model prog w) X Z.gt
  unfold getAttr? getAttrBy? getAttrBy
  refine wpAny_bind (wpAny_mkText (wpAny_bind (wpAny_attempt (wpAny_holding (wpAny_bind (T0.at (wpAny_bind (T1.at ?_))))))))
  show wpAny _ _ (getAttrByItsOwn _ _ _ _ _ _) _ _ _
  unfold getAttrByItsOwn
  refine wpAny_bind (T2.at ?_)
  refine wpAny_bind (wpAny_attempt (wpAny_holding ?_))
  show wpAny _ _ (boundAndCalled _ _ _) _ _ _
  unfold boundAndCalled
  refine wpAny_bind (m := bindSpecial (.builtin "BaseException.__getattribute__") (.ref a)) (wpAny_of_eq (a := (Value.builtin "BaseException.__getattribute__", [Value.ref a])) (by kernel_rfl) ?_)
  refine wpAny_call (codeAny_call_builtin F.attr_ValueError.ga.plain F.entry_bexc_ga (exc_check X Z hx hc (exc_entry X Z hx hc ?_)))
  exact PySem.W.handed_on rfl (wpAny_pure hq)
theorem exc_kit (Z : ExcCls K C) : PySem.W.KitX K (.ref a) (.ref C) (fun h => ∃ o vs, h.get? a = some o ∧ o.cls = .ref C ∧ o.data = .fields vs) := by
  have hcls : ∃ c' d' cd' sl', K.lookup C = some ⟨c', d', .cls cd', sl'⟩ := by
    obtain ⟨cd, hcd, _⟩ := Option.bind_eq_some_iff.mp Z.ob
    unfold PySem.W.clsIn at hcd
    split at hcd
    · rename_i c' d' cd' sl' ho
      exact ⟨c', d', cd', sl', ho⟩
    · cases hcd
  obtain ⟨c', d', cd', sl', ho⟩ := hcls
  refine ⟨fun M h _ ⟨o, _, hx, hc, _⟩ => exc_ty hx hc, fun M h X _ => ?_, fun h tp dd its n sl X htp => ?_, fun X ⟨o, _, hx, hc, _⟩ k => exc_attr X Z hx hc k⟩
  · intro A' Q' E' s' k q
    unfold isType loadHead
    exact wpAny_bind (wpAny_loadPart (k _ _ (X _ _ ho)) (wpAny_pure q))
  · refine Bool.eq_false_iff.mpr fun q => ?_
    have e : C = tp := Value.ref.inj (beq_iff_eq.mp q)
    subst e
    have z := (X _ _ ho).symm.trans htp
    cases z
end
section
variable {X : Cx}
theorem call_isinstX : CallR X (.builtin "isinstance") (fun xs H Q => ∃ a C y c b, xs = [.ref a, y] ∧ ClsV y c ∧ H a = some (excO a (.ref C)) ∧ ExcCls X.K C ∧ PySem.W.kitOne X.K (.ref C) c = some b ∧ Q (.bl b) H) := by
  intro pins s σ H xs us Q I r h
  obtain ⟨a, C, y, c, b, rfl, hy, ha, Z, e, q⟩ := h
  obtain ⟨u, w', rfl, rx, ry⟩ := vals2 r
  cases (show u = Value.ref a from rx)
  have hE := (I.hok a _ ha).1
  cases hy with
  | ty n =>
    cases (show w' = Value.type n from ry)
    exact PySem.W.kia_one (exc_kit Z) I.kIn hE e (fun z => nomatch z) fun tk => ⟨.bl b, H, I.tok _, rfl, q⟩
  | ref D =>
    cases (show w' = Value.ref D from ry)
    exact PySem.W.kia_one (exc_kit Z) I.kIn hE e (fun z => nomatch z) fun tk => ⟨.bl b, H, I.tok _, rfl, q⟩
end
end L2
namespace L2
open PySem PySem.Spec PyProof.Rows
theorem own_of {K : PySem.W.Frag} {h : Heap} {mg : Str → Option Value} {x : Str} {C : Addr} {bmB : List Value} {newId : String} (Y : K.In h) (hm : mg x = some (.ref C)) (z : PySem.W.excIn K C bmB newId = true) : OwnCls x C bmB newId mg h := by
  constructor
  · exact hm
  · unfold PySem.W.excIn at z
    split at z
    case h_2 => cases z
    case h_1 dct cls slt hob =>
      split at z
      case h_2 => cases z
      case h_1 C2 tl s0 s1 s2 s3 nn s5 hmro hsl =>
        simp only [Bool.and_eq_true, beq_iff_eq, Bool.not_eq_true'] at z
        obtain ⟨⟨⟨⟨⟨rfl, rfl⟩, z3⟩, z4⟩, z5⟩, z6⟩ := z
        obtain ⟨v1, v2, v3, v4, v5, v6, v7, v8, v9, v10, v11⟩ := cls
        simp only at hmro z3 z5 z6
        cases hmro; cases z3
        have hs2 : slt = #[s0, s1, s2, s3, some (.builtin nn), s5] := by
          cases slt with | mk ll => simp only at hsl; rw [hsl]
        cases hs2
        exact ⟨tl, v4, v1, v5, v2, v6, v7, v8, v9, v10, dct, s0, s1, s2, s3, s5, _, Y _ _ hob, .of_isNs (PySem.W.isNs_of_in Y z5), PySem.W.nsMap_none_of_in Y z5 z6, PySem.W.tail_of_in Y z4⟩
section
variable {X : Cx}
theorem vals_refs : ∀ {cs : List Addr} {us : List Value}, Vals (cs.map V.ref) us → us = cs.map Value.ref
  | [], _, .nil => rfl
  | _ :: _, _, .cons r t => by rw [vals_refs t]; cases (show _ = Value.ref _ from r); rfl
def FP (X : Cx) (e : Expr) (c : St → Hp → Prop) : Prop := ∀ (pins : List (Addr × Obj)) (σ : St) (H : Hp) (s : Shared) (Q : Value → Shared → Prop), Inv X pins σ H s → c σ H →
  (∀ y t s', Inv X pins σ H s' → y.length ≤ 6000 → Q (.str y t) s') → wpAny (model X.prog X.w) X.A (eval e X.env) Q X.xe s
inductive FPs (X : Cx) : List Expr → (St → Hp → Prop) → Prop where
  | nil : FPs X [] fun _ _ => True
  | cons {e es c cs} : FP X e c → FPs X es cs → FPs X (e :: es) fun σ H => c σ H ∧ cs σ H
theorem joins {pins : List (Addr × Obj)} {σ : St} {H : Hp} {Q : Value → Shared → Prop} : ∀ {es : List Expr} {cs : St → Hp → Prop}, FPs X es cs → ∀ {s : Shared} {out : Str}, Inv X pins σ H s → cs σ H → out.length + 6000 * es.length ≤ sizeLine →
    (∀ y t s', Inv X pins σ H s' → Q (.str y t) s') → wpAny (model X.prog X.w) X.A (joinParts out (evalEach es X.env)) Q X.xe s
  | _, _, .nil, s, out, I, _, hz, q => joinParts_nilE (joinParts_nil (q _ _ _ (I.tok _)) (by simpa using hz))
  | _, _, .cons (es := es) he hes, s, out, I, c, hz, q => by
    simp only [List.length_cons] at hz
    refine joinParts_consE (joinParts_cons (he pins σ H s _ I c.1 fun y t s' I' hy => ?_))
    have e : (out ++ y).length = out.length + y.length := strLen_append _ _
    exact ⟨by rw [e]; omega, joins hes I' c.2 (by rw [e]; omega) q⟩
def tJoin (cs : St → Hp → Prop) : TE := fun σ H Q => cs σ H ∧ ∀ x, Q (.str x) H
theorem pe_join {e₁ e₂ : Expr} {es : List Expr} {cs : St → Hp → Prop} {pos : Pos} (h : FPs X (e₁ :: e₂ :: es) cs) (hl : 6000 * (es.length + 2) ≤ sizeLine := by decide) : PE X (.JoinedStr (e₁ :: e₂ :: es) pos) (tJoin cs) := by
  intro pins s σ H Q I hq
  refine JoinedStr_many (show wpAny _ _ (joinParts Str.empty (evalEach (e₁ :: e₂ :: es) X.env)) _ _ _ from ?_)
  exact joins h I hq.1 (by show 0 + 6000 * (es.length + 2) ≤ _; omega) fun y t s' I' => ⟨.str y, H, I', ⟨t, rfl⟩, hq.2 y⟩
theorem fp_str {e : Expr} {x : Str} (h : PE X e fun _ H Q => Q (.str x) H) (hx : x.length ≤ 6000 := by decide) : FP X e fun _ _ => True := by
  intro pins σ H s Q I _ q
  refine wpAny_mono (h pins s σ H (fun v H' => v = .str x ∧ H' = H) I ⟨rfl, rfl⟩) (fun v s' hv => ?_) fun _ _ z => z
  obtain ⟨v', H', I', r, rfl, rfl⟩ := hv
  obtain ⟨t, rfl⟩ := r
  exact q x t s' I' hx
inductive Fm (K : PySem.W.Frag) (H : Hp) : V → Prop where
  | int (i : Int) : i.natAbs.log2 < 1920 → Fm K H (.int i)
  | tup (a : Addr) (is : List Int) : SqT K H a (is.map V.int) → is.length ≤ 3 → (∀ i ∈ is, i.natAbs.log2 < 1920) → Fm K H (.ref a)
theorem reads_ints {h : Heap} : ∀ {is : List Int} {us : List Value}, Vals (is.map V.int) us → ReadsAll h us (is.map PyData.int) []
  | [], _, .nil => .nil
  | _ :: _, _, .cons r t => by
    obtain ⟨k, rfl⟩ := r
    exact .cons (.int _ _) (reads_ints t)
theorem ints_show : ∀ {is : List Int}, (∀ i ∈ is, i.natAbs.log2 < 1920) → PyData.showableAll (is.map PyData.int) = true
  | [], _ => rfl
  | i :: r, h => by
    simp only [List.map_cons, PyData.showableAll, PyData.showable, Bool.and_eq_true, decide_eq_true_eq]
    exact ⟨h i List.mem_cons_self, ints_show fun j hj => h j (List.mem_cons_of_mem _ hj)⟩
theorem ints_nodict : ∀ {is : List Int}, PyData.hasDictAll (is.map PyData.int) = false
  | [] => rfl
  | _ :: r => by simp only [List.map_cons, PyData.hasDictAll, PyData.hasDict, Bool.false_or]; exact ints_nodict
theorem ints_depth : ∀ {is : List Int}, PyData.depthAll (is.map PyData.int) ≤ 1
  | [] => by simp [PyData.depthAll]
  | _ :: r => by
    have := ints_depth (is := r)
    simp only [List.map_cons, PyData.depthAll, PyData.depth]
    omega
theorem int_short {i : Int} (h : i.natAbs.log2 < 1920) : (Str.ofString (toString i)).length ≤ 1921 := by
  rw [PySem.ofString_length]; exact int_text_length_le (k := 1920) (by decide) h
theorem ints_piled : ∀ {is : List Int}, (∀ i ∈ is, i.natAbs.log2 < 1920) → piled (PyData.shownAll (is.map PyData.int)) ≤ 1923 * is.length
  | [], _ => by simp only [List.map_nil, PyData.shownAll]; decide
  | i :: r, h => by
    have h1 := ints_piled (is := r) fun j hj => h j (List.mem_cons_of_mem _ hj)
    have h2 := int_short (h i List.mem_cons_self)
    simp only [List.map_cons, PyData.shownAll, PyData.shown, List.length_cons]
    rw [piled_cons]
    omega
theorem ints_short {is : List Int} (hl : is.length ≤ 3) (hs : ∀ i ∈ is, i.natAbs.log2 < 1920) : (PyData.tuple (is.map PyData.int)).shown.length ≤ 6000 := by
  have e : (PyData.tuple (is.map PyData.int)).shown = tupleText (PyData.shownAll (is.map PyData.int)) := by simp only [PyData.shown]
  have hp := ints_piled hs
  rw [e]
  generalize PyData.shownAll (is.map PyData.int) = ts at hp
  unfold tupleText
  rw [strLen_append, strLen_append]
  have h1 : ((if ts.length == 1 then ",)" else ")" : String) : Str).length ≤ 2 := by split <;> decide
  have h2 : (Str.join ", " ts).length ≤ 5800 := by
    by_cases h : ts = []
    · rw [h]; decide
    · have := join_length_add ts h
      omega
  have h3 : (("(" : String) : Str).length = 1 := rfl
  omega
theorem lg {i : Int} (h1 : -(2 ^ 200) < i) (h2 : i < 2 ^ 200) : i.natAbs.log2 < 1920 := by
  by_cases h : i.natAbs = 0
  · rw [h]; decide
  · rw [Nat.log2_lt h]
    have h3 : i.natAbs < 2 ^ 200 := by omega
    exact Nat.lt_of_lt_of_le h3 (Nat.pow_le_pow_right (n := 2) (by decide) (by decide))
theorem fp_val {k : Nat} {e : Expr} {t : TE} {pos : Pos} (hr : Room k X.A) (h : PE X e t) : FP X (.FormattedValue e (-1) none pos) fun σ H => t σ H fun v H' => H' = H ∧ Fm X.K H v := by
  intro pins σ H s Q I c q
  refine FormattedValue_plain (wpAny_mono (h pins s σ H _ I c) (fun v s' hv => ?_) fun _ _ z => z)
  obtain ⟨v', H', I', r, rfl, f⟩ := hv
  cases f with
  | int i hi =>
    obtain ⟨t, rfl⟩ := r
    exact formatField_int_small hi (q _ _ _ (I'.tok _) (by have := int_short hi; omega))
  | tup a is ha hl hs =>
    cases (show v = Value.ref a from r)
    obtain ⟨its, rv, ⟨⟨cl, dc, dat, sl⟩, ho, hcl, n, hdt⟩, _⟩ := I'.tuple ha
    have hz := ints_short hl hs
    refine formatField_of_reads (h₀ := s'.heap) (as := []) (d := .tuple (is.map PyData.int)) (.tuple ho hcl hdt (by simpa using reads_ints rv)) ?_ ?_ hr.gd ?_ (fun _ _ z => z) (fun h' u tk hk => q _ _ _ ?_ hz) ?_
    · simp only [PyData.showable]; exact ints_show hs
    · intro z
      simp only [PyData.hasDict] at z
      rw [ints_nodict] at z; cases z
    · have := hr.units
      have hd := ints_depth (is := is)
      simp only [PyData.depth]
      omega
    · exact I'.kept hk
    · have : sizeLine = 2 ^ 24 := rfl
      omega
theorem pe_globC {x : Str} {C : Addr} {pos : Pos} (hg : Gl X x) (hm : X.mg x = some (.ref C)) (hd : (x == ("__debug__" : Str)) = false := by decide) : PE X (.Name x pos) (tC (.ref C)) := pe_glob hg hm rfl hd
theorem ev_U {ta : TE} {σ : St} {H : Hp} {i : Int} {g : Int → V} (ha : Ev ta σ H (.int i)) : Ev (tUn (rU g) ta) σ H (g i) := fun _ q => ha _ ⟨i, rfl, q⟩
theorem sq_asg {te : TE} {u : TS} {D : Ends} {σ : St} {H : Hp} {n : Nat} (q : te σ H fun v H1 => u D (σ.set n (some v)) H1) : tSeq (tAsg te (gName n)) u D σ H := q
theorem bt_ValueError : bootBuiltins "ValueError" = some (.type "ValueError") := by decide +kernel
structure ExcN (K : PySem.W.Frag) (mg : Str → Option Value) (x : Str) (C : Addr) : Prop where
  bd : mg x = some (.ref C)
  ex : PySem.W.excIn K C [.type "ValueError", .type "Exception", .type "BaseException", .type "object"] "ValueError.__new__" = true
  ok : ExcCls K C
theorem rd_raise {Ex : St → Value → Hp → Prop} {C : Value} {t : TA} {D : Ends} {σ : St} {H : Hp} {cs : St → Hp → Prop} (h : cs σ H) (q : Ex σ C H) : tRaise Ex C (tCons (tJoin cs) tNil) D σ H := ⟨h, fun _ => ⟨(by show 1 ≤ sizeLine; decide), q⟩⟩
end
end L2
namespace L2
open PySem PySem.Spec PyProof.Rows
structure MCallee (P : Program) (w : World) (K : PySem.W.Frag) (mg : Str → Option Value) (base : Heap) (C : Addr) (m : Str) (k : Nat) (ps : List Str) (sp : Sp) : Prop where
  ex : ∃ f fd, FnOk P w K mg base CX0 k f fd ps sp ∧ Meth K C m f ∧ Binds K fd ps []
section
variable {X : Cx} {C : Addr} {k : Nat} {ps : List Str} {sp : Sp} {x m : Str} {p pos apos : Pos} {e o : Expr} {es : List Expr} {ta : TE} {t : TA}
theorem pe_met {pl : Sem Bool} (he : PE X o ta) (c : Cls X.K C) (G : MCallee X.prog X.w X.K X.mg X.base C m k ps sp) (hr : Room k X.A) (ha : PA X (e :: es) t)
    (hst : starEach (e :: es) X.env = (false, eval e X.env) :: starEach es X.env := by rfl) (hpl : (backTo pos (starEach es X.env)).any (·.1) = false := by rfl)
    (ht : eval (.Call (.Attribute o m apos) (e :: es) [] pos) X.env = (do
      let ov ← eval o X.env
      standAt apos.atName
      let (f, first) ← holding [ov] (getMethod ov m pl)
      callWith pos f first (backTo pos (starEach (e :: es) X.env)) (backToKw pos (keywordEach [] X.env))) := by rfl) :
    PE X (.Call (.Attribute o m apos) (e :: es) [] pos) (tMeth C m sp [] E0 ta t) := by
  obtain ⟨f, fd, F, hm, hb⟩ := G.ex
  exact pe_meth (pl := pl) he c hm F hr hb .nil pass0 ha hst hpl ht
end
theorem lc_el {te : TE} {τ : St} {H : Hp} {R : VK} {N : Hp → Prop} (h : te τ H R) : tYes τ H fun b H3 => if b = true then te τ H3 R else N H3 := by
  show if true = true then te τ H R else N H
  rw [if_pos rfl]
  exact h
section
variable {σ : St} {H : Hp} {tc : TT} {te : TE} {t u v : TS} {D : Ends} {a b : Bool}
theorem sq_ife (h : EvT tc σ H b) (h1 : b = true → t { D with nx := v D } σ H) (h2 : b = false → u { D with nx := v D } σ H) : tSeq (tIfS tc t u) v D σ H := by
  refine h _ ?_
  cases b with
  | true => rw [if_pos rfl]; exact h1 rfl
  | false => rw [if_neg Bool.false_ne_true]; exact h2 rfl
theorem sq_ifR (J : St → Hp → Prop) (h : EvT tc σ H b) (h1 : b = true → ∀ R : St → Hp → Prop, (∀ σ H, J σ H → R σ H) → t { D with nx := R } σ H) (h2 : b = false → ∀ R : St → Hp → Prop, (∀ σ H, J σ H → R σ H) → u { D with nx := R } σ H)
    (hv : ∀ σ H, J σ H → v D σ H) : tSeq (tIfS tc t u) v D σ H := sq_ife h (fun e => h1 e _ hv) fun e => h2 e _ hv
end
end L2
namespace L2
open PySem PySem.Spec PyProof.Rows
structure MCalleeX (P : Program) (w : World) (K : PySem.W.Frag) (mg : Str → Option Value) (base : Heap) (C : Addr) (m : Str) (k : Nat) (ps : List Str) (sp : Sp) : Prop where
  ex : ∃ f fd, FnOk P w K mg base (CX1 P w) k f fd ps sp ∧ Meth K C m f ∧ Binds K fd ps []
theorem comesF {P : Program} {w : World} {X : Cx} : Comes P w X fun _ _ _ => False := fun _ _ _ _ _ _ _ h => by
  obtain ⟨_, _, _, _, _, _, _, _, _, _, _, _, _, _, q⟩ := h
  exact q.elim
def tMetX (Ex : St → Value → Hp → Prop) (C : Addr) (m : Str) (sp : Sp) (ta : TE) (t : TA) : TE := fun σ H Q => ta σ H fun x H1 => ∃ a dx fs, x = .ref a ∧ H1 a = some (.ins C dx fs) ∧ fs.lookup m = none ∧
  t σ H1 fun vs H2 => sp (x :: vs) H2 Q fun C' _ H' => Ex σ C' H'
section
variable {X : Cx} {Ex : St → Value → Hp → Prop} {C : Addr} {k : Nat} {f : Addr} {fd : FuncData} {ps : List Str} {sp : Sp} {x m : Str} {p pos apos : Pos} {e o : Expr} {es : List Expr} {ta : TE} {t : TA}
theorem run_fnX {pins : List (Addr × Obj)} {σ : St} {H : Hp} {s : Shared} {Q : VK} {us : List Value} {vs : List V} (F : FnOk X.prog X.w X.K X.mg X.base (CX1 X.prog X.w) k f fd ps sp) (hr : Room k X.A) (hb : Binds X.K fd ps []) (hx : Comes X.prog X.w X Ex)
    (I : Inv X pins σ H s) (r : Vals vs us) (h : sp vs H Q fun C _ H' => Ex σ C H') : wpAny (model X.prog X.w) X.A (call (.ref f) us) (EP X pins σ Q) X.xe s := by
  have hl : (us ++ []).length = ps.length := by rw [List.append_nil, ← r.length]; exact F.len _ _ _ _ h
  have hbi := hb s us I.kIn hl
  rw [List.append_nil] at hbi
  refine wpAny_call (codeAny_mono (F.run X.A X.stack s H ⟨us, []⟩ us vs Q _ hr I.env0 hbi r h) fun r s' hq => ?_)
  cases r with
  | error e => exact hx pins σ H s e s' I hq
  | ok fl =>
    cases fl with
    | ret u => exact I.after hq
    | next => exact False.elim hq
    | brk => exact False.elim hq
    | cont => exact False.elim hq
theorem pe_metX {pl : Sem Bool} (he : PE X o ta) (c : Cls X.K C) (G : MCalleeX X.prog X.w X.K X.mg X.base C m k ps sp) (hr : Room k X.A) (hx : Comes X.prog X.w X Ex) (ha : PA X (e :: es) t)
    (hst : starEach (e :: es) X.env = (false, eval e X.env) :: starEach es X.env := by rfl) (hpl : (backTo pos (starEach es X.env)).any (·.1) = false := by rfl)
    (ht : eval (.Call (.Attribute o m apos) (e :: es) [] pos) X.env = (do
      let ov ← eval o X.env
      standAt apos.atName
      let (f, first) ← holding [ov] (getMethod ov m pl)
      callWith pos f first (backTo pos (starEach (e :: es) X.env)) (backToKw pos (keywordEach [] X.env))) := by rfl) :
    PE X (.Call (.Attribute o m apos) (e :: es) [] pos) (tMetX Ex C m sp ta t) := by
  obtain ⟨f, fd, F, hm, hb⟩ := G.ex
  intro pins s σ H Q I h
  refine PySem.W.methodCall_KW (pl := pl) (thn (he pins s σ H _ I h) fun u s1 ⟨x, H1, I1, rx, a, dx, fs, ex, ea, l, q⟩ => ?_) ht
  subst ex
  obtain rfl : u = Value.ref a := rx
  refine getmeth_ok I1 ea c hm l ?_
  refine PySem.W.callWith_K (first := [.ref a]) (h₀ := X.base) I.ok.mod.kin hm.kp (thn (ha pos pins s1 σ H1 _ I1 q) fun us s2 ⟨vs, H2, I2, r, q2⟩ => ⟨I2.kIn, ?_⟩) hst hpl
  exact run_fnX (us := .ref a :: us) (vs := .ref a :: vs) F hr hb hx I2 (.cons rfl r) q2
end
end L2
namespace L2
open PySem PySem.W PyProof.Rows
def evT {α : Type} (lt : Nat → Nat → Bool) : KasT α → α
  | .ret a => a
  | .ask i j k => evT lt (k (lt i j))
theorem evT_bind {α β : Type} {lt : Nat → Nat → Bool} {f : α → KasT β} : ∀ t : KasT α, evT lt (t.bind f) = evT lt (f (evT lt t))
  | .ret _ => rfl
  | .ask i j k => evT_bind (k (lt i j))
inductive AskE (lt : Nat → Nat → Bool) (n : Nat) : {α : Type} → KasT α → Prop where
  | ret {α : Type} (a : α) : AskE lt n (KasT.ret a)
  | ask {α : Type} {i j : Nat} {k : Bool → KasT α} : i < n → j < n → AskE lt n (k (lt i j)) → AskE lt n (.ask i j k)
theorem AskE.bind {lt : Nat → Nat → Bool} {n : Nat} {α β : Type} {f : α → KasT β} : ∀ {t : KasT α}, AskE lt n t → AskE lt n (f (evT lt t)) → AskE lt n (t.bind f)
  | .ret _, _, hf => hf
  | .ask _ _ _, .ask h1 h2 h3, hf => .ask h1 h2 (AskE.bind h3 hf)
theorem kas_ev {α : Type} {lt : Nat → Nat → Bool} {n : Nat} {cmp : Nat → Nat → (Bool → Shared → Prop) → Shared → Prop} {I : Shared → Prop} {Q : α → Shared → Prop} (hc : ∀ i j C s, i < n → j < n → I s → (∀ s', I s' → C (lt i j) s') → cmp i j C s) :
    ∀ {t : KasT α} {s : Shared}, AskE lt n t → I s → (∀ s', I s' → Q (evT lt t) s') → t.kasWp cmp Q s
  | .ret a, s, _, hs, hq => hq s hs
  | .ask i j k, s, .ask h1 h2 h3, hs, hq => hc i j _ s h1 h2 hs fun s' hs' => kas_ev hc h3 hs' hq
section
variable {O : KeyOrd} (key : Nat → O.α)
def kA (p : Array Nat) (k : Nat) : O.α := key (p.getD k 0)
def Up (p : Array Nat) (n : Nat) : Prop := ∀ i j, i ≤ j → j < n → O.kle (kA key p i) (kA key p j)
def Dn (p : Array Nat) (n : Nat) : Prop := ∀ i j, i ≤ j → j < n → O.kle (kA key p j) (kA key p i)
abbrev ltK (i j : Nat) : Bool := O.blt (key i) (key j)
def PermN (n : Nat) (p : Array Nat) : Prop := p.Perm (List.toArray (List.range n))
variable {key}
theorem PermN.size {n : Nat} {p : Array Nat} (h : PermN n p) : p.size = n := by
  have := h.size_eq
  simpa using this
theorem PermN.lt {n : Nat} {p : Array Nat} (h : PermN n p) (k : Nat) (hk : k < n) : p.getD k 0 < n := by
  have hz := h.size
  have hm : p[k]'(by omega) ∈ p := Array.getElem_mem _
  have := (h.mem_iff).mp hm
  rw [Array.getD_eq_getD_getElem?, Array.getElem?_eq_getElem (by omega)]
  simpa using this
theorem getD_rev {p : Array Nat} {i j : Nat} (hj : j ≤ p.size) (k : Nat) : (kas_rev p i j).getD k 0 = if i ≤ k ∧ k < j then p.getD (i + j - 1 - k) 0 else p.getD k 0 := by
  unfold kas_rev
  rw [Array.getD_eq_getD_getElem?, getElem?_mirror_all hj]
  split <;> rw [Array.getD_eq_getD_getElem?]
theorem PermN.rev {n : Nat} {p : Array Nat} (h : PermN n p) (i j : Nat) : PermN n (kas_rev p i j) := (mirror_perm p i j _).trans h
theorem kA_rev {p : Array Nat} {i j : Nat} (hj : j ≤ p.size) (he : ∀ k, i ≤ k → k < j → kA key p k = kA key p (j - 1)) (k : Nat) : kA key (kas_rev p i j) k = kA key p k := by
  unfold kA at he ⊢
  rw [getD_rev hj]
  split
  · next h => rw [he k h.1 h.2, he _ (by omega) (by omega)]
  · rfl
theorem Up.snoc {p : Array Nat} {n : Nat} (h : Up key p n) (hn : 1 ≤ n) (hl : O.kle (kA key p (n - 1)) (kA key p n)) : Up key p (n + 1) := fun i j hij hj => by
  by_cases e : j = n
  · subst e
    by_cases e2 : i = j
    · subst e2; exact KeyOrd.kle_refl _
    · exact KeyOrd.kle_trans (h i (j - 1) (by omega) (by omega)) hl
  · exact h i j hij (by omega)
theorem Dn.snoc {p : Array Nat} {n : Nat} (h : Dn key p n) (hn : 1 ≤ n) (hl : O.kle (kA key p n) (kA key p (n - 1))) : Dn key p (n + 1) := fun i j hij hj => by
  by_cases e : j = n
  · subst e
    by_cases e2 : i = j
    · subst e2; exact KeyOrd.kle_refl _
    · exact KeyOrd.kle_trans hl (h i (j - 1) (by omega) (by omega))
  · exact h i j hij (by omega)
theorem Dn.of_keys {p q : Array Nat} {n : Nat} (h : Dn key p n) (e : ∀ k, kA key q k = kA key p k) : Dn key q n := fun i j hij hj => by rw [e, e]; exact h i j hij hj
theorem Dn.turn {p : Array Nat} {n : Nat} (h : Dn key p n) (hn : n ≤ p.size) : Up key (kas_rev p 0 n) n := fun i j hij hj => by
  unfold kA
  rw [getD_rev hn, getD_rev hn, if_pos ⟨Nat.zero_le _, by omega⟩, if_pos ⟨Nat.zero_le _, by omega⟩]
  exact h _ _ (by omega) (by omega)
theorem asc_ok {N : Nat} {p : Array Nat} (hp : PermN N p) : ∀ (f n : Nat), 1 ≤ n → n + f ≤ N → Up key p n → AskE (ltK key) N (kas_asc p f n) ∧
    n ≤ evT (ltK key) (kas_asc p f n) ∧ evT (ltK key) (kas_asc p f n) ≤ n + f ∧ Up key p (evT (ltK key) (kas_asc p f n)) ∧ (evT (ltK key) (kas_asc p f n) < n + f → ltK key (p.getD (evT (ltK key) (kas_asc p f n)) 0) (p.getD (evT (ltK key) (kas_asc p f n) - 1) 0) = true)
  | 0, n, _, _, h => ⟨.ret _, Nat.le_refl _, Nat.le_refl _, h, fun z => absurd z (Nat.lt_irrefl _)⟩
  | f + 1, n, h1, hn, h => by
    cases e : ltK key (p.getD n 0) (p.getD (n - 1) 0) with
    | true =>
      have ev : evT (ltK key) (kas_asc p (f + 1) n) = n := by
        show evT (ltK key) (if ltK key (p.getD n 0) (p.getD (n - 1) 0) = true then KasT.ret n else kas_asc p f (n + 1)) = n
        rw [e, if_pos rfl]; rfl
      refine ⟨.ask (hp.lt n (by omega)) (hp.lt (n - 1) (by omega)) ?_, ?_⟩
      · rw [e, if_pos rfl]; exact .ret _
      · rw [ev]; exact ⟨Nat.le_refl _, by omega, h, fun _ => e⟩
    | false =>
      have ev : evT (ltK key) (kas_asc p (f + 1) n) = evT (ltK key) (kas_asc p f (n + 1)) := by
        show evT (ltK key) (if ltK key (p.getD n 0) (p.getD (n - 1) 0) = true then KasT.ret n else kas_asc p f (n + 1)) = _
        rw [e, if_neg Bool.false_ne_true]
      obtain ⟨a1, a2, a3, a4, a5⟩ := asc_ok hp f (n + 1) (by omega) (by omega) (h.snoc h1 e)
      refine ⟨.ask (hp.lt n (by omega)) (hp.lt (n - 1) (by omega)) ?_, ?_⟩
      · rw [e, if_neg Bool.false_ne_true]; exact a1
      · rw [ev]; exact ⟨by omega, by omega, a4, fun z => a5 (by omega)⟩
theorem desc_ok {N : Nat} : ∀ (f : Nat) (p : Array Nat) (n q : Nat), PermN N p → q + 1 ≤ n → n + f ≤ N → Dn key p n → (∀ k, n - (q + 1) ≤ k → k < n → kA key p k = kA key p (n - 1)) →
    AskE (ltK key) N (kas_desc f p n q) ∧ ∀ r, evT (ltK key) (kas_desc f p n q) = r → PermN N r.1 ∧ n ≤ r.2.1 ∧ r.2.1 ≤ n + f ∧ r.2.2 + 1 ≤ r.2.1 ∧ Dn key r.1 r.2.1 ∧ (∀ k, r.2.1 - (r.2.2 + 1) ≤ k → k < r.2.1 → kA key r.1 k = kA key r.1 (r.2.1 - 1))
  | 0, p, n, q, hp, hq, hn, h, he => ⟨.ret _, fun r e => by cases e; exact ⟨hp, Nat.le_refl _, Nat.le_refl _, hq, h, he⟩⟩
  | f + 1, p, n, q, hp, hq, hn, h, he => by
    have hz := hp.size
    have i1 := hp.lt n (by omega)
    have i2 := hp.lt (n - 1) (by omega)
    have un : evT (ltK key) (kas_desc (f + 1) p n q) = evT (ltK key) (if ltK key (p.getD n 0) (p.getD (n - 1) 0) = true then (if q > 0 then kas_desc f (kas_rev p (n - (q + 1)) n) (n + 1) 0 else kas_desc f p (n + 1) 0)
        else .ask (p.getD (n - 1) 0) (p.getD n 0) fun d => if d = true then .ret (p, n, q) else kas_desc f p (n + 1) (q + 1)) := rfl
    have last1 : ∀ (p' : Array Nat) (k : Nat), n + 1 - (0 + 1) ≤ k → k < n + 1 → kA key p' k = kA key p' (n + 1 - 1) := fun p' k h1 h2 => by
      have : k = n + 1 - 1 := by omega
      rw [this]
    cases e : ltK key (p.getD n 0) (p.getD (n - 1) 0) with
    | true =>
      have hs : Dn key p (n + 1) := h.snoc (by omega) (KeyOrd.kle_of_klt e)
      by_cases hq0 : q > 0
      · have ek := kA_rev (p := p) (i := n - (q + 1)) (j := n) (by omega) he
        obtain ⟨a1, a2⟩ := desc_ok f (kas_rev p (n - (q + 1)) n) (n + 1) 0 (hp.rev _ _) (by omega) (by omega) (hs.of_keys ek) (last1 _)
        refine ⟨.ask i1 i2 ?_, fun r er => ?_⟩
        · rw [e, if_pos rfl, if_pos hq0]; exact a1
        · rw [un, e, if_pos rfl, if_pos hq0] at er
          obtain ⟨b1, b2, b3, b4, b5, b6⟩ := a2 r er
          exact ⟨b1, by omega, by omega, b4, b5, b6⟩
      · obtain ⟨a1, a2⟩ := desc_ok f p (n + 1) 0 hp (by omega) (by omega) hs (last1 _)
        refine ⟨.ask i1 i2 ?_, fun r er => ?_⟩
        · rw [e, if_pos rfl, if_neg hq0]; exact a1
        · rw [un, e, if_pos rfl, if_neg hq0] at er
          obtain ⟨b1, b2, b3, b4, b5, b6⟩ := a2 r er
          exact ⟨b1, by omega, by omega, b4, b5, b6⟩
    | false =>
      cases e2 : ltK key (p.getD (n - 1) 0) (p.getD n 0) with
      | true =>
        refine ⟨.ask i1 i2 ?_, fun r er => ?_⟩
        · rw [e, if_neg Bool.false_ne_true]
          refine .ask i2 i1 ?_
          rw [e2, if_pos rfl]; exact .ret _
        · rw [un, e, if_neg Bool.false_ne_true] at er
          have er : evT (ltK key) (if ltK key (p.getD (n - 1) 0) (p.getD n 0) = true then KasT.ret (p, n, q) else kas_desc f p (n + 1) (q + 1)) = r := er
          rw [e2, if_pos rfl] at er
          cases er
          exact ⟨hp, Nat.le_refl _, (show n ≤ n + (f + 1) by omega), hq, h, he⟩
      | false =>
        have eqk : kA key p n = kA key p (n - 1) := O.total _ _ e e2
        have hs : Dn key p (n + 1) := h.snoc (by omega) (by rw [eqk]; exact KeyOrd.kle_refl _)
        obtain ⟨a1, a2⟩ := desc_ok f p (n + 1) (q + 1) hp (by omega) (by omega) hs fun k h1 h2 => by
          by_cases ek : k = n
          · rw [ek]; rfl
          · rw [he k (by omega) (by omega)]; exact eqk.symm
        refine ⟨.ask i1 i2 ?_, fun r er => ?_⟩
        · rw [e, if_neg Bool.false_ne_true]
          refine .ask i2 i1 ?_
          rw [e2, if_neg Bool.false_ne_true]; exact a1
        · rw [un, e, if_neg Bool.false_ne_true] at er
          have er : evT (ltK key) (if ltK key (p.getD (n - 1) 0) (p.getD n 0) = true then KasT.ret (p, n, q) else kas_desc f p (n + 1) (q + 1)) = r := er
          rw [e2, if_neg Bool.false_ne_true] at er
          obtain ⟨b1, b2, b3, b4, b5, b6⟩ := a2 r er
          exact ⟨b1, by omega, by omega, b4, b5, b6⟩
def RunOk (key : Nat → O.α) (N : Nat) (r : Nat × Array Nat) : Prop := PermN N r.2 ∧ 1 ≤ r.1 ∧ r.1 ≤ N ∧ Up key r.2 r.1
theorem tail3_ok {N n : Nat} {p : Array Nat} (hp : PermN N p) (h1 : 1 ≤ n) (hn : n ≤ N) (h : Dn key p n) : AskE (ltK key) N (kas_tail3 n N p) ∧ RunOk key N (evT (ltK key) (kas_tail3 n N p)) := by
  have hz := hp.size
  obtain ⟨a1, a2, a3, a4, _⟩ := asc_ok (hp.rev 0 n) (N - n) n h1 (by omega) (h.turn (by omega))
  unfold kas_tail3
  refine ⟨a1.bind (.ret _), ?_⟩
  rw [evT_bind]
  exact ⟨hp.rev 0 n, by show 1 ≤ evT _ _; omega, by show evT _ _ ≤ N; omega, a4⟩
theorem descPart_ok {N n : Nat} {p : Array Nat} (hp : PermN N p) (hn : n + 1 ≤ N) (h : Dn key p (n + 1)) : AskE (ltK key) N (kas_descPart n N p) ∧ RunOk key N (evT (ltK key) (kas_descPart n N p)) := by
  obtain ⟨a1, a2⟩ := desc_ok (N - (n + 1)) p (n + 1) 0 hp (by omega) (by omega) h fun k h1 h2 => by
    have : k = n + 1 - 1 := by omega
    rw [this]
  obtain ⟨b1, b2, b3, b4, b5, b6⟩ := a2 _ rfl
  unfold kas_descPart
  rw [evT_bind]
  revert b1 b2 b3 b4 b5 b6 a1
  generalize hR : evT (ltK key) (kas_desc (N - (n + 1)) p (n + 1) 0) = r
  intro a1 b1 b2 b3 b4 b5 b6
  have hz := b1.size
  by_cases hq : r.2.2 > 0
  · have ek := kA_rev (p := r.1) (i := r.2.1 - (r.2.2 + 1)) (j := r.2.1) (by omega) b6
    obtain ⟨c1, c2⟩ := tail3_ok (b1.rev (r.2.1 - (r.2.2 + 1)) r.2.1) (by omega) (by omega) (b5.of_keys ek)
    refine ⟨a1.bind ?_, ?_⟩
    · rw [hR, if_pos hq]; exact c1
    · rw [if_pos hq]; exact c2
  · obtain ⟨c1, c2⟩ := tail3_ok b1 (by omega) (by omega) b5
    refine ⟨a1.bind ?_, ?_⟩
    · rw [hR, if_neg hq]; exact c1
    · rw [if_neg hq]; exact c2
theorem count_ok {N : Nat} {p : Array Nat} (hp : PermN N p) (h1 : 1 ≤ N) : AskE (ltK key) N (kas_count N p) ∧ RunOk key N (evT (ltK key) (kas_count N p)) := by
  have hz := hp.size
  have u1 : Up key p 1 := fun i j hij hj => by
    have : i = j := by omega
    subst this; exact KeyOrd.kle_refl _
  obtain ⟨a1, a2, a3, a4, a5⟩ := asc_ok hp (N - 1) 1 (Nat.le_refl _) (by omega) u1
  unfold kas_count
  rw [evT_bind]
  revert a1 a2 a3 a4 a5
  generalize hR : evT (ltK key) (kas_asc p (N - 1) 1) = n
  intro a1 a2 a3 a4 a5
  have fin : ∀ {t : KasT (Nat × Array Nat)}, (AskE (ltK key) N t ∧ RunOk key N (evT (ltK key) t)) → ∀ {g : Nat → KasT (Nat × Array Nat)}, g n = t → AskE (ltK key) N ((kas_asc p (N - 1) 1).bind g) ∧ RunOk key N (evT (ltK key) (g n)) := fun {t} ht {g} eg => by
    refine ⟨a1.bind ?_, ?_⟩
    · rw [hR, eg]; exact ht.1
    · rw [eg]; exact ht.2
  by_cases hN : n = N
  · exact fin (t := .ret (n, p)) ⟨.ret _, hp, (show 1 ≤ n by omega), (show n ≤ N by omega), a4⟩ (if_pos (by simp [hN]))
  · have hlt := a5 (by omega)
    by_cases hn1 : n > 1
    · cases e : ltK key (p.getD 0 0) (p.getD (n - 1) 0) with
      | true =>
        refine fin ⟨.ask (hp.lt 0 (by omega)) (hp.lt (n - 1) (by omega)) ?_, ?_⟩ (by rw [if_neg (by simp [hN]), if_pos hn1])
        · rw [e, if_pos rfl]; exact .ret _
        · show RunOk key N (evT (ltK key) (if ltK key (p.getD 0 0) (p.getD (n - 1) 0) = true then _ else _))
          rw [e, if_pos rfl]; exact ⟨hp, by show 1 ≤ n; omega, by show n ≤ N; omega, a4⟩
      | false =>
        have ea : ∀ k, 0 ≤ k → k < n → kA key p k = kA key p (n - 1) := fun k _ hk => by
          have g1 : O.kle (kA key p k) (kA key p (n - 1)) := a4 k (n - 1) (by omega) (by omega)
          have g2 : O.kle (kA key p 0) (kA key p k) := a4 0 k (by omega) hk
          exact KeyOrd.kle_antisymm g1 (KeyOrd.kle_trans e g2)
        have ek := kA_rev (p := p) (i := 0) (j := n) (by omega) ea
        have dn : Dn key p (n + 1) := by
          have d0 : Dn key p n := fun i j hij hj => by rw [ea i (by omega) (by omega), ea j (by omega) hj]; exact KeyOrd.kle_refl _
          exact d0.snoc (by omega) (KeyOrd.kle_of_klt hlt)
        obtain ⟨c1, c2⟩ := descPart_ok (hp.rev 0 n) (by omega) (dn.of_keys ek)
        refine fin ⟨.ask (hp.lt 0 (by omega)) (hp.lt (n - 1) (by omega)) ?_, ?_⟩ (by rw [if_neg (by simp [hN]), if_pos hn1])
        · rw [e, if_neg Bool.false_ne_true]; exact c1
        · show RunOk key N (evT (ltK key) (if ltK key (p.getD 0 0) (p.getD (n - 1) 0) = true then _ else _))
          rw [e, if_neg Bool.false_ne_true]; exact c2
    · have en : n = 1 := by omega
      have dn : Dn key p (n + 1) := by
        have d0 : Dn key p n := fun i j hij hj => by
          have : i = j := by omega
          subst this; exact KeyOrd.kle_refl _
        exact d0.snoc (by omega) (KeyOrd.kle_of_klt hlt)
      exact fin (descPart_ok hp (by omega) dn) (by rw [if_neg (by simp [hN]), if_neg hn1])
theorem place_ok {N k : Nat} {p : Array Nat} (hp : PermN N p) (hk : k < N) (hu : Up key p k) : ∀ (f l r : Nat), l ≤ r → r ≤ k → r - l ≤ f → (∀ i, i < l → O.kle (kA key p i) (kA key p k)) → (∀ i, r ≤ i → i < k → O.klt (kA key p k) (kA key p i)) →
    AskE (ltK key) N (kas_place p k f l r) ∧ ∀ v, evT (ltK key) (kas_place p k f l r) = v → v ≤ k ∧ (∀ i, i < v → O.kle (kA key p i) (kA key p k)) ∧ (∀ i, v ≤ i → i < k → O.klt (kA key p k) (kA key p i))
  | 0, l, r, hlr, hrk, hf, h1, h2 => ⟨.ret _, fun v e => by
      cases e
      exact ⟨(show l ≤ k by omega), h1, fun i hi => h2 i (by have : l ≤ i := hi; omega)⟩⟩
  | f + 1, l, r, hlr, hrk, hf, h1, h2 => by
    by_cases hge : l ≥ r
    · have eq : kas_place p k (f + 1) l r = .ret l := if_pos hge
      rw [eq]
      exact ⟨.ret _, fun v e => by cases e; exact ⟨(show l ≤ k by omega), h1, fun i hi => h2 i (by have : l ≤ i := hi; omega)⟩⟩
    · have eq : kas_place p k (f + 1) l r = .ask (p.getD k 0) (p.getD ((l + r) / 2) 0) fun c => if c = true then kas_place p k f l ((l + r) / 2) else kas_place p k f ((l + r) / 2 + 1) r := if_neg hge
      rw [eq]
      have hm : (l + r) / 2 < k := by omega
      cases e : ltK key (p.getD k 0) (p.getD ((l + r) / 2) 0) with
      | true =>
        obtain ⟨a1, a2⟩ := place_ok hp hk hu f l ((l + r) / 2) (by omega) (by omega) (by omega) h1 fun i hi hik => KeyOrd.klt_of_klt_of_kle e (hu _ i hi hik)
        refine ⟨.ask (hp.lt k hk) (hp.lt _ (by omega)) (by rw [e, if_pos rfl]; exact a1), fun v ev => a2 v ?_⟩
        have ev : evT (ltK key) (if ltK key (p.getD k 0) (p.getD ((l + r) / 2) 0) = true then _ else _) = v := ev
        rw [e, if_pos rfl] at ev
        exact ev
      | false =>
        obtain ⟨a1, a2⟩ := place_ok hp hk hu f ((l + r) / 2 + 1) r (by omega) hrk (by omega) (fun i hi => KeyOrd.kle_trans (hu i ((l + r) / 2) (by omega) hm) e) h2
        refine ⟨.ask (hp.lt k hk) (hp.lt _ (by omega)) (by rw [e, if_neg Bool.false_ne_true]; exact a1), fun v ev => a2 v ?_⟩
        have ev : evT (ltK key) (if ltK key (p.getD k 0) (p.getD ((l + r) / 2) 0) = true then _ else _) = v := ev
        rw [e, if_neg Bool.false_ne_true] at ev
        exact ev
theorem getD_bubble {p : Array Nat} {k l : Nat} (hk : k < p.size) (hl : l ≤ k) (i : Nat) : (bubble p k (k - l)).getD i 0 = if i = l then p.getD k 0 else if l < i ∧ i ≤ k then p.getD (i - 1) 0 else p.getD i 0 := by
  rw [Array.getD_eq_getD_getElem?, getElem?_bubble hk (k - l) (by omega), show k - (k - l) = l by omega]
  simp only [Array.getD_eq_getD_getElem?]
  repeat' split
  all_goals rfl
theorem Up.bubble {N k l : Nat} {p : Array Nat} (hp : PermN N p) (hk : k < N) (hl : l ≤ k) (hu : Up key p k) (h1 : ∀ i, i < l → O.kle (kA key p i) (kA key p k)) (h2 : ∀ i, l ≤ i → i < k → O.klt (kA key p k) (kA key p i)) : Up key (bubble p k (k - l)) (k + 1) := fun i j hij hj => by
  have hz := hp.size
  have e : ∀ i, kA key (PyProof.Rows.bubble p k (k - l)) i = if i = l then kA key p k else if l < i ∧ i ≤ k then kA key p (i - 1) else kA key p i := fun i => by
    unfold kA
    rw [getD_bubble (by omega) hl]
    repeat' split
    all_goals rfl
  rw [e, e]
  by_cases c1 : i = l <;> by_cases c2 : j = l
  · rw [if_pos c1, if_pos c2]; exact KeyOrd.kle_refl _
  · rw [if_pos c1, if_neg c2, if_pos (by omega)]; exact KeyOrd.kle_of_klt (h2 _ (by omega) (by omega))
  · rw [if_neg c1, if_pos c2, if_neg (by omega)]; exact h1 i (by omega)
  · rw [if_neg c1, if_neg c2]
    by_cases d1 : l < i ∧ i ≤ k
    · rw [if_pos d1, if_pos (by omega)]; exact hu _ _ (by omega) (by omega)
    · rw [if_neg d1]
      by_cases d2 : l < j ∧ j ≤ k
      · rw [if_pos d2]; exact hu _ _ (by omega) (by omega)
      · rw [if_neg d2]; exact hu _ _ hij (by omega)
theorem bin_ok {N : Nat} : ∀ (f : Nat) (p : Array Nat) (k : Nat), PermN N p → k + f = N → 1 ≤ k → Up key p k → AskE (ltK key) N (kas_bin f p k) ∧ PermN N (evT (ltK key) (kas_bin f p k)) ∧ Up key (evT (ltK key) (kas_bin f p k)) N
  | 0, p, k, hp, hk, _, hu => ⟨.ret _, hp, by rw [show N = k by omega]; exact hu⟩
  | f + 1, p, k, hp, hk, h1, hu => by
    obtain ⟨a1, a2⟩ := place_ok hp (by omega) hu k 0 k (Nat.zero_le _) (Nat.le_refl _) (by omega) (fun i hi => absurd hi (Nat.not_lt_zero _)) fun i hi hik => absurd hik (by omega)
    obtain ⟨b1, b2, b3⟩ := a2 _ rfl
    unfold kas_bin
    rw [evT_bind]
    have hb : PermN N (bubble p k (k - evT (ltK key) (kas_place p k k 0 k))) := (bubble_perm _ _ _).trans hp
    obtain ⟨c1, c2, c3⟩ := bin_ok f _ (k + 1) hb (by omega) (by omega) (hu.bubble hp (by omega) b1 b2 b3)
    exact ⟨a1.bind c1, c2, c3⟩
theorem sort_ok {N : Nat} (h1 : 1 ≤ N) : AskE (ltK key) N (kas_sort N) ∧ PermN N (evT (ltK key) (kas_sort N)) ∧ Up key (evT (ltK key) (kas_sort N)) N := by
  obtain ⟨a1, a2, a3, a4, a5⟩ := count_ok (key := key) (p := List.toArray (List.range N)) (Array.Perm.refl _) h1
  unfold kas_sort
  rw [evT_bind]
  revert a1 a2 a3 a4 a5
  generalize hR : evT (ltK key) (kas_count N (List.toArray (List.range N))) = r
  intro a1 a2 a3 a4 a5
  by_cases h : r.1 < N
  · obtain ⟨c1, c2, c3⟩ := bin_ok (N - max r.1 1) r.2 (max r.1 1) a2 (by omega) (by omega) (by rw [show max r.1 1 = r.1 by omega]; exact a5)
    refine ⟨a1.bind (by rw [hR, if_pos h]; exact c1), ?_⟩
    rw [if_pos h]; exact ⟨c2, c3⟩
  · refine ⟨a1.bind (by rw [hR, if_neg h]; exact .ret _), ?_⟩
    rw [if_neg h]
    exact ⟨a2, by rw [show N = r.1 by omega]; exact a5⟩
end
end L2
namespace L2
open PySem PySem.Spec PyProof.Rows
mutual
inductive Dp (K : PySem.W.Frag) (H : Hp) : V → PyData → Prop
  | non : Dp K H .non .none
  | bl (b : Bool) : Dp K H (.bl b) (.bool b)
  | int (i : Int) : Dp K H (.int i) (.int i)
  | str (x : Str) (h : PyData.strOk x = true) : Dp K H (.str x) (.str x)
  | tup {a : Addr} {xs : List V} {ds : List PyData} (h : SqT K H a xs) (r : Dps K H xs ds) : Dp K H (.ref a) (.tuple ds)
  | lst {a : Addr} {xs : List V} {ds : List PyData} (h : SqL K H a xs) (r : Dps K H xs ds) : Dp K H (.ref a) (.list ds)
inductive Dps (K : PySem.W.Frag) (H : Hp) : List V → List PyData → Prop
  | nil : Dps K H [] []
  | cons {x : V} {xs : List V} {d : PyData} {ds : List PyData} (h : Dp K H x d) (r : Dps K H xs ds) : Dps K H (x :: xs) (d :: ds)
end
mutual
theorem Dp.lay {K : PySem.W.Frag} {H : Hp} : ∀ {v : V} {d : PyData}, Dp K H v d → d.canLay0 = true
  | _, _, .non => rfl
  | _, _, .bl _ => rfl
  | _, _, .int _ => rfl
  | _, _, .str _ h => by simpa [PyData.canLay0] using h
  | _, _, .tup _ r => by simpa [PyData.canLay0] using r.lay
  | _, _, .lst _ r => by simpa [PyData.canLay0] using r.lay
theorem Dps.lay {K : PySem.W.Frag} {H : Hp} : ∀ {xs : List V} {ds : List PyData}, Dps K H xs ds → PyData.canLayAll0 ds = true
  | _, _, .nil => by simp [PyData.canLayAll0]
  | _, _, .cons h r => by simp [PyData.canLayAll0, h.lay, r.lay]
end
mutual
theorem Dp.reads {X : Cx} {pins : List (Addr × Obj)} {σ : St} {H : Hp} {s : Shared} (I : Inv X pins σ H s) : ∀ {v : V} {d : PyData} {u : Value}, Dp X.K H v d → RelV v u → ∃ as, Reads s.heap u d as
  | _, _, _, .non, r => by cases (show _ = Value.none from r); exact ⟨_, .none⟩
  | _, _, _, .bl b, r => by cases (show _ = Value.bool b from r); exact ⟨_, .bool b⟩
  | _, _, _, .int i, r => by obtain ⟨t, rfl⟩ := r; exact ⟨_, .int i t⟩
  | _, _, _, .str x _, r => by obtain ⟨t, rfl⟩ := r; exact ⟨_, .str x t⟩
  | _, _, _, .tup (a := a) h rs, r => by
    cases (show _ = Value.ref a from r)
    obtain ⟨its, rv, ⟨o, ho, hc, n, hd⟩, _⟩ := I.tuple h
    obtain ⟨as, ra⟩ := Dps.reads I rs rv
    exact ⟨_, .tuple ho hc hd (by simpa using ra)⟩
  | _, _, _, .lst (a := a) h rs, r => by
    cases (show _ = Value.ref a from r)
    obtain ⟨its, rv, pl, _⟩ := I.list h
    obtain ⟨o, ho, hc, n, hd⟩ := pl.isList
    obtain ⟨as, ra⟩ := Dps.reads I rs rv
    exact ⟨_, .list ho hc hd (by simpa using ra)⟩
theorem Dps.reads {X : Cx} {pins : List (Addr × Obj)} {σ : St} {H : Hp} {s : Shared} (I : Inv X pins σ H s) : ∀ {xs : List V} {ds : List PyData} {us : List Value}, Dps X.K H xs ds → Vals xs us → ∃ as, ReadsAll s.heap us ds as
  | _, _, _, .nil, .nil => ⟨_, .nil⟩
  | _, _, _, .cons h rs, .cons r rr => by
    obtain ⟨as, ra⟩ := Dp.reads I h r
    obtain ⟨bs, rb⟩ := Dps.reads I rs rr
    exact ⟨_, .cons ra rb⟩
end
section
variable {X : Cx}
def rNeD (K : PySem.W.Frag) : R2 := fun x y H Q => ∃ d e, Dp K H x d ∧ Dp K H y e ∧ d.depth ≤ 60 ∧ Q (.bl (!PyData.eqv d e)) H
theorem op_neD {k : Nat} (hr : Room k X.A) : OpR X (compareOp .NotEq) (rNeD X.K) := by
  intro pins s σ H x y v u Q I rx ry h
  obtain ⟨d, e, h1, h2, hd, q⟩ := h
  obtain ⟨as, r1⟩ := h1.reads I rx
  obtain ⟨bs, r2⟩ := h2.reads I ry
  have := hr.units
  exact SeqAt.compareNe_reads r1 r2 h1.lay h2.lay (by omega) ⟨.bl _, H, I, rfl, q⟩
end
mutual
theorem eqv_refl : ∀ {d : PyData}, d.canLay0 = true → PyData.eqv d d = true
  | .none, _ => by simp [PyData.eqv]
  | .bool _, _ => by simp [PyData.eqv]
  | .int _, _ => by simp [PyData.eqv]
  | .str _, _ => by simp [PyData.eqv]
  | .list xs, h => by simp only [PyData.eqv]; exact eqvAll_refl (by simpa [PyData.canLay0] using h)
  | .tuple xs, h => by simp only [PyData.eqv]; exact eqvAll_refl (by simpa [PyData.canLay0] using h)
  | .dict _, h => by simp [PyData.canLay0] at h
theorem eqvAll_refl : ∀ {ds : List PyData}, PyData.canLayAll0 ds = true → PyData.eqvAll ds ds = true
  | [], _ => by simp [PyData.eqvAll]
  | d :: r, h => by
    have h' : d.canLay0 = true ∧ PyData.canLayAll0 r = true := by simpa [PyData.canLayAll0] using h
    simp only [PyData.eqvAll, eqv_refl h'.1, eqvAll_refl h'.2, Bool.and_self]
end
theorem dps_ints {K : PySem.W.Frag} {H : Hp} : ∀ (ns : List Int), Dps K H (ns.map V.int) (ns.map PyData.int)
  | [] => .nil
  | n :: r => .cons (.int n) (dps_ints r)
theorem Dp.ints {K : PySem.W.Frag} {H : Hp} {a : Addr} {ns : List Int} (h : SqT K H a (ns.map V.int)) : Dp K H (.ref a) (.tuple (ns.map PyData.int)) := .tup h (dps_ints ns)
theorem eqvAll_ints : ∀ (ns ms : List Int), PyData.eqvAll (ns.map PyData.int) (ms.map PyData.int) = decide (ns = ms)
  | [], [] => by simp [PyData.eqvAll]
  | [], _ :: _ => by simp [PyData.eqvAll]
  | _ :: _, [] => by simp [PyData.eqvAll]
  | n :: r, m :: t => by
    simp only [List.map_cons, PyData.eqvAll, PyData.eqv, eqvAll_ints r t, List.cons.injEq]
    by_cases h1 : n = m <;> by_cases h2 : r = t <;> simp [h1, h2]
theorem eqv_tints (ns ms : List Int) : PyData.eqv (.tuple (ns.map PyData.int)) (.tuple (ms.map PyData.int)) = decide (ns = ms) := by simp only [PyData.eqv]; exact eqvAll_ints ns ms
theorem depthAll_le {n : Nat} : ∀ {ds : List PyData}, (∀ d ∈ ds, d.depth ≤ n) → PyData.depthAll ds ≤ n
  | [], _ => by simp [PyData.depthAll]
  | d :: r, h => by
    simp only [PyData.depthAll]
    exact Nat.max_le.mpr ⟨h d List.mem_cons_self, depthAll_le fun e he => h e (List.mem_cons_of_mem _ he)⟩
theorem depth_tints (ns : List Int) : (PyData.tuple (ns.map PyData.int)).depth ≤ 1 := by
  have : PyData.depthAll (ns.map PyData.int) ≤ 0 := depthAll_le fun d hd => by
    obtain ⟨i, _, rfl⟩ := List.mem_map.mp hd
    simp [PyData.depth]
  simp only [PyData.depth]; omega
theorem SqT.kept {K : PySem.W.Frag} {H H' : Hp} {a : Addr} {xs : List V} (e : ∀ b o, H b = some o → H' b = some o) (h : SqT K H a xs) : SqT K H' a xs := SqT.same e h
mutual
theorem Dp.same {K : PySem.W.Frag} {H H' : Hp} (e : Same H H') : ∀ {v : V} {d : PyData}, Dp K H v d → Dp K H' v d
  | _, _, .non => .non
  | _, _, .bl b => .bl b
  | _, _, .int i => .int i
  | _, _, .str x h => .str x h
  | _, _, .tup h r => .tup (h.same e) (Dps.same e r)
  | _, _, .lst h r => .lst (e.seq h) (Dps.same e r)
theorem Dps.same {K : PySem.W.Frag} {H H' : Hp} (e : Same H H') : ∀ {xs : List V} {ds : List PyData}, Dps K H xs ds → Dps K H' xs ds
  | _, _, .nil => .nil
  | _, _, .cons h r => .cons (Dp.same e h) (Dps.same e r)
end
section
variable {σ : St} {H : Hp} {ta tb : TE} {x y : V} {d e : PyData} {K : PySem.W.Frag}
end
end L2
namespace L2
open PySem PySem.Spec PyProof.Rows
theorem Inv.laidN {X : Cx} {pins : List (Addr × Obj)} {σ : St} {H : Hp} {s : Shared} {h' : Heap} {t' : Nat} {a : Addr} {o : HO} (I : Inv X pins σ H s) (k : ∀ b u, b ≠ X.env.locals → s.heap.get? b = some u → h'.get? b = some u)
    (ns : ∀ m, s.heap.Ns X.env.locals m → h'.Ns X.env.locals m) (hn : s.heap.get? a = none) (new : ObjOk X.prog X.w (upd H a o) h' a o) : Inv X pins σ (upd H a o) { s with heap := h', toks := t' } := by
  have hHa : H a = none := I.hok.none_of hn
  have trk : ∀ b u, H b = some u → b ≠ X.env.locals := fun b u e z => by rw [z, I.free] at e; cases e
  have nea : ∀ b u, s.heap.get? b = some u → b ≠ a := fun b u e z => by rw [z, hn] at e; cases e
  refine I.step (g' := s.gens) (d' := s.drawn) (ch := []) (fun _ z => nomatch z) (fun b u hL _ _ e _ => k b u hL e) (fun b u hL _ _ e _ => ⟨u.slots, k b u hL e⟩) (fun b u _ e n => by rw [upd_ne (nea b u e)]; exact n)
    (fun b u _ e => ?_) (fun b xs e => by rw [upd_ne (ne_of_none e hHa)]; exact e) (fun b u xs e => by rw [upd_ne (ne_of_none e hHa)]; exact e) (fun b ps e => ⟨#[], by rw [upd_ne (ne_of_none e hHa), e]; simp⟩) ns (fun b u e => ?_) I.bare
  · by_cases hb : b = X.env.locals
    · obtain ⟨m, hm, _⟩ := I.loc
      obtain ⟨o', _, _, e', _⟩ := ns m hm
      exact ⟨o', by rw [hb]; exact e'⟩
    · exact ⟨u, k b u hb e⟩
  · by_cases hb : b = a
    · subst hb; rw [upd_same] at e; cases e; exact new
    · rw [upd_ne hb] at e
      refine (I.hok b u e).stay (fun c v hc q => k c v ?_ q) (fun c q => by rw [upd_ne (ne_of_none q hHa)]; exact q) fun c xs q => by rw [upd_ne (ne_of_none q hHa)]; exact q
      rcases hc with rfl | hc
      · exact trk _ _ e
      · exact trk _ _ hc
theorem ns_inj {h : Heap} {a : Addr} {m m' : Str → Option Value} (x : h.Ns a m) (y : h.Ns a m') : m = m' := by
  obtain ⟨o, es, ep, ho, hd, _, f⟩ := x
  obtain ⟨o', es', ep', ho', hd', _, f'⟩ := y
  rw [ho] at ho'; cases ho'
  rw [hd] at hd'; cases hd'
  funext n
  rw [← f, ← f']
theorem vals_of_refs : ∀ cs : List Addr, Vals (cs.map V.ref) (cs.map Value.ref)
  | [] => .nil
  | _ :: r => .cons rfl (vals_of_refs r)
theorem lex_irrefl : ∀ a : List Int, HT.lexLt a a = false
  | [] => rfl
  | x :: r => by rw [HT.lexLt_cons, if_pos rfl]; exact lex_irrefl r
theorem lex_total : ∀ a b : List Int, HT.lexLt a b = false → HT.lexLt b a = false → a = b
  | [], [], _, _ => rfl
  | [], _ :: _, h, _ => by rw [HT.lexLt_nil_cons] at h; cases h
  | _ :: _, [], _, h => by rw [HT.lexLt_nil_cons] at h; cases h
  | x :: r, y :: t, h1, h2 => by
    rw [HT.lexLt_cons] at h1 h2
    by_cases e : x = y
    · subst e
      rw [if_pos rfl] at h1 h2
      rw [lex_total r t h1 h2]
    · rw [if_neg e] at h1
      rw [if_neg (Ne.symm e)] at h2
      have := of_decide_eq_false h1
      have := of_decide_eq_false h2
      omega
theorem lex_trans : ∀ a b c : List Int, HT.lexLt a b = true → HT.lexLt b c = true → HT.lexLt a c = true
  | [], _, [], _, h => by
    rename_i b _
    cases b with
    | nil => rw [HT.lexLt_nil_nil] at h; cases h
    | cons y t => rw [HT.lexLt_cons_nil] at h; cases h
  | [], _, _ :: _, _, _ => rfl
  | _ :: _, [], _, h, _ => by rw [HT.lexLt_cons_nil] at h; cases h
  | _ :: _, _ :: _, [], _, h => by rw [HT.lexLt_cons_nil] at h; cases h
  | x :: r, y :: t, z :: u, h1, h2 => by
    rw [HT.lexLt_cons] at h1 h2 ⊢
    by_cases e1 : x = y <;> by_cases e2 : y = z
    · subst e1; subst e2
      rw [if_pos rfl] at h1 h2 ⊢
      exact lex_trans r t u h1 h2
    · subst e1
      rw [if_neg e2] at h2 ⊢
      exact h2
    · subst e2
      rw [if_neg e1] at h1 ⊢
      exact h1
    · rw [if_neg e1] at h1
      rw [if_neg e2] at h2
      have := of_decide_eq_true h1
      have := of_decide_eq_true h2
      rw [if_neg (by omega)]
      exact decide_eq_true (by omega)
theorem lex_neg (a b c : List Int) (h : HT.lexLt a c = true) : HT.lexLt a b = true ∨ HT.lexLt b c = true := by
  cases h1 : HT.lexLt a b with
  | true => exact .inl rfl
  | false =>
    refine .inr ?_
    cases h2 : HT.lexLt b a with
    | true => exact lex_trans b a c h2 h
    | false => rw [← lex_total a b h1 h2]; exact h
def lexO : KeyOrd := ⟨List Int, HT.lexLt, lex_irrefl, lex_trans, lex_neg, lex_total⟩
abbrev Tups (H : Hp) (as : List Addr) (cs : List (List Int)) : Prop := Paired (fun a (c : List Int) => H a = some (.tup (c.map V.int))) as cs
theorem Tups.at {H : Hp} : ∀ {as : List Addr} {cs : List (List Int)} {i : Nat} {a : Addr}, Tups H as cs → as[i]? = some a → ∃ c, cs[i]? = some c ∧ H a = some (.tup (c.map V.int))
  | _, _, 0, _, .cons h _, e => by cases e; exact ⟨_, rfl, h⟩
  | _, _, i + 1, _, .cons _ t, e => Tups.at (i := i) t e
  | _, _, _, _, .nil, e => by simp at e
open PySem.W in
theorem katlex_ints {prog : Program} {w : World} {A : Around} {b fin : Bool} {Q : Bool → Shared → Prop} {s : Shared} : ∀ (us ws : List Value) (ns ms : List Int) (i : Nat), Vals (ns.map V.int) us → Vals (ms.map V.int) ws → fin = decide (ns.length < ms.length) →
    Q (HT.lexLt ns ms) s → KatLex prog w A b fin Q (us.zip ws) i s
  | [], ws, ns, ms, i, r1, r2, hf, h => by
    cases ns with
    | cons n r => cases r1
    | nil =>
      refine kat_nil ?_
      rw [hf]
      cases ms with
      | nil => exact h
      | cons m t => exact h
  | u :: us, [], ns, ms, i, r1, r2, hf, h => by
    cases ms with
    | cons m t => cases r2
    | nil =>
      refine kat_nil ?_
      rw [hf]
      cases ns with
      | nil => exact h
      | cons m t => exact h
  | u :: us, v :: ws, ns, ms, i, r1, r2, hf, h => by
    cases ns with
    | nil => cases r1
    | cons n r =>
      cases ms with
      | nil => cases r2
      | cons m t =>
        cases r1 with
        | cons q1 r1 =>
          cases r2 with
          | cons q2 r2 =>
            obtain ⟨t1, rfl⟩ := q1
            obtain ⟨t2, rfl⟩ := q2
            refine kat_cons (wpAny_eqBool_int ?_)
            rw [HT.lexLt_cons] at h
            refine kat_go (fun e => ?_) (fun e => ?_)
            · have e' : n = m := by simpa using e
              rw [if_pos e'] at h
              exact kat_yes (katlex_ints us ws r t (i + 1) r1 r2 (by rw [hf]; simp) h)
            · have e' : ¬ n = m := by simpa using e
              rw [if_neg e'] at h
              refine kat_no ?_
              cases (b && i == 0) with
              | true => exact oneLt_int h
              | false => exact kat_one _ _ (lt_int h)
theorem tups_kat {X : Cx} {pins : List (Addr × Obj)} {σ : St} {H : Hp} {s : Shared} {h' : Heap} (I : Inv X pins σ H s) (k : ∀ b u, b ≠ X.env.locals → s.heap.get? b = some u → h'.get? b = some u) : ∀ {as : List Addr} {cs : List (List Int)}, Tups H as cs → (∀ c ∈ cs, c ≠ []) →
    ∃ fs : List Value, PySem.W.KatTups h' (as.map Value.ref) fs ∧ fs.length = as.length ∧ ∀ v ∈ fs, ∃ i t, v = Value.int i t
  | _, _, .nil, _ => ⟨[], PySem.W.KatTups.nil, rfl, fun _ h => nomatch h⟩
  | _, _, .cons (a := a) (b := c) h t, hne => by
    obtain ⟨fs, h1, h2, h3⟩ := tups_kat I k t fun d hd => hne d (List.mem_cons_of_mem _ hd)
    obtain ⟨_, its, rv, o, ho, hc, n, hd⟩ := (show ObjOk X.prog X.w H s.heap a (.tup (c.map V.int)) from I.hok a _ h)
    have ha : a ≠ X.env.locals := fun z => by rw [z, I.free] at h; cases h
    cases c with
    | nil => exact absurd rfl (hne _ List.mem_cons_self)
    | cons i r =>
      cases rv with
      | cons q rv =>
        obtain ⟨t', rfl⟩ := q
        refine ⟨.int i t' :: fs, PySem.W.KatTups.cons (k a o ha ho) hc hd (by simp) h1, by simp [h2], fun v hv => ?_⟩
        rcases List.mem_cons.mp hv with rfl | hv
        · exact ⟨i, t', rfl⟩
        · exact h3 v hv
theorem Paired.pick {α β : Type} {F : α → β → Prop} (da : α) (db : β) : ∀ {l₁ : List α} {l₂ : List β}, Paired F l₁ l₂ → ∀ (ix : List Nat), (∀ i ∈ ix, i < l₁.length) → Paired F (ix.map fun i => l₁.getD i da) (ix.map fun i => l₂.getD i db)
  | l₁, l₂, h, [], _ => .nil
  | l₁, l₂, h, i :: ix, hi => by
    refine .cons ?_ (Paired.pick da db h ix fun j hj => hi j (List.mem_cons_of_mem _ hj))
    have hlt := hi i List.mem_cons_self
    clear hi
    induction h generalizing i with
    | nil => exact absurd hlt (Nat.not_lt_zero _)
    | @cons a b l₁ l₂ q t ih =>
      cases i with
      | zero => exact q
      | succ j => exact ih (i := j) (by simpa using hlt)
theorem pick_perm {α : Type} (d : α) (l : List α) {p : Array Nat} (hp : PermN l.length p) : (p.toList.map fun i => l.getD i d).Perm l := by
  have h : p.toList.Perm (List.range l.length) := by
    have := Array.perm_iff_toList_perm.mp hp
    simpa using this
  refine (h.map _).trans ?_
  have e : (List.range l.length).map (fun i => l.getD i d) = l := by
    apply List.ext_getElem?
    intro i
    by_cases hi : i < l.length
    · simp [hi]
    · simp [hi]
  rw [e]
section
variable {X : Cx}
theorem call_sortedT {k : Nat} (hr : Room k X.A) : CallR X (.builtin "sorted") (fun xs H Q => ∃ (p : Addr) (as : List Addr) (cs : List (List Int)), xs = [.ref p] ∧ SqL X.K H p (as.map V.ref) ∧ Tups H as cs ∧ (∀ c ∈ cs, c ≠ []) ∧ 2 ≤ as.length ∧ as.length < 64 ∧
    ∀ l bs ds, H l = none → Tups H bs ds → ds.Perm cs → ds.Pairwise (fun c d => HT.lexLt d c = false) → Q (.ref l) (upd H l (.lst (bs.map V.ref)))) := by
  intro pins s σ H xs us Q I r h
  obtain ⟨p, as, cs, rfl, hp, ht, hne, h2, h64, q⟩ := h
  obtain ⟨u, rfl, rx⟩ := vals1 r
  cases rx
  obtain ⟨its, rv, pl, hz⟩ := I.list hp
  cases vals_refs rv
  have hcl : as.length = cs.length := ht.length
  obtain ⟨m, hm, _⟩ := id I.loc
  refine PySem.W.kat_sorted (h₀ := Att.noObjs s.heap) (L := X.env.locals) (m := m) (news := allNews (Att.noObjs s.heap) s.heap X.env.locals) (Att.fr_all hm) news_all pl.isList (by simpa using h2) (by simpa using h64) fun D e1 h' F' N' hD => ?_
  have k0 : ∀ b u, b ≠ X.env.locals → s.heap.get? b = some u → h'.get? b = some u := fun b u hb e => (N' (b, u) (List.mem_cons_of_mem _ (mem_allNews hb (Att.noObjs_get _ _) e))).1
  have hDn : s.heap.get? D = none := by
    cases e : s.heap.get? D with
    | none => rfl
    | some u => exact absurd (hD (D, u) (mem_allNews (N' (D, _) List.mem_cons_self).2.1 (Att.noObjs_get _ _) e)) (Nat.lt_irrefl _)
  obtain ⟨fs, kt, hfl, hfi⟩ := tups_kat I k0 ht hne
  refine PySem.W.kat_kind (s := { s with heap := h' }) (T := .type "int") kt (by omega) (fun v hv => ?_) rfl ?_
  · obtain ⟨i, t, rfl⟩ := hfi v hv
    exact .now
  have hl : (as.map Value.ref).length = as.length := List.length_map ..
  obtain ⟨s1, s2, s3⟩ := sort_ok (O := lexO) (key := fun i => cs.getD i []) (N := as.length) (by omega)
  rw [hl]
  refine kas_ev (lt := ltK (O := lexO) fun i => cs.getD i []) (I := fun s' => s' = { s with heap := h' }) (fun i j C s' hi hj hs hC => ?_) s1 rfl fun s' hs => ?_
  · subst hs
    obtain ⟨ci, e1, g1⟩ := ht.at (i := i) (a := as[i]) (by simp [hi])
    obtain ⟨cj, e2, g2⟩ := ht.at (i := j) (a := as[j]) (by simp [hj])
    have v1 : (as.map Value.ref).getD i Value.none = .ref as[i] := by simp [hi]
    have v2 : (as.map Value.ref).getD j Value.none = .ref as[j] := by simp [hj]
    have hne1 : as[i] ≠ X.env.locals := fun z => by rw [z, I.free] at g1; cases g1
    have hne2 : as[j] ≠ X.env.locals := fun z => by rw [z, I.free] at g2; cases g2
    obtain ⟨_, xs1, rv1, o1, ho1, _, n1, hd1⟩ := (show ObjOk X.prog X.w H s.heap as[i] (.tup (ci.map V.int)) from I.hok _ _ g1)
    obtain ⟨_, xs2, rv2, o2, ho2, _, n2, hd2⟩ := (show ObjOk X.prog X.w H s.heap as[j] (.tup (cj.map V.int)) from I.hok _ _ g2)
    unfold PySem.W.kas_ask
    rw [v1, v2]
    refine PySem.W.kat_lt (k0 _ _ hne1 ho1) hd1 (k0 _ _ hne2 ho2) hd2 ?_
    have l1 := rv1.length
    have l2 := rv2.length
    rw [List.length_map] at l1 l2
    refine katlex_ints xs1 xs2 ci cj 0 rv1 rv2 (by simp [l1, l2]) ?_
    have := hC _ rfl
    simp only [ltK, List.getD_eq_getElem?_getD, e1, e2, Option.getD_some] at this
    exact this
  · subst hs
    refine PySem.W.KasFin.intro (s := { s with heap := h' }) F' N' (.head fun p hp => Nat.ne_of_lt (hD p hp)) fun h2' c F2 N2 => ?_
    have hix : ∀ i ∈ (evT (ltK (O := lexO) fun i => cs.getD i []) (PySem.W.kas_sort as.length)).toList, i < as.length := fun i hi => by
      have := (Array.perm_iff_toList_perm.mp s2).mem_iff.mp hi
      simpa using this
    generalize hE : evT (ltK (O := lexO) fun i => cs.getD i []) (PySem.W.kas_sort as.length) = P at s2 s3 hix N2
    have hb : (P.toList.map fun i => (as.map Value.ref).getD i Value.none) = (P.toList.map fun i => as.getD i 0).map Value.ref := by
      rw [List.map_map]
      refine List.map_congr_left fun i hi => ?_
      have := hix i hi
      simp [this]
    have I' : Inv X pins σ (upd H D (.lst ((P.toList.map fun i => as.getD i 0).map V.ref))) { s with heap := h2', toks := s.toks } := by
      refine I.laidN (fun b u hb e => ?_) (fun m' hm' => ?_) hDn ?_
      · exact (N2 (b, u) (List.mem_cons_of_mem _ (mem_allNews hb (Att.noObjs_get _ _) e))).1
      · have : m' = m := ns_inj hm' hm
        rw [this]; exact F2.ns
      · have e := (N2 (D, _) List.mem_cons_self).1
        rw [hb] at e
        refine ⟨?_, _, _, vals_of_refs _, e⟩
        rw [List.length_map, List.length_map, Array.length_toList, s2.size]
        exact Nat.le_trans (Nat.le_of_lt h64) (by decide)
    refine ⟨.ref D, _, I', rfl, q D _ _ (I.hok.none_of hDn) (Paired.pick 0 [] ht _ hix) (pick_perm [] cs (by rw [← hcl]; exact s2)) ?_⟩
    rw [List.pairwise_iff_getElem]
    intro i j hi hj hij
    simp only [List.length_map, Array.length_toList] at hi hj
    have := s3 i j (Nat.le_of_lt hij) (by rw [s2.size] at hj; exact hj)
    simp only [List.getElem_map, Array.getElem_toList]
    unfold kA at this
    simp only [Array.getD_eq_getD_getElem?, Array.getElem?_eq_getElem hi, Array.getElem?_eq_getElem hj, Option.getD_some] at this
    exact this
end
section
variable {prog : Program} {w : World} {A : Around} {E : Value → Shared → Prop} {s : Shared}
theorem sort_few {l : Addr} {vs : List Value} {c : Nat} {P : Fin → Shared → Prop} (g : s.heap.get? l = some (seqObj "list" vs.toArray c)) (few : vs.length < 2) (fin : P (.done (.ret .none)) { s with heap := sortedHeap s.heap l vs vs.toArray }) :
    wpAny (model prog w) A (Builtin.«list.sort» ⟨[.ref l], []⟩) P E s := by
  have lt : l < s.heap.objs.size := Heap.lt_size g
  rw [list_sort_plain]
  apply wpAny_bind
  refine listItems_at g rfl ?_
  apply wpAny_bind
  refine listUpdate_at g rfl ?_
  obtain ⟨n1, g1⟩ : ∃ n1, (s.heap.update l (Obj.mapSeq fun _ => #[])).get? l = some (seqObj "list" #[] n1) := ⟨_, get?_update_seq g (fun _ => #[])⟩
  apply wpAny_bind
  refine seqEpoch_at g1 rfl ?_
  apply wpAny_bind
  refine wpAny_newTuple ?_ (by rw [sizeLine_eq]; simp; omega)
  apply wpAny_bind
  refine wpAny_newList ?_ (by decide)
  apply wpAny_holding
  have g6 : (((s.heap.update l (Obj.mapSeq fun _ => #[])).push (seqObj "tuple" vs.toArray 0)).push (seqObj "list" #[] 0)).get? l = some (seqObj "list" #[] n1) := by
    rw [Heap.get?_push_ne _ _ _ (Nat.ne_of_lt (by rw [size_push', Heap.size_update]; exact Nat.lt_succ_of_lt lt))]
    rw [Heap.get?_push_ne _ _ _ (Nat.ne_of_lt (by rw [Heap.size_update]; exact lt))]
    exact g1
  show wpAny (model prog w) A _ P E ({ s with heap := ((s.heap.update l (Obj.mapSeq fun _ => #[])).push (seqObj "tuple" vs.toArray 0)).push (seqObj "list" #[] 0) } : Shared)
  dsimp only
  have few' : vs.toArray.size < 2 := by simpa using few
  rw [if_pos few', if_pos few']
  apply wpAny_bind
  apply wpAny_pure
  rw [StateT.run_pure]
  apply wpAny_bind
  apply wpAny_pure
  dsimp only
  apply wpAny_bind
  refine seqEpoch_at g6 rfl ?_
  have eo : (arrOf (SortSt.mk' general' (vs.toArray.zip vs.toArray) #[] 7 none)).map (·.2) = vs.toArray := by
    show (vs.toArray.zip vs.toArray).map (·.2) = vs.toArray
    match vs, few with
    | [], _ => simp
    | [_], _ => simp
  rw [eo]
  apply wpAny_bind
  refine listUpdate_at g6 rfl ?_ (hsz2 := by rw [List.size_toArray, sizeLine_eq]; omega)
  simp only [bne_self_eq_false, Bool.false_eq_true]
  exact wpAny_pure fin
theorem sorted_few {l : Addr} {vs : List Value} {Q : Value → Shared → Prop} (g : s.heap.IsList l vs.toArray) (few : vs.length < 2) (h : Q (.ref (s.heap.objs.size + 1)) { s with heap := sortedAll s.heap vs vs.toArray }) :
    wpAny (model prog w) A (call (.builtin "sorted") [.ref l]) Q E s := by
  apply Calls.call_function_entry kind_sorted plain_sorted entry_sorted (args_sorted1 _)
  unfold Builtin.«sorted»
  refine wpAny_bind (m := checkCount "sorted" 1 1 _) ?_
  apply wpAny_pure
  apply wpAny_bind
  refine collect_list g ?_ (by rw [sizeLine_eq]; omega)
  apply wpAny_bind
  refine wpAny_newList ?_ (by rw [sizeLine_eq]; omega)
  have z : ((s.heap.push (seqObj "list" #[] 0)).update s.heap.objs.size (Obj.mapSeq (· ++ vs.toArray))).objs.size = s.heap.objs.size + 1 := (Heap.size_update ..).trans (size_push' ..)
  have gD : (((s.heap.push (seqObj "list" #[] 0)).update s.heap.objs.size (Obj.mapSeq (· ++ vs.toArray))).push (seqObj "list" vs.toArray 0)).get? (s.heap.objs.size + 1) = some (seqObj "list" vs.toArray 0) := z ▸ Heap.get?_push_size _ rfl
  show wpAny _ _ _ _ _ ({ s with heap := ((s.heap.push (seqObj "list" #[] 0)).update s.heap.objs.size (Obj.mapSeq (· ++ vs.toArray))).push (seqObj "list" vs.toArray 0) } : Shared)
  rw [z]
  apply wpAny_bind
  apply wpAny_holding
  refine wpAny_call_entry slot_list_sort ⟨_, gD, rfl⟩ entry_list_sort ?_ (args_list_sort _)
  refine sort_few gD few ⟨_, rfl, ?_⟩
  exact wpAny_pure ⟨_, rfl, h⟩
end
section
variable {X : Cx}
theorem call_sorted1 : CallR X (.builtin "sorted") (fun xs H Q => ∃ (p : Addr) (ys : List V), xs = [.ref p] ∧ SqL X.K H p ys ∧ ys.length < 2 ∧ ∀ l, H l = none → Q (.ref l) (upd H l (.lst ys))) := by
  intro pins s σ H xs us Q I r h
  obtain ⟨p, ys, rfl, hp, h2, q⟩ := h
  obtain ⟨u, rfl, rx⟩ := vals1 r
  cases rx
  obtain ⟨its, rv, pl, hz⟩ := I.list hp
  have hl := rv.length
  refine sorted_few pl.isList (by omega) ?_
  obtain ⟨e, he⟩ := sortedAll_at s.heap its its.toArray
  have hn : s.heap.get? (s.heap.objs.size + 1) = none := Heap.get?_none_of_le (Nat.le_succ _)
  refine ⟨.ref _, _, I.laidN (t' := s.toks) (a := s.heap.objs.size + 1) (o := .lst ys) (fun b u _ e => sortedAll_old e) (fun m hm => ?_) hn ⟨hz, its, e, rv, he⟩, rfl, q _ (I.hok.none_of hn)⟩
  obtain ⟨o, es, ep, ho, r⟩ := hm
  exact ⟨o, es, ep, sortedAll_old ho, r⟩
end
section
variable {X : Cx}
theorem call_sortedI {k : Nat} (hr : Room k X.A) : CallR X (.builtin "sorted") (fun xs H Q => ∃ (p : Addr) (as : List Addr) (cs : List (List Int)), xs = [.ref p] ∧ SqL X.K H p (as.map V.ref) ∧ Tups H as cs ∧ (∀ c ∈ cs, c ≠ []) ∧ as.length < 64 ∧
    ∀ l bs ds, H l = none → Tups H bs ds → ds.Perm cs → ds.Pairwise (fun c d => HT.lexLt d c = false) → Q (.ref l) (upd H l (.lst (bs.map V.ref)))) := by
  intro pins s σ H xs us Q I r h
  obtain ⟨p, as, cs, rfl, hp, ht, hne, h64, q⟩ := h
  by_cases h2 : 2 ≤ as.length
  · exact call_sortedT hr pins s σ H _ us Q I r ⟨p, as, cs, rfl, hp, ht, hne, h2, h64, q⟩
  · have hl : as.length = cs.length := ht.length
    refine call_sorted1 pins s σ H _ us Q I r ⟨p, _, rfl, hp, by rw [List.length_map]; omega, fun l hn => q l as cs hn ht (List.Perm.refl _) ?_⟩
    match cs, hl with
    | [], _ => exact .nil
    | [_], _ => exact List.pairwise_singleton _ _
    | _ :: _ :: _, hl => simp only [List.length_cons] at hl; omega
end
end L2
namespace L2
open PySem PySem.Spec PyProof.Rows
section
variable {X : Cx} {tg : Expr}
theorem pe_const {x : Str} {v : V} {pos : Pos} (hg : Gl X x) (h : ∃ u, X.mg x = some u ∧ RelV v u) (hd : (x == ("__debug__" : Str)) = false := by decide) : PE X (.Name x pos) (tC v) := by
  obtain ⟨u, hm, r⟩ := h
  exact pe_glob hg hm r hd
end
section
variable {σ : St} {H : Hp} {ta tb : TE} {x y : Str} {a b : Bool}
end
end L2
namespace L2
open PySem PySem.Spec PyProof.Rows
section
variable {X : Cx}
end
end L2
namespace L2
open PySem PySem.Spec PyProof.Rows
open AutoSeq1 (wpAny_loadPart')
section
variable {prog : Program} {w : World} {A : Around} {E : Value → Shared → Prop} {s : Shared}
end
theorem Inv.turnedLaid {X : Cx} {pins : List (Addr × Obj)} {σ : St} {H : Hp} {s : Shared} {h' : Heap} {t' : Nat} {a : Addr} {o : HO} {fp : List Addr} (I : Inv X pins σ H s) (hf : ∀ b ∈ fp, FpOk X pins H b)
    (k : ∀ b u, b ∉ fp → s.heap.get? b = some u → h'.get? b = some u) (hn : s.heap.get? a = none) (new : ObjOk X.prog X.w (upd H a o) h' a o) : Inv X pins σ (upd H a o) { s with heap := h', toks := t' } := by
  have hHa : H a = none := I.hok.none_of hn
  have trk : ∀ b u, H b = some u → b ∉ fp := fun b u e z => by rw [(hf b z).1] at e; cases e
  have nea : ∀ b u, s.heap.get? b = some u → b ≠ a := fun b u e z => by rw [z, hn] at e; cases e
  refine I.step (g' := s.gens) (d' := s.drawn) (ch := fp) (fun b hb => ⟨(hf b hb).2.2.2.1, (hf b hb).2.1, (hf b hb).2.2.2.2.1, (hf b hb).2.2.2.2.2⟩) (fun b u _ _ hc e _ => k b u hc e) (fun b u _ _ hc e _ => ⟨u.slots, k b u hc e⟩) (fun b u _ e n => by rw [upd_ne (nea b u e)]; exact n)
    (fun b u hc e => ⟨u, k b u hc e⟩) (fun b xs e => by rw [upd_ne (ne_of_none e hHa)]; exact e) (fun b u xs e => by rw [upd_ne (ne_of_none e hHa)]; exact e) (fun b ps e => ⟨#[], by rw [upd_ne (ne_of_none e hHa), e]; simp⟩) (fun m hm => ?_) (fun b u e => ?_) I.bare
  · obtain ⟨o', es, ep, ho, r⟩ := hm
    exact ⟨o', es, ep, k _ o' (fun z => (hf _ z).2.1 rfl) ho, r⟩
  · by_cases hb : b = a
    · subst hb; rw [upd_same] at e; cases e; exact new
    · rw [upd_ne hb] at e
      refine (I.hok b u e).stay (fun c v hc q => k c v ?_ q) (fun c q => by rw [upd_ne (ne_of_none q hHa)]; exact q) fun c xs q => by rw [upd_ne (ne_of_none q hHa)]; exact q
      rcases hc with rfl | hc
      · exact trk _ _ e
      · exact trk _ _ hc
section
variable {X : Cx}
theorem pg_tupK {pos : Pos} {K : PySem.W.Frag} {es : List Expr} {k : Nat} {t : TGs} {n : Nat} (hc : X.calm = true) (e : X.K = K) (h : PGs X es t)
    (hn : (assignEach es X.env).length = n) (hst : (assignEach es X.env).findIdx? (·.1) = none) : PG X (.Tuple es k pos) (gTup K n t) := by subst e; exact pg_tup hc h hn hst
end
end L2
namespace L2
open PySem PySem.Spec PyProof.Rows
def res : List (Bool × Bool) → Bool → Bool
  | [], z => z
  | (true, _) :: r, z => res r z
  | (false, b) :: _, _ => b
section
open PySem.SeqAt
open PySem.AutoSeq1 (wpAny_loadPart')
open PySem.MeetsSeq PySem.MeetsSeq2 PySem.MeetsSeq3
end
section
variable {X : Cx}
end
end L2
namespace L2
open PySem PySem.Spec PyProof.Rows
theorem one_of_nodup {α : Type} (f : α → Int) (c : Int) : ∀ (l : List α), (l.map f).Nodup → (l.filter fun x => f x == c).length ≤ 1
  | [], _ => by simp
  | a :: r, h => by
    rw [List.map_cons, List.nodup_cons] at h
    have ih := one_of_nodup f c r h.2
    by_cases e : f a = c
    · have z : (r.filter fun x => f x == c) = [] := by
        refine List.filter_eq_nil_iff.mpr fun x hx q => h.1 ?_
        rw [e]
        exact List.mem_map.mpr ⟨x, hx, by simpa using q⟩
      rw [List.filter_cons_of_pos (p := fun x => f x == c) (by simpa using e), z]
      exact Nat.le_refl _
    · rw [List.filter_cons_of_neg (p := fun x => f x == c) (by simpa using e)]
      exact ih
section
variable {prog : Program} {w : World} {A : Around} {E : Value → Shared → Prop} {s : Shared}
theorem quiet_tup {b : Addr} {Q : Bool → Shared → Prop} (hT : s.TypeIs (.ref b) "tuple") (h : Q false s) : wpAny (model prog w) A (Builtin.Dict.quietEq (.ref b)) Q E s := by
  unfold Builtin.Dict.quietEq
  refine wpAny_bind (wpAny_specialOf hT F.slot_tuple_eq.lookup (wpAny_pure ?_))
  exact h
theorem entries_tup {id : String} {d : Addr} {o : Obj} {es : Array DictEntry} {ep : Nat} {Q : Array DictEntry → Shared → Prop} (ho : s.heap.get? d = some o) (hd : o.data = .dict es ep)
    (hk : ∀ e ∈ es, ∃ b, e.key = .ref b ∧ s.TypeIs (.ref b) "tuple") (hn : (es.toList.map (·.hash)).Nodup) (h : Q es s) : wpAny (model prog w) A (Builtin.Dict.entriesForEmpty id d) Q E s := by
  unfold Builtin.Dict.entriesForEmpty
  refine wpAny_bind (wpAny_dictEntries ho hd (wpAny_bind ?_))
  rw [← Array.forIn_toList]
  refine wpAny_forIn_list _ (fun rest _ s' => s' = s ∧ ∀ e ∈ rest, e ∈ es) _ ?_ ?_ _ _ ⟨rfl, fun e he => Array.mem_toList_iff.mp he⟩
  · rintro e rest u s' ⟨rfl, hin⟩
    obtain ⟨b, eb, hT⟩ := hk e (hin e List.mem_cons_self)
    rw [eb]
    refine wpAny_bind (quiet_tup hT ?_)
    rw [if_pos (by decide)]
    have one : ¬ (es.filter (·.hash == e.hash)).size > 1 := by
      have := one_of_nodup (fun x : DictEntry => x.hash) e.hash es.toList hn
      rw [← Array.length_toList, Array.toList_filter]
      omega
    rw [if_neg one]
    exact wpAny_pure ⟨rfl, fun x hx => hin x (List.mem_cons_of_mem _ hx)⟩
  · rintro u s' ⟨rfl, _⟩
    exact wpAny_pure h
theorem merge_tup {nm : String} {d o : Addr} {od oo : Obj} {es : Array DictEntry} {ep ep' : Nat} {Q : Unit → Shared → Prop} (hdo : d ≠ o) (hoS : (o == sysModules) = false)
    (hd : s.heap.get? d = some od) (hde : od.ExactDict) (hdd : od.data = .dict #[] ep') (ho : s.heap.get? o = some oo) (hod : oo.data = .dict es ep)
    (hk : ∀ e ∈ es, ∃ b, e.key = .ref b ∧ s.TypeIs (.ref b) "tuple") (hn : (es.toList.map (·.hash)).Nodup) (hz : es.size ≤ sizeLine)
    (hQ : ∀ h', (∃ o' ep'', h'.get? d = some o' ∧ o'.ExactDict ∧ o'.data = .dict es ep'') → Heap.SameBut d s.heap h' → Q () { s with heap := h' }) :
    wpAny (model prog w) A (Builtin.Dict.mergeDict nm d o) Q E s := by
  unfold Builtin.Dict.mergeDict
  rw [if_neg (by simpa using hdo)]
  unfold Builtin.Dict.showsAll
  rw [if_neg (by rw [hoS]; exact Bool.false_ne_true)]
  refine wpAny_bind (wpAny_pure (wpAny_bind (wpAny_dictEntries ho hod ?_)))
  dsimp only
  by_cases he : es = #[]
  · subst he
    rw [if_neg (by simp)]
    refine wpAny_bind (wpAny_dictEpoch ho hod (wpAny_bind (wpAny_dictEntries ho hod (wpAny_bind ?_))))
    rw [Std.Legacy.Range.forIn_eq_forIn_range']
    exact wpAny_pure (wpAny_pure (hQ s.heap ⟨od, ep', hd, hde, hdd⟩ (Heap.SameBut.refl _ _)))
  · have few : (decide (es.size ≤ 8) && es.all fun e => (keyPart e.key).isSome) = false := by
      rw [Bool.and_eq_false_iff]
      refine .inr (Bool.eq_false_iff.mpr fun z => he ?_)
      rw [← Array.all_toList, List.all_eq_true] at z
      refine Array.eq_empty_of_size_eq_zero (Nat.eq_zero_of_not_pos fun pz => ?_)
      have hm : es[0] ∈ es := Array.getElem_mem pz
      obtain ⟨b, eb, _⟩ := hk _ hm
      have y := z _ (Array.mem_toList_iff.mpr hm)
      rw [eb] at y
      exact absurd y Bool.false_ne_true
    rw [few]
    rw [if_pos (by rfl)]
    refine wpAny_bind (wpAny_dictEntries hd hdd ?_)
    rw [if_pos (by rfl)]
    refine wpAny_bind (entries_tup ho hod hk hn ?_)
    rw [if_pos (by simpa using he)]
    exact wpAny_bind (wpAny_updateDictKeysTo hd hdd (wpAny_pure (hQ _ ⟨_, ep' + 1, Heap.get?_update_self _ hd (Obj.isFreed_of_dict (Obj.data_mapDictKeys hdd _)), hde.mapDictKeys _, Obj.data_mapDictKeys hdd _⟩ (Heap.SameBut.update ..))) (by omega))
theorem call_dict_tup {o : Addr} {oo : Obj} {es : Array DictEntry} {ep : Nat} {Q : Value → Shared → Prop} (hoS : (o == sysModules) = false) (ho : s.heap.get? o = some oo) (hoe : oo.ExactDict) (hod : oo.data = .dict es ep)
    (hk : ∀ e ∈ es, ∃ b, e.key = .ref b ∧ s.TypeIs (.ref b) "tuple") (hn : (es.toList.map (·.hash)).Nodup) (hz : es.size ≤ sizeLine)
    (h : ∀ h', (∃ o' ep'', h'.get? s.heap.objs.size = some o' ∧ o'.ExactDict ∧ o'.data = .dict es ep'') → (∀ b u, s.heap.get? b = some u → h'.get? b = some u) → Q (.ref s.heap.objs.size) { s with heap := h' }) :
    wpAny (model prog w) A (call (.type "dict") [.ref o]) Q E s := by
  refine callType_codes (Q₁ := fun v s₁ => v = .ref s.heap.objs.size ∧ s₁ = { s with heap := s.heap.push { cls := .type "dict", data := .dict #[] } }) F.kt_called_dict (F.kt_typeCall_dict_1 _) F.entry_dict_init (kt_code_dict_new _ ⟨rfl, rfl⟩) ?_
  rintro v s₁ ⟨rfl, rfl⟩
  have keep : ∀ b u, s.heap.get? b = some u → (s.heap.push { cls := .type "dict", data := .dict #[] }).get? b = some u := fun b u x => Heap.get?_push_of_some _ x
  have nT : Shared.TypeIs { s with heap := s.heap.push { cls := .type "dict", data := .dict #[] } } (.ref s.heap.objs.size) "dict" := ⟨_, Heap.get?_push_size _ rfl, rfl⟩
  have oT : Shared.TypeIs { s with heap := s.heap.push { cls := .type "dict", data := .dict #[] } } (.ref o) "dict" := ⟨oo, keep _ _ ho, hoe.1⟩
  have hlt : o < s.heap.objs.size := Heap.lt_size ho
  refine ⟨nT, F.args_dict_init_2 _ _, ?_⟩
  unfold Builtin.«dict.__init__»
  refine wpAny_bind ?_
  unfold Builtin.Dict.selfAndRest
  refine wpAny_bind (wpAny_notOrdered_dict nT ?_)
  show wpAny _ _ (pure (s.heap.objs.size, [Value.ref o])) _ _ _
  refine wpAny_pure ?_
  show wpAny _ _ (Builtin.Dict.updateFrom "dict.__init__" s.heap.objs.size (.ref o) [] .none) _ _ _
  unfold Builtin.Dict.updateFrom
  refine wpAny_bind (wpAny_typeOf oT ?_)
  rw [if_neg (by decide)]
  refine wpAny_bind ?_
  unfold Builtin.Dict.merge
  refine wpAny_bind ?_
  unfold Builtin.Dict.readDirectly
  refine wpAny_bind (wpAny_isInstance oT isSubtype_dict_dict ?_)
  simp only [Bool.not_true, Bool.false_eq_true, if_false]
  refine wpAny_bind (wpAny_specialOf oT F.slot_dict_iter.lookup (wpAny_pure ?_))
  simp only [beq_self_eq_true, if_true]
  refine wpAny_bind (wpAny_pure ?_)
  refine merge_tup (Nat.ne_of_gt hlt) hoS (Heap.get?_push_size _ rfl) ⟨rfl, rfl, rfl⟩ rfl (keep _ _ ho) hod (fun e he => ?_) hn hz fun h' new sb => ?_
  · obtain ⟨b, e1, o1, e2, e3⟩ := hk e he
    exact ⟨b, e1, o1, keep _ _ e2, e3⟩
  · exact wpAny_bind (wpAny_pure (wpAny_pure ⟨rfl, h h' new fun b u x => sb.extBut b u (Nat.ne_of_lt (Heap.lt_size x)) (keep _ _ x)⟩))
end
def HashNd (P : Program) (w : World) (kvs : List (List Key × V)) : Prop := (kvs.map fun p => tupleKeyHash (mixKind P w) p.1).Nodup
theorem KT.keys {H : Hp} {kvs : List (List Key × V)} {xs : List (List Key × Addr × Value)} (r : KT H kvs xs) : kvs.map (·.1) = xs.map (·.1) := by
  induction r with
  | nil => rfl
  | cons h _ ih => rw [List.map_cons, List.map_cons, ih, h.1]
section
variable {X : Cx} {pins : List (Addr × Obj)} {σ : St} {H : Hp} {s : Shared} {a : Addr} {A : Around} {E : Value → Shared → Prop}
theorem d_copyT {kvs : List (List Key × V)} {Q : Value → Shared → Prop} (I : Inv X pins σ H s) (e : Rd H a (.dT kvs)) (hh : HashNd X.prog X.w kvs) (h : ∀ p s', H p = none → Inv X pins σ (upd H p (.dT kvs)) s' → Q (.ref p) s') : wpAny (model X.prog X.w) A (call (.type "dict") [.ref a]) Q E s := by
  obtain ⟨z, hd, xs, rel, o, es, ep, ho, hc, hdat, he, his, hn⟩ := dt_rd I.hok e
  have hl : es.size = xs.length := size_of_entries he
  have hl' : kvs.length = xs.length := Paired.length rel
  refine call_dict_tup hd ho hc hdat (fun x hx => ?_) ?_ (by omega) fun h' new keep => ?_
  · have hm : x ∈ xs.map (entryOfKey (tupleKind (mixKind X.prog X.w))) := he ▸ Array.mem_toList_iff.mpr hx
    obtain ⟨y, hy, rfl⟩ := List.mem_map.mp hm
    obtain ⟨ob, _, _, h1, h2, _⟩ := his y hy
    exact ⟨y.2.1, rfl, ob, h1, h2⟩
  · rw [he, List.map_map]
    have : xs.map ((fun x : DictEntry => x.hash) ∘ entryOfKey (tupleKind (mixKind X.prog X.w))) = kvs.map fun p => tupleKeyHash (mixKind X.prog X.w) p.1 := by
      have e1 : xs.map ((fun x : DictEntry => x.hash) ∘ entryOfKey (tupleKind (mixKind X.prog X.w))) = (xs.map (·.1)).map (tupleKeyHash (mixKind X.prog X.w)) := by rw [List.map_map]; rfl
      rw [e1, ← rel.keys, List.map_map]; rfl
    rw [this]; exact hh
  · obtain ⟨o', ep', h1, h2, h3⟩ := new
    have fr : H s.heap.objs.size = none := I.hok.fresh (Nat.le_refl _)
    refine h _ _ fr (I.laid (a := s.heap.objs.size) (o := .dT kvs) (t' := s.toks) keep (Nat.le_refl _) ⟨z, beq_eq_false_iff_ne.mpr (Ne.symm (Nat.ne_of_lt I.big)), xs, rel.keeps fun b ys q => ?_, o', es, ep', h1, h2, h3, he, hn⟩)
    rw [upd_ne (ne_of_none q fr)]; exact q
end
def rDict (P : Program) (w : World) : List V → Hp → VK → Prop := fun xs H Q => ∃ a, xs = [.ref a] ∧
  ((∃ kvs, Rd H a (.dK kvs) ∧ ∀ p, H p = none → Q (.ref p) (upd H p (.dK kvs))) ∨ ∃ kvs, Rd H a (.dT kvs) ∧ HashNd P w kvs ∧ ∀ p, H p = none → Q (.ref p) (upd H p (.dT kvs)))
theorem call_dict {X : Cx} : CallR X (.type "dict") (rDict X.prog X.w) := by
  intro pins s σ H xs us Q I r h
  obtain ⟨a, rfl, h⟩ := h
  obtain ⟨u, rfl, ru⟩ := vals1 r
  cases ru
  rcases h with ⟨kvs, e, q⟩ | ⟨kvs, e, hh, q⟩
  · exact d_copyOf I e fun p s' hp I' => ⟨.ref p, _, I', rfl, q p hp⟩
  · exact d_copyT I e hh fun p s' hp I' => ⟨.ref p, _, I', rfl, q p hp⟩
section
variable {prog : Program} {w : World} {K : Type} [DecidableEq K] {knd : HeapKind prog w K} {A : Around} {E : Value → Shared → Prop} {s : Shared}
end
section
variable {X : Cx}
end
section
variable {prog : Program} {w : World} {A : Around} {E : Value → Shared → Prop} {s : Shared} {I : Addr} {fp wr : List Addr} {G : Array GenState → Array GenState → Prop} {n : Nat} {P : Nat → Value → Prop} {St : Nat → Shared → Prop}
end
theorem Room.one {k : Nat} {A : Around} (r : Room k A) : A.units + 1 < cLine := by have := r.un; omega
end L2
namespace L2
open PySem PySem.Spec PyProof.Rows
section
variable {X : Cx} {pins : List (Addr × Obj)} {σ : St} {H : Hp} {s : Shared} {d : Addr} {u : HO} {o : Obj}
theorem ObjOk.upd {P : Program} {w : World} {h : Heap} {b : Addr} {x v : HO} (ok : ObjOk P w H h b x) (nt : ∀ xs, H d ≠ some (.tup xs)) (no : ∀ y, H d ≠ some (.own y)) : ObjOk P w (L2.upd H d v) h b x :=
  ok.stay (fun _ _ _ q => q) (fun c q => by rw [upd_ne (fun z => by rw [z] at q; exact no _ q)]; exact q) fun c xs q => by rw [upd_ne (fun z => by rw [z] at q; exact nt _ q)]; exact q
theorem Inv.freeze (I : Inv X pins σ H s) (e : H d = some u) (mu : Mut (some u)) : ∃ o, Inv X pins σ (upd H d (.frz o u)) s ∧ s.heap.get? d = some o := by
  have ok := I.hok d u e
  obtain ⟨o, ho⟩ : ∃ o, s.heap.get? d = some o := by
    cases u with
    | lst xs => obtain ⟨_, _, _, _, z⟩ := ok; exact ⟨_, z⟩
    | dK kvs => obtain ⟨_, _, _, _, o, _, _, z, _⟩ := ok; exact ⟨o, z⟩
    | dT kvs => obtain ⟨_, _, _, _, o, _, _, z, _⟩ := ok; exact ⟨o, z⟩
    | set S n => obtain ⟨o, _, _, _, z, _⟩ := ok; exact ⟨o, z⟩
    | ins C dx fs => obtain ⟨_, _, _, z, _⟩ := ok; exact ⟨_, z⟩
    | ext φ => obtain ⟨_, z, _⟩ := ok; exact z
    | _ => exact mu.elim
  have mu' : Mut (H d) := by rw [e]; exact mu
  refine ⟨o, I.write (t' := s.toks) (h' := s.heap) (x := d) (e := d) (o := .frz o u) mu' (.inl rfl) (fun b v _ q => q) ⟨o, ho⟩ ⟨ho, ?_⟩, ho⟩
  exact ok.upd (fun xs z => by rw [z] at mu'; exact mu') (fun y z => by rw [z] at mu'; exact mu')
theorem Inv.thaw (I : Inv X pins σ H s) (e : H d = some (.frz o u)) (nb : ∀ o' u', X.H₀ d ≠ some (.frz o' u')) : Inv X pins σ (upd H d u) s := by
  have ne : ∀ b, H b = none → b ≠ d := fun b n z => by rw [z, e] at n; cases n
  have nt : ∀ xs, H d ≠ some (.tup xs) := fun xs z => by rw [e] at z; cases z
  have no : ∀ y, H d ≠ some (.own y) := fun y z => by rw [e] at z; cases z
  have B := I.base
  refine ⟨I.ok, I.os, I.bare, ⟨B.keep, B.slot, fun b v q n hx => ?_, B.there, fun b xs q => ?_, fun b v w q => ?_, fun b ps q => ?_⟩, I.loc, I.cell, ?_, fun x c q => ?_, fun p hp => ?_, fun b v q => ?_, I.len⟩
  · have := B.free b v q n hx
    rw [upd_ne (ne b this)]; exact this
  · have := B.tups b xs q
    rw [upd_ne (fun z => by rw [z] at this; exact nt _ this)]; exact this
  · have := B.frzs b v w q
    rw [upd_ne (fun z => by rw [z] at q; exact nb _ _ q)]; exact this
  · obtain ⟨more, this⟩ := B.tbls b ps q
    exact ⟨more, by rw [upd_ne (fun z => by rw [z, e] at this; cases this)]; exact this⟩
  · rw [upd_ne (ne _ I.free)]; exact I.free
  · rw [upd_ne (ne _ (I.freeC x c q))]; exact I.freeC x c q
  · obtain ⟨h1, h2, h3⟩ := I.pin p hp
    exact ⟨h1, by rw [upd_ne (ne _ h2)]; exact h2, h3⟩
  · by_cases hb : b = d
    · subst hb
      rw [upd_same] at q; cases q
      obtain ⟨_, z⟩ := I.hok b _ e
      exact z.upd nt no
    · rw [upd_ne hb] at q
      exact (I.hok b v q).upd nt no
end
def frzD (D : Ends) (d : Addr) (o : Obj) (u : HO) : Ends :=
  ⟨fun σ1 H1 => H1 d = some (.frz o u) ∧ D.nx σ1 (upd H1 d u), fun v H1 => H1 d = some (.frz o u) ∧ D.rt v (upd H1 d u), fun σ1 H1 => H1 d = some (.frz o u) ∧ D.bk σ1 (upd H1 d u), fun σ1 H1 => H1 d = some (.frz o u) ∧ D.ct σ1 (upd H1 d u)⟩
def tFrz (t : TS) : TS := fun D σ H => ∃ d u, H d = some u ∧ Mut (some u) ∧ ∀ o, t (frzD D d o u) σ (upd H d (.frz o u))
theorem ps_frz {X : Cx} {a : Stmt} {t : TS} (h : PS X a t) : PS X a (tFrz t) := by
  intro pins s σ H D I ht
  obtain ⟨d, u, e, mu, q⟩ := ht
  have nb : ∀ o' u', X.H₀ d ≠ some (.frz o' u') := fun o' u' z => by
    have := I.base.frzs d o' u' z
    rw [e] at this; cases this; exact mu
  obtain ⟨o, I1, _⟩ := I.freeze e mu
  refine thn (h pins s σ _ _ I1 (q o)) fun f s' hf => ?_
  cases f with
  | next => obtain ⟨σ', H', I', e', k⟩ := hf; exact ⟨σ', _, I'.thaw e' nb, k⟩
  | brk => obtain ⟨σ', H', I', e', k⟩ := hf; exact ⟨σ', _, I'.thaw e' nb, k⟩
  | cont => obtain ⟨σ', H', I', e', k⟩ := hf; exact ⟨σ', _, I'.thaw e' nb, k⟩
  | ret v => obtain ⟨x, σ', H', I', r, e', k⟩ := hf; exact ⟨x, σ', _, I'.thaw e' nb, r, k⟩
def szU : HO → Nat
  | .dK kvs => kvs.length
  | .dT kvs => kvs.length
  | _ => 0
def DictU : HO → Prop
  | .dK _ => True
  | .dT _ => True
  | _ => False
def KeyAt (H : Hp) : HO → Nat → V → V → Prop
  | .dK kvs, i, x, v => ∃ k, kvs[i]? = some (k, v) ∧ x = kV k
  | .dT kvs, i, x, v => ∃ k b, kvs[i]? = some (k, v) ∧ x = .ref b ∧ H b = some (.tup (k.map kV))
  | _, _, _, _ => False
theorem paired_get {α β : Type} {R : α → β → Prop} : ∀ {xs : List α} {ys : List β} (_ : Paired R xs ys) (i : Nat) (hi : i < ys.length), ∃ x, xs[i]? = some x ∧ R x ys[i]
  | _, _, .nil, i, hi => absurd hi (Nat.not_lt_zero _)
  | _, _, .cons r _, 0, _ => ⟨_, rfl, r⟩
  | _, _, .cons _ t, i + 1, hi => by
    obtain ⟨x, h1, h2⟩ := paired_get t i (by simpa using hi)
    exact ⟨x, by simpa using h1, by simpa using h2⟩
theorem raw_of {P : Program} {w : World} {H : Hp} {h : Heap} {d : Addr} {o : Obj} {u : HO} (ok : HOk P w H h) (e : H d = some (.frz o u)) (hu : DictU u) : (d == sysModules) = false ∧ h.get? d = some o ∧ o.ExactDict ∧
    ∃ es ep, o.data = .dict es ep ∧ es.size = szU u ∧ ∀ i (hi : i < es.size), ∃ x v, KeyAt H u i x v ∧ RelV x es[i].key ∧ RelV v es[i].val := by
  obtain ⟨ho, k⟩ := ok d _ e
  cases u with
  | dK kvs =>
    obtain ⟨z, hs, vs, rel, o', es, ep, h1, h2, h3, h4, h5, h6⟩ := k
    rw [ho] at h1; cases h1
    have hl : es.size = vs.length := by rw [← h5.length]; simp
    refine ⟨hs, ho, h2, es, ep, h3, by rw [hl, ← rel.length]; rfl, fun i hi => ?_⟩
    obtain ⟨p, hp, e1, r1⟩ := paired_get rel i (by omega)
    obtain ⟨q1, q2⟩ := h5.get? (i := i) (e := es[i]) (k := vs[i].1) (v := vs[i].2) (by simp [hi]) (by rw [List.getElem?_eq_getElem])
    refine ⟨kV p.1, p.2, ⟨p.1, hp, rfl⟩, ?_, by rw [q2]; exact r1⟩
    rw [← e1] at q1
    rcases keyIs_shape q1 with ⟨j, t, ek, ev⟩ | ⟨j, t, ek, ev⟩ <;> rw [ek, ev] <;> exact ⟨t, rfl⟩
  | dT kvs =>
    obtain ⟨z, hs, xs, rel, o', es, ep, h1, h2, h3, h4, h5⟩ := k
    rw [ho] at h1; cases h1
    have hl : es.size = xs.length := size_of_entries h4
    refine ⟨hs, ho, h2, es, ep, h3, by rw [hl, ← Paired.length rel]; rfl, fun i hi => ?_⟩
    obtain ⟨p, hp, e1, e2, r1⟩ := paired_get rel i (by omega)
    have ee : es[i] = entryOfKey (tupleKind (mixKind P w)) xs[i] := by
      have := entry_at h4 i
      rw [List.getElem?_eq_getElem (by omega), Array.getElem?_eq_getElem hi] at this
      exact Option.some.inj this
    refine ⟨.ref xs[i].2.1, p.2, ⟨p.1, _, hp, rfl, e2⟩, ?_, ?_⟩
    · rw [ee]; rfl
    · rw [ee]; exact r1
  | _ => exact hu.elim
section
variable {prog : Program} {w : World} {A : Around} {E : Value → Shared → Prop} {s : Shared} {d it : Addr} {o : Obj} {es : Array DictEntry} {i ep : Nat}
theorem rk_iter {Q : Value → Shared → Prop} (hd : (d == sysModules) = false) (ho : s.heap.get? d = some o) (hc : o.ExactDict) (hdat : o.data = .dict es ep)
    (hQ : Q (.ref s.heap.objs.size) { s with heap := s.heap.push { cls := .type "dict_keyiterator", data := .fields #[.ref d, .int 0 0, .int es.size 0, .int ep 0] } }) : wpAny (model prog w) A (pyIter (.ref d)) Q E s := by
  have hT : s.TypeIs (.ref d) "dict" := ⟨o, ho, hc.1⟩
  refine wpAny_pyIter_slot hT F.slot_dict_iter (wpAny_call_entry F.slot_dict_iter hT F.entry_dict_iter ?_ (F.args_dict_iter_1 _))
  unfold Builtin.«dict.__iter__» Builtin.Dict.dictSlotNone
  refine wpAny_bind (wpAny_bind (wpAny_notOrdered_dict hT ?_))
  show wpAny _ _ (pure (Value.ref d)) _ _ s
  refine wpAny_pure ?_
  show wpAny _ _ (Builtin.Dict.showsAll d >>= _) _ _ s
  unfold Builtin.Dict.showsAll
  rw [if_neg (by rw [hd]; exact Bool.false_ne_true)]
  refine wpAny_bind (wpAny_pure (wpAny_bind (wpAny_dictEntries ho hdat (wpAny_bind (wpAny_dictEpoch ho hdat ?_)))))
  refine wpAny_bind (wpAny_newObj_type (wpAny_pure ⟨_, rfl, "dict_keyiterator", _, ⟨_, Heap.get?_push_size _ rfl, rfl⟩, F.slot_dict_keyiterator_next.lookup, ?_⟩))
  simpa [rawInt] using hQ
theorem rk_next {Q : Option Value → Shared → Prop} (hit : s.heap.IsKeyIter it d i es.size ep) (hod : s.heap.get? d = some o) (hdd : o.data = .dict es ep) (hi : i < es.size)
    (hQ : ∀ h', h'.IsKeyIter it d (i + 1) es.size ep → Heap.SameBut it s.heap h' → Q (some es[i].key) { s with heap := h' }) : wpAny (model prog w) A (pyNext (.ref it)) Q E s := by
  obtain ⟨oi, ho, hc, hd⟩ := id hit
  unfold pyNext
  refine wpAny_bind (wpAny_attempt (wpAny_callSpecial?_slot (name := Str.ofString "__next__") hit.typeIs F.slot_dict_keyiterator_next
    (wpAny_call_entry F.slot_dict_keyiterator_next hit.typeIs F.entry_dict_keyiterator_next ?_ (F.args_dict_keyiterator_next_1 _))))
  refine wpAny_bind (wpAny_pure (wpAny_bind (wpAny_bind ?_)))
  first | refine wpAny_bind (wpAny_typeNameOfWhole_keyiter hit.typeIs (wpAny_pure ?_)) | refine wpAny_bind (wpAny_typeNameOf_keyiter hit.typeIs (wpAny_pure ?_))
  refine wpAny_bind (wpAny_fieldsOf ho hd ?_)
  simp only [show Builtin.Dict_items.ownsTuple "dict_keyiterator" = false by decide, Bool.false_eq_true, if_false]
  show wpAny _ _ (if (Value.ref d == Value.none) = true then _ else _) _ _ s
  rw [if_neg (show ¬ ((Value.ref d == Value.none) = true) from Bool.false_ne_true)]
  refine wpAny_bind (wpAny_pure (wpAny_bind (wpAny_dictEntries hod hdd ?_)))
  rw [if_neg (by simp)]
  refine wpAny_bind (wpAny_pure (wpAny_bind (wpAny_dictEpoch hod hdd ?_)))
  rw [if_neg (by simp)]
  refine wpAny_pure ?_
  simp only [show ¬ ((i : Int) < 0) from by omega, if_false, Int.toNat_natCast, Array.getElem?_eq_getElem hi]
  refine wpAny_bind ?_
  first | refine wpAny_bind (wpAny_typeNameOfWhole_keyiter hit.typeIs (wpAny_pure ?_)) | refine wpAny_bind (wpAny_typeNameOf_keyiter hit.typeIs (wpAny_pure ?_))
  refine wpAny_bind (wpAny_isOneOf_keyiter hit.typeIs ?_)
  show wpAny _ _ (setField (.ref it) 1 (rawInt ((i : Int) + 1)) >>= _) _ _ s
  refine wpAny_bind (wpAny_setField ho hd (by simp) ?_)
  have new : (s.heap.update it (Obj.mapFields (·.setIfInBounds 1 (rawInt ((i : Int) + 1))))).IsKeyIter it d (i + 1) es.size ep :=
    ⟨_, Heap.get?_update_self _ ho (Obj.isFreed_of_fields (Obj.data_mapFields hd _)), (Obj.cls_mapFields ..).trans hc, by rw [Obj.data_mapFields hd]; simp [rawInt]⟩
  refine wpAny_bind (wpAny_holding (wpAny_bind (wpAny_isOneOf_keyiter (s := { s with heap := s.heap.update it (Obj.mapFields (·.setIfInBounds 1 (rawInt ((i : Int) + 1)))) }) new.typeIs ?_)))
  show wpAny _ _ (pure es[i].key) _ _ _
  exact wpAny_pure (wpAny_pure ⟨_, rfl, wpAny_pure (hQ _ new (Heap.SameBut.update ..))⟩)
theorem rk_end {Q : Option Value → Shared → Prop} (hh : A.handled = none) (hit : s.heap.IsKeyIter it d i es.size ep) (hod : s.heap.get? d = some o) (hdd : o.data = .dict es ep) (hi : es.size ≤ i)
    (hQ : ∀ h', Heap.ExtBut it s.heap h' → Q none { s with heap := h' }) : wpAny (model prog w) A (pyNext (.ref it)) Q E s := by
  obtain ⟨oi, ho, hc, hd⟩ := id hit
  unfold pyNext
  refine wpAny_bind (wpAny_attempt (wpAny_callSpecial?_slot (name := Str.ofString "__next__") hit.typeIs F.slot_dict_keyiterator_next
    (wpAny_call_entry F.slot_dict_keyiterator_next hit.typeIs F.entry_dict_keyiterator_next ?_ (F.args_dict_keyiterator_next_1 _))))
  refine wpAny_bind (wpAny_pure (wpAny_bind (wpAny_bind ?_)))
  first | refine wpAny_bind (wpAny_typeNameOfWhole_keyiter hit.typeIs (wpAny_pure ?_)) | refine wpAny_bind (wpAny_typeNameOf_keyiter hit.typeIs (wpAny_pure ?_))
  refine wpAny_bind (wpAny_fieldsOf ho hd ?_)
  simp only [show Builtin.Dict_items.ownsTuple "dict_keyiterator" = false by decide, Bool.false_eq_true, if_false]
  show wpAny _ _ (if (Value.ref d == Value.none) = true then _ else _) _ _ s
  rw [if_neg (show ¬ ((Value.ref d == Value.none) = true) from Bool.false_ne_true)]
  refine wpAny_bind (wpAny_pure (wpAny_bind (wpAny_dictEntries hod hdd ?_)))
  rw [if_neg (by simp)]
  refine wpAny_bind (wpAny_pure (wpAny_bind (wpAny_dictEpoch hod hdd ?_)))
  rw [if_neg (by simp)]
  refine wpAny_pure ?_
  simp only [show ¬ ((i : Int) < 0) from by omega, if_false, Int.toNat_natCast, Array.getElem?_eq_none hi]
  refine wpAny_bind ?_
  first | refine wpAny_bind (wpAny_typeNameOfWhole_keyiter hit.typeIs (wpAny_pure ?_)) | refine wpAny_bind (wpAny_typeNameOf_keyiter hit.typeIs (wpAny_pure ?_))
  show wpAny _ _ (setField (.ref it) 0 .none >>= _) _ _ s
  refine wpAny_bind (wpAny_setField ho hd (by simp) ?_)
  show wpAny _ _ (newExc (.type "StopIteration") [] >>= _) _ _ _
  refine wpAny_bind ?_
  simp only [newExc, newTuple]
  refine wpAny_bind (wpAny_newObj_type ?_ (by size_fits))
  refine wpAny_bind (m := firstArgMember _ _) (wpAny_of_eq (a := Value.none) (by first | rfl | (simp only [firstArgMember]; rfl)) (wpAny_newObj_type ?_ (by size_fits)))
  simp only [raiseNew]
  refine wpAny_bind (wpAny_handled ?_)
  rw [show A.in1.handled = none from hh]
  refine wpAny_bind (wpAny_pure (wpAny_throw ?_))
  refine wpAny_bind (wpAny_isInstance (T := "StopIteration") (b := true) ⟨_, Heap.get?_push_size _ rfl, rfl⟩ isSubtype_stop ?_)
  exact wpAny_pure (hQ _ (((Heap.SameBut.update ..).extBut.push _).push _))
end
def Itk (d : Addr) (o : Obj) (u : HO) : It :=
  ⟨fun i H => H d = some (.frz o u) ∧ i < szU u, fun i H x H' => H' = H ∧ ∃ v, KeyAt H u i x v, fun i H => H d = some (.frz o u) ∧ szU u ≤ i⟩
theorem keyiter_at {h h' : Heap} {it d : Addr} {i n ep : Nat} (x : h.IsKeyIter it d i n ep) (k : ∀ o, h.get? it = some o → h'.get? it = some o) : h'.IsKeyIter it d i n ep := let ⟨o, ho, r⟩ := x; ⟨o, k _ ho, r⟩
theorem turn_keys {P : Program} {w : World} {K : PySem.W.Frag} {tg : Expr} (d it : Addr) (o : Obj) (u : HO) (hu : DictU u) (es : Array DictEntry) (ep : Nat) (hd : o.data = .dict es ep) :
    Turn P w K tg (Itk d o u) [it] it (fun i h => h.IsKeyIter it d i es.size ep) where
  mem := by simp
  obj := fun i h st b hb => by
    rw [List.mem_singleton.mp hb]
    obtain ⟨oi, e, c, q⟩ := st
    exact ⟨oi, e, fun v z => by rw [q] at z; cases z⟩
  keep := fun i h h' st k => keyiter_at st fun oi e => k it (by simp) oi e
  item := by
    intro X hP hw hK hc i pins s σ H E I hf st hg
    subst hP hw hK
    obtain ⟨hH, hi⟩ := hg
    obtain ⟨_, hod, _, es', ep', hd', hz, hall⟩ := raw_of I.hok hH hu
    rw [hd] at hd'; cases hd'
    obtain ⟨f0, f1, f2, f3, f4, f5⟩ := hf it (by simp)
    have hi' : i < es.size := by omega
    obtain ⟨x, v, hk, r1, r2⟩ := hall i hi'
    refine rk_next st hod hd hi' fun h' st' sb => ?_
    have I1 : Inv X pins σ H { s with heap := h' } := I.turned (t' := s.toks) (fun b ob hb e => (sb.2 b hb).trans e) f0 f1 f3 f4 f5
    obtain ⟨oi, e, c, q⟩ := id st'
    exact ⟨_, rfl, go_of (s := { s with heap := h' }) e c q (by decide) ⟨x, H, I1, r1, ⟨rfl, v, hk⟩, st', fun b hb => (hf b hb).1⟩⟩
  done := by
    intro X hP hw hK hc i pins s σ H E I hf st hg
    subst hP hw hK
    obtain ⟨hH, hi⟩ := hg
    obtain ⟨_, hod, _, es', ep', hd', hz, hall⟩ := raw_of I.hok hH hu
    rw [hd] at hd'; cases hd'
    obtain ⟨f0, f1, f2, f3, f4, f5⟩ := hf it (by simp)
    exact rk_end (I.ok.hd hc) st hod hd (by omega) fun h' eb => ⟨rfl, I.turned (t' := s.toks) (fun b ob hb e => eb b ob hb e) f0 f1 f3 f4 f5⟩
  self := fun A i s Q E st h => by
    refine wpAny_pyIter_slot st.typeIs F.slot_dict_keyiterator_iter (wpAny_call_entry F.slot_dict_keyiterator_iter st.typeIs F.entry_dict_keyiterator_iter ?_ (F.args_dict_keyiterator_iter_1 _))
    show wpAny _ _ (ret (.ref it)) _ _ s
    exact wpAny_pure ⟨_, rfl, "dict_keyiterator", _, st.typeIs, F.slot_dict_keyiterator_next.lookup, h⟩
def iKeys (te : TE) : TI := fun σ H R => te σ H fun x H1 => ∃ d o u, x = .ref d ∧ H1 d = some (.frz o u) ∧ DictU u ∧ R (Itk d o u) H1
theorem pi_keys {X : Cx} {tg e : Expr} {te : TE} (he : PE X e te) : PI X tg e (iKeys te) := by
  intro pins s σ H R I h
  refine thn (he pins s σ H _ I h) fun v s1 ⟨x, H1, I1, r, d, o, u, ex, hd, hu, q⟩ => ?_
  subst ex
  cases (show v = Value.ref d from r)
  obtain ⟨hS, hod, hc, es, ep, hdd, hz, _⟩ := raw_of I1.hok hd hu
  refine rk_iter hS hod hc hdd ?_
  have kk : ∀ b ob, s1.heap.get? b = some ob → (s1.heap.push { cls := .type "dict_keyiterator", data := .fields #[.ref d, .int 0 0, .int es.size 0, .int ep 0] }).get? b = some ob := fun b ob z => Heap.get?_push_of_some _ z
  refine ⟨s1.heap.objs.size, [s1.heap.objs.size], _, _, H1, rfl, I1.kept (t' := s1.toks) kk, turn_keys d _ o u hu es ep hdd, ⟨_, Heap.get?_push_size _ rfl, rfl, rfl⟩, fun b hb => ?_, q⟩
  rw [List.mem_singleton.mp hb]
  exact I1.fpOk (Nat.le_refl _) (I1.hok.fresh (Nat.le_refl _))
section
variable {prog : Program} {w : World} {A : Around} {E : Value → Shared → Prop} {s : Shared} {d it v : Addr} {o : Obj} {es : Array DictEntry} {i ep : Nat} {ok ov : Value}
end
theorem for_keys {d : Addr} {o : Obj} {u : HO} {g : TG} {tb : TS} {D : Ends} {σ : St} {H : Hp} (Pv : Nat → St → Hp → Prop) (h0 : Pv 0 σ H) (hl : ∀ i σ H, i ≤ szU u → Pv i σ H → H d = some (.frz o u))
    (hs : ∀ i x v σ H, KeyAt H u i x v → i < szU u → Pv i σ H → g x σ H fun σ2 H2 => tb { D with nx := Pv (i + 1), ct := Pv (i + 1), bk := D.nx } σ2 H2) (hd : ∀ σ H, Pv (szU u) σ H → D.nx σ H) :
    ∃ W : Nat → Nat → St → Hp → Prop, (∃ m, W 0 m σ H) ∧ ∀ i m σ H, W i m σ H →
      ((Itk d o u).stop i H ∧ D.nx σ H) ∨ ((Itk d o u).go i H ∧ ∃ N : St → Hp → Prop, (∀ σ' H', N σ' H' → ∃ m', m' < m ∧ W (i + 1) m' σ' H') ∧ ∀ x H', (Itk d o u).yld i H x H' → g x σ H' fun σ2 H2 => tb { D with nx := N, ct := N, bk := D.nx } σ2 H2) := by
  refine ⟨fun i m σ H => m = szU u - i ∧ i ≤ szU u ∧ Pv i σ H, ⟨szU u, by simp, Nat.zero_le _, h0⟩, ?_⟩
  rintro i m σ H ⟨rfl, hi, p⟩
  have q := hl i σ H hi p
  by_cases hlt : i < szU u
  · refine .inr ⟨⟨q, hlt⟩, Pv (i + 1), fun σ' H' p' => ⟨szU u - (i + 1), by omega, rfl, hlt, p'⟩, fun x H' y => ?_⟩
    obtain ⟨e, v, k⟩ := y
    subst e
    exact hs i x v σ _ k hlt p
  · have e : i = szU u := by omega
    subst e
    exact .inl ⟨⟨q, Nat.le_refl _⟩, hd σ H p⟩
end L2
namespace L2
open PySem PySem.Spec PyProof.Rows
section
variable {X : Cx}
end
section
variable {prog : Program} {w : World} {A : Around} {E : Value → Shared → Prop} {s : Shared} {d : Addr} {o : Obj} {es : Array DictEntry} {ep : Nat}
end
section
variable {X : Cx}
end
section
variable {X : Cx}
end
end L2
namespace L2
open PySem PySem.Spec PyProof.Rows
section
variable {prog : Program} {w : World} {A : Around} {E : Value → Shared → Prop} {s : Shared}
end
section
variable {prog : Program} {w : World} {A : Around} {R : Result → Shared → Prop} {I : Addr} {fp wr : List Addr} {G : Array GenState → Array GenState → Prop} {n : Nat} {P : Nat → Value → Prop} {St : Nat → Shared → Prop}
end
end L2
namespace L2
open PySem PySem.Spec PyProof.Rows
end L2
namespace L2
open PySem PySem.Spec PyProof.Rows
end L2
namespace L2
open PySem PySem.Spec PyProof.Rows
section
variable {X : Cx} {C : Addr} {k : Nat} {ps : List Str} {sp : Sp} {m : Str} {pos apos : Pos} {e o : Expr} {es : List Expr} {t : TA}
end
structure FunD (K : PySem.W.Frag) (x qual : Str) (st : Stmt) (f : Addr) (fd : FuncData) : Prop where
  ex : ∃ (oc : Value) (od : Option Addr) (dV kV doc pm : Value) (an : Option Addr) (cdv ct : Value) (osl : Array (Option Value)),
    fd = PySem.W.fnOf x qual (defArgs st) (defBody st) (defScope st) dV kV doc pm an cdv ct ∧ K.lookup f = some ⟨oc, od, .func fd, osl⟩ ∧ PySem.W.codeIn K cdv qual = true
section
variable {P : Program} {w : World} {K : PySem.W.Frag} {mg : Str → Option Value} {base : Heap}
theorem FunD.ok {x qual : Str} {st : Stmt} {f : Addr} {fd : FuncData} {N ps : List Str} {k : Nat} {sp : Sp} (F : FunD K x qual st f fd) (S : FnScope N ps (defScope st)) (len : ∀ vs H Q E, sp vs H Q E → vs.length = ps.length)
    (hbody : ∀ (cdv : Value) (A : Around) (outer : List Env) (s : Shared) (H : Hp) (vs : List V) (Q : VK) (E : XK), Room k (A.deeper (envOfC qual (defScope st) s.heap.objs.size f cdv)) → sp vs H Q E →
      ∃ t, PSs (cxOf CX0 P w K mg base N qual (defScope st) f cdv A outer s H E).nox (defBody st) t ∧ t { nx := fun _ H' => Q .non H', rt := Q } (start N vs) H) : FnOk P w K mg base CX0 (k + 1) f fd ps sp := by
  obtain ⟨oc, od, dV, kV, doc, pm, an, cdv, ct, osl, rfl, lk, hcd⟩ := F.ex
  refine fn_of lk hcd S len fun A outer s H vs Q E hr hsp => ?_
  obtain ⟨t, h, q⟩ := hbody cdv A outer s H vs Q E hr hsp
  exact ⟨t, h.nox, q⟩
theorem fund_mk {x qual : Str} {st : Stmt} {f : Addr} {oc : Value} {od an : Option Addr} {osl : Array (Option Value)} {dV kV doc pm cdv ct : Value} (l : K.lookup f = some ⟨oc, od, .func (PySem.W.fnOf x qual (defArgs st) (defBody st) (defScope st) dV kV doc pm an cdv ct), osl⟩)
    (c : PySem.W.codeIn K cdv qual = true) : FunD K x qual st f (PySem.W.fnOf x qual (defArgs st) (defBody st) (defScope st) dV kV doc pm an cdv ct) := ⟨⟨oc, od, dV, kV, doc, pm, an, cdv, ct, osl, rfl, l, c⟩⟩
end
end L2
namespace L2
open PySem PySem.Spec PyProof.Rows
theorem sub_attr : isSubtype (.type "AttributeError") (.type "AttributeError") = pure true := by rw [isSubtype_type]; kernel_rfl
section
variable {prog : Program} {w : World} {A : Around} {h : Heap} {g : Array GenState} {d : Drawn} {t : Nat} {os : OsState} {a : Addr}
abbrev excA (T : Addr) : Obj := { cls := .type "AttributeError", data := .fields #[.ref T, .none, .none, .none, .bool false, .none, unsetMember, unsetMember] }
theorem note_attr {e T : Addr} {nm : Value} {Q : Unit → Shared → Prop} {E : Value → Shared → Prop} (hx : h.get? e = some (excA T))
    (hq : ∀ h', Heap.SameBut e h h' → Shared.TypeIs ⟨h', g, d, t, os⟩ (.ref e) "AttributeError" → Q () ⟨h', g, d, t, os⟩) : wpAny (model prog w) A (noteAttr (.ref e) (.ref a) nm) Q E ⟨h, g, d, t, os⟩ := by
  have hT : (⟨h, g, d, t, os⟩ : Shared).TypeIs (.ref e) "AttributeError" := ⟨_, hx, rfl⟩
  unfold noteAttr lacksNameAndObj
  refine wpAny_bind (wpAny_bind (wpAny_isInstance hT sub_attr ?_))
  rw [if_neg (by decide)]
  refine wpAny_bind (wpAny_load hx ?_)
  dsimp only
  rw [if_neg (by with_unfolding_all exact Bool.false_ne_true), if_neg (by with_unfolding_all exact Bool.false_ne_true)]
  refine wpAny_pure ?_
  rw [if_pos rfl]
  refine wpAny_bind (wpAny_rule (wpAny_bind (wpAny_typeOf hT ?_)))
  dsimp only
  unfold layMembers
  refine wpAny_bind (wpAny_load hx ?_)
  dsimp only
  refine wpAny_update hx ?_
  refine hq _ (Heap.SameBut.update ..) ⟨_, Heap.get?_update_self _ hx (by rfl), by rfl⟩
theorem raise_attr {α : Type} {name msg : Str} {Q : α → Shared → Prop} {E : Value → Shared → Prop} (hh : A.handled = none) (hm : msg.length ≤ sizeLine)
    (hE : ∀ e h' tk, (∀ b u, h.get? b = some u → h'.get? b = some u) → Shared.TypeIs ⟨h', g, d, tk, os⟩ (.ref e) "AttributeError" → E (.ref e) ⟨h', g, d, tk, os⟩) :
    wpAny (model prog w) A (raiseAttrError (.ref a) name msg) Q E ⟨h, g, d, t, os⟩ := by
  unfold raiseAttrError
  refine wpAny_bind (wpAny_mkStr (hx := hm) ?_)
  refine wpAny_bind ?_
  simp only [newExc, newTuple]
  refine wpAny_bind (wpAny_newObj_type ?_ (by size_fits))
  refine wpAny_bind (m := firstArgMember _ _) (wpAny_of_eq (a := Value.none) (by first | rfl | (simp only [firstArgMember]; rfl)) ?_)
  refine wpAny_newObj_type ?_ (by first | size_fits | decide)
  refine wpAny_bind (wpAny_mkText (wpAny_bind ?_))
  have e1 : h.objs.size < (h.push { cls := .type "tuple", data := .seq #[Value.str msg t] }).objs.size := by rw [Heap.size_push]; exact Nat.lt_succ_self _
  have k1 : ∀ b u, h.get? b = some u → (h.push { cls := .type "tuple", data := .seq #[Value.str msg t] }).get? b = some u := fun b u z => Heap.get?_push_of_some _ z
  revert e1 k1
  show _ → _ → wpAny _ _ (noteAttr (.ref (h.push { cls := .type "tuple", data := .seq #[Value.str msg t] }).objs.size) (.ref a) (.str name (t + 1))) _ _ ⟨(h.push { cls := .type "tuple", data := .seq #[Value.str msg t] }).push (excA h.objs.size), g, d, t + 1 + 1, os⟩
  generalize h.push { cls := .type "tuple", data := .seq #[Value.str msg t] } = h1
  intro e1 k1
  refine note_attr (Heap.get?_push_size _ rfl) fun h' sb hT => ?_
  simp only [raiseNew]
  refine wpAny_bind (wpAny_handled ?_)
  rw [hh]
  refine wpAny_bind (wpAny_pure (wpAny_throw ?_))
  exact hE _ h' _ (fun b u z => by
    have z1 := k1 b u z
    rw [sb.2 b (Nat.ne_of_lt (Heap.lt_size z1))]
    exact Heap.get?_push_of_some _ z1) hT
theorem ga_keys {items : Array Value} {n : Nat} {tk : Tok} {Q : Fin → Shared → Prop} {E' : Value → Shared → Prop} (hh : A.handled = none) (hx : h.get? a = some { cls := .type "list", data := .seq items n })
    (hE : ∀ e h' tk, (∀ b u, h.get? b = some u → h'.get? b = some u) → Shared.TypeIs ⟨h', g, d, tk, os⟩ (.ref e) "AttributeError" → E' (.ref e) ⟨h', g, d, tk, os⟩) :
    wpAny (model prog w) A (Builtin.«object.__getattribute__» ⟨[.ref a, .str "keys" tk], []⟩) Q E' ⟨h, g, d, t, os⟩ := by
  have hT : (⟨h, g, d, t, os⟩ : Shared).TypeIs (.ref a) "list" := ⟨_, hx, rfl⟩
  have f4 : typeLookup (.type "list") "keys" = pure none := by rw [typeLookup_type, builtinLookup_eq_fast]; kernel_rfl
  repeat (any_goals (first | assumption | wp_step))
  exact raise_attr hh (by decide +kernel) hE
theorem no_keys {items : Array Value} {n : Nat} {Q : Option Value → Shared → Prop} {E : Value → Shared → Prop} (hh : A.handled = none) (hx : h.get? a = some { cls := .type "list", data := .seq items n })
    (hq : ∀ h' tk, (∀ b u, h.get? b = some u → h'.get? b = some u) → Q none ⟨h', g, d, tk, os⟩) : wpAny (model prog w) A (getAttr? (.ref a) "keys") Q E ⟨h, g, d, t, os⟩ := by
  have hT : (⟨h, g, d, t, os⟩ : Shared).TypeIs (.ref a) "list" := ⟨_, hx, rfl⟩
  have hT1 : (⟨h, g, d, t + 1, os⟩ : Shared).TypeIs (.ref a) "list" := ⟨_, hx, rfl⟩
  have f2 := F.slot_list_getattribute.lookup
  have f3 := F.slot_list_getattribute.bind (.ref a)
  have f5 : typeLookup (.type "list") "__getattr__" = pure none := by rw [typeLookup_type, builtinLookup_eq_fast]; kernel_rfl
  unfold getAttr? getAttrBy?
  refine wpAny_bind (wpAny_mkText (wpAny_bind (wpAny_attempt ?_)))
  unfold getAttrBy
  refine wpAny_holding (wpAny_bind (wpAny_typeOf hT1 ?_))
  rw [f2]
  refine wpAny_bind (wpAny_pure ?_)
  dsimp only
  rw [if_neg (by decide)]
  unfold getAttrByItsOwn hookBefore
  rw [if_neg (by decide)]
  refine wpAny_bind (wpAny_pure (wpAny_bind (wpAny_attempt (wpAny_holding ?_))))
  unfold callGetattribute
  rw [if_neg (by decide)]
  unfold boundAndCalled
  rw [f3]
  refine wpAny_bind (wpAny_pure ?_)
  show wpAny _ _ (call (.builtin "list.__getattribute__") [.ref a, .str "keys" t]) _ _ _
  refine wpAny_call (codeAny_call_builtin F.slot_list_getattribute.plain F.entry_list_ga (F.slot_list_getattribute.check _ _ _ _ _ _ _ _ hT1 (F.args_list_getattribute_2 _ _) (ga_keys (show A.in1.handled = none from hh) hx fun e h' tk keep hTe => ?_)))
  show wpAny _ _ (getattributeRaised (.ref a) (.str "keys" t) (.type "list") (.ref e) none false false) _ _ _
  unfold getattributeRaised hookBehind
  refine wpAny_bind (wpAny_isInstance hTe sub_attr ?_)
  rw [if_pos rfl, if_neg (by decide), f5]
  refine wpAny_bind (wpAny_pure ?_)
  show wpAny _ _ (attributeErrorLeaves (.ref a) (.str "keys" t) (.ref e) false false) _ _ _
  unfold attributeErrorLeaves
  dsimp only
  rw [if_pos (show (!false) = true from rfl)]
  refine wpAny_bind (wpAny_throw (wpAny_bind (wpAny_isInstance hTe sub_attr ?_)))
  rw [if_pos rfl]
  exact wpAny_pure (hq _ _ keep)
end
end L2
namespace L2
open PySem PySem.Spec PyProof.Rows
theorem entry_dul : entryFor table "dict.update.loop" = some Builtin.«dict.update.loop» := entryFor_of_tree (by kernel_rfl)
theorem plain_dul : plainId "dict.update.loop" = true := by decide +kernel
def IPair (h : Heap) (p k : Addr) (v : Value) : Prop := ∃ o c, h.get? p = some o ∧ o.cls = .type "tuple" ∧ o.data = .seq #[.ref k, v] c
section
variable {prog : Program} {w : World} {A : Around} {R : Result → Shared → Prop} {I : Addr} {fp wr : List Addr} {G : Array GenState → Array GenState → Prop} {n : Nat} {P : Nat → Value → Prop} {St : Nat → Shared → Prop} {K : Type} [DecidableEq K]
theorem loop_pairs (W : WalksS prog w A.in1 I fp wr G n P St) (D : Addr) (hDf : D ∉ fp) (knd : HeapKind prog w K) (hroom : knd.room A.in1) (ad ka : Nat → Addr) (key : Nat → K) (vv : Nat → Value) (hval : ∀ i v, P i v → v = .ref (ad i))
    (had : ∀ i, i < n → ad i ≠ D ∧ ad i ∉ wr) (hks : ∀ i, i < n → ∀ h h' : Heap, (∀ b o, b ≠ D → b ∉ wr → h.get? b = some o → h'.get? b = some o) → knd.is h (key i) (ka i) → knd.is h' (key i) (ka i))
    (xs : Nat → List (K × Addr × Value)) (hstep : ∀ i, i < n → xs (i + 1) = storedH (xs i) (key i) (ka i) (vv i)) (hlen : ∀ i, i ≤ n → (xs i).length ≤ sizeLine)
    (hkx : ∀ (i : Nat), i ≤ n → ∀ (h h' : Heap), (∀ b o, b ∉ wr → h.get? b = some o → h'.get? b = some o) → h.DictOfH knd D (xs i) → h'.DictOfH knd D (xs i)) :
    ∀ (k i : Nat) (ti : Tok) (s : Shared), n - i = k → i ≤ n → St i s → (∀ j, j < n → IPair s.heap (ad j) (ka j) (vv j) ∧ knd.is s.heap (key j) (ka j)) → s.heap.DictOfH knd D (xs i) →
      (∀ s', Moved (D :: wr) G s s' → s'.heap.DictOfH knd D (xs n) → R (.ok (.ret .none)) s') →
      codeAny (model prog w) A (.builtin "dict.update.loop" ⟨[.ref D, .ref I, .int (i : Nat) ti, .none], []⟩) R s := by
  have hDw : D ∉ wr := fun h => hDf (W.sub _ h)
  have more : ∀ b ∈ wr, b ∈ D :: wr := fun b hb => List.mem_cons_of_mem _ hb
  intro k
  induction k with
  | zero =>
    intro i ti s hk hi hst ht hD hR
    obtain rfl : i = n := by omega
    refine codeAny_builtin entry_dul ?_
    rw [Around.under_plainId plain_dul _]
    show wpAny _ A.in1 (pyNext (.ref I) >>= _) _ _ s
    refine wpAny_bind (W.done s _ _ hst fun s' hm => ?_)
    show wpAny _ _ (Builtin.Dict.addKeywords D [] >>= _) _ _ _
    refine wpAny_bind ?_
    unfold Builtin.Dict.addKeywords
    refine wpAny_pure (wpAny_pure (hR s' (hm.mono more) (hkx _ hi _ _ (fun b o hb e => hm.heap b o hb e) hD)))
  | succ k ih =>
    intro i ti s hk hi hst ht hD hR
    have hlt : i < n := by omega
    refine codeAny_builtin entry_dul ?_
    rw [Around.under_plainId plain_dul _]
    show wpAny _ A.in1 (pyNext (.ref I) >>= _) _ _ s
    refine wpAny_bind (W.item i s _ _ hlt hst fun v s' hP hst' hm => ?_)
    obtain rfl := hval i v hP
    have ht' : ∀ j, j < n → IPair s'.heap (ad j) (ka j) (vv j) ∧ knd.is s'.heap (key j) (ka j) := fun j hj => by
      obtain ⟨⟨o, c, h1, h2⟩, h3⟩ := ht j hj
      exact ⟨⟨o, c, hm.heap _ o (had j hj).2 h1, h2⟩, hks j hj _ _ (fun b o _ hb e => hm.heap b o hb e) h3⟩
    have hD' := hkx i hi _ _ (fun b o hb e => hm.heap b o hb e) hD
    obtain ⟨⟨o, c, h1, h2, h3⟩, h4⟩ := ht' i hlt
    have hT : s'.TypeIs (.ref (ad i)) "tuple" := ⟨o, h1, h2⟩
    refine wpAny_bind (wpAny_holding (wpAny_bind (wpAny_tryCatch ?_)))
    unfold Builtin.Dict.pairItems
    refine wpAny_bind (wpAny_typeOf hT ?_)
    rw [if_pos (by decide)]
    refine wpAny_bind ?_
    unfold seqItems?
    refine wpAny_bind (wpAny_load h1 ?_)
    rw [h3]
    refine wpAny_pure (wpAny_pure ?_)
    show wpAny _ _ (holding [Value.ref (ka i), vv i] (dictSet D (.ref (ka i)) (vv i))) _ _ _
    refine wpAny_holding (wpAny_dictSet_heap hroom h4 hD' (fun h' hd' sb => ?_) (hlen i hi))
    refine wpAny_pure ⟨plainId_quiet plain_dul _, ?_⟩
    have e : ((i : Nat) : Int) + 1 = ((i + 1 : Nat) : Int) := by omega
    show codeAny _ _ (.builtin "dict.update.loop" ⟨[.ref D, .ref I, .int (((i : Nat) : Int) + 1) 0, .none], []⟩) _ _
    rw [e]
    refine ih (i + 1) _ _ (by omega) hlt (W.frame _ s' _ _ hst' (Nat.le_add_right _ _) fun b hb o q => ?_) (fun j hj => ?_) (by rw [hstep i hlt]; exact hd') fun s'' hm'' hD'' => ?_
    · rw [sb.2 b (fun z => hDf (z ▸ hb))]; exact q
    · obtain ⟨⟨o, c, q1, q2⟩, q3⟩ := ht' j hj
      refine ⟨⟨o, c, ?_, q2⟩, hks j hj _ _ (fun b o hb _ q => ?_) q3⟩
      · rw [sb.2 _ (had j hj).1]; exact q1
      · rw [sb.2 b hb]; exact q
    · refine hR s'' (Moved.trans W.gtrans ((hm.mono more).then_heap (Nat.le_add_right _ _) fun b o hb q => ?_) hm'') hD''
      rw [sb.2 b (fun z => hb (by rw [z]; exact List.mem_cons_self))]; exact q
end
theorem storedH_mem {K : Type} [DecidableEq K] {xs : List (K × Addr × Value)} {k : K} {a : Addr} {v : Value} {P : Addr → Prop} (h : ∀ x ∈ xs, P x.2.1) (ha : P a) : ∀ x ∈ storedH xs k a v, P x.2.1 := by
  unfold storedH
  split
  · intro x hx
    obtain ⟨y, hy, rfl⟩ := List.mem_map.mp hx
    unfold putAt
    split
    · exact h y hy
    · exact h y hy
  · intro x hx
    rcases List.mem_append.mp hx with hx | hx
    · exact h x hx
    · rw [List.mem_singleton.mp hx]; exact ha
theorem storedH_len {K : Type} [DecidableEq K] {xs : List (K × Addr × Value)} {k : K} {a : Addr} {v : Value} : (storedH xs k a v).length ≤ xs.length + 1 := by
  unfold storedH
  split
  · rw [List.length_map]; omega
  · simp
def foldH {K : Type} [DecidableEq K] (key : Nat → K) (ka : Nat → Addr) (vv : Nat → Value) : Nat → List (K × Addr × Value)
  | 0 => []
  | i + 1 => storedH (foldH key ka vv i) (key i) (ka i) (vv i)
theorem foldH_mem {K : Type} [DecidableEq K] {key : Nat → K} {ka : Nat → Addr} {vv : Nat → Value} {P : Addr → Prop} : ∀ (i : Nat), (∀ j, j < i → P (ka j)) → ∀ x ∈ foldH key ka vv i, P x.2.1
  | 0, _ => fun _ h => nomatch h
  | i + 1, h => storedH_mem (foldH_mem i fun j hj => h j (by omega)) (h i (Nat.lt_succ_self _))
theorem foldH_len {K : Type} [DecidableEq K] {key : Nat → K} {ka : Nat → Addr} {vv : Nat → Value} : ∀ (i : Nat), (foldH key ka vv i).length ≤ i
  | 0 => Nat.le_refl _
  | i + 1 => Nat.le_trans storedH_len (Nat.succ_le_succ (foldH_len i))
section
variable {prog : Program} {w : World} {A : Around} {E : Value → Shared → Prop} {s : Shared} {K : Type} [DecidableEq K]
theorem call_dict_pairs {l : Addr} {as : List Addr} {c : Nat} {Q : Value → Shared → Prop} (hh : A.handled = none) (hl : s.heap.get? l = some { cls := .type "list", data := .seq (as.map Value.ref).toArray c })
    (knd : HeapKind prog w K) (hroom : knd.room A.in1.in1) (ka : Nat → Addr) (key : Nat → K) (vv : Nat → Value) (hp : ∀ j, j < as.length → IPair s.heap (as.getD j 0) (ka j) (vv j) ∧ knd.is s.heap (key j) (ka j) ∧ ka j < s.heap.objs.size)
    (hks : ∀ (h h' : Heap) (k : K) (b : Addr), (∀ o, h.get? b = some o → h'.get? b = some o) → knd.is h k b → knd.is h' k b) (hz : as.length ≤ sizeLine)
    (h : ∀ (h' : Heap) (tk : Nat), h'.DictOfH knd s.heap.objs.size (foldH key ka vv as.length) → (∀ b o, s.heap.get? b = some o → h'.get? b = some o) → Q (.ref s.heap.objs.size) { s with heap := h', toks := tk }) :
    wpAny (model prog w) A (call (.type "dict") [.ref l]) Q E s := by
  refine callType_codes (Q₁ := fun v s₁ => v = .ref s.heap.objs.size ∧ s₁ = { s with heap := s.heap.push { cls := .type "dict", data := .dict #[] } }) F.kt_called_dict (F.kt_typeCall_dict_1 _) F.entry_dict_init (kt_code_dict_new _ ⟨rfl, rfl⟩) ?_
  rintro v s₁ ⟨rfl, rfl⟩
  have keep0 : ∀ b u, s.heap.get? b = some u → (s.heap.push { cls := .type "dict", data := .dict #[] }).get? b = some u := fun b u x => Heap.get?_push_of_some _ x
  have nT : Shared.TypeIs { s with heap := s.heap.push { cls := .type "dict", data := .dict #[] } } (.ref s.heap.objs.size) "dict" := ⟨_, Heap.get?_push_size _ rfl, rfl⟩
  have lT : Shared.TypeIs { s with heap := s.heap.push { cls := .type "dict", data := .dict #[] } } (.ref l) "list" := ⟨_, keep0 _ _ hl, rfl⟩
  have d0 : (s.heap.push { cls := .type "dict", data := .dict #[] }).get? s.heap.objs.size = some { cls := .type "dict", data := .dict #[] } := Heap.get?_push_size _ rfl
  have sz0 : (s.heap.push { cls := .type "dict", data := .dict #[] }).objs.size = s.heap.objs.size + 1 := Heap.size_push ..
  revert keep0 nT lT d0 sz0
  generalize s.heap.push { cls := .type "dict", data := .dict #[] } = h0
  intro keep0 nT lT d0 sz0
  refine ⟨nT, F.args_dict_init_2 _ _, ?_⟩
  unfold Builtin.«dict.__init__»
  refine wpAny_bind ?_
  unfold Builtin.Dict.selfAndRest
  refine wpAny_bind (wpAny_notOrdered_dict nT ?_)
  show wpAny _ _ (pure (s.heap.objs.size, [Value.ref l])) _ _ _
  refine wpAny_pure ?_
  show wpAny _ _ (Builtin.Dict.updateFrom "dict.__init__" s.heap.objs.size (.ref l) [] .none) _ _ _
  unfold Builtin.Dict.updateFrom
  refine wpAny_bind (wpAny_typeOf lT ?_)
  rw [if_pos (by decide)]
  refine wpAny_bind (no_keys (show A.in1.in1.handled = none from hh) (keep0 _ _ hl) fun h1 tk1 keep1 => ?_)
  rw [if_pos (show (none : Option Value).isNone = true from rfl)]
  refine wpAny_bind (wpAny_rule (wpAny_bind ?_))
  have hl1 : h1.get? l = some { cls := .type "list", data := .seq (as.map Value.ref).toArray c } := keep1 _ _ (keep0 _ _ hl)
  have isl : h1.IsList l (as.map Value.ref).toArray := ⟨_, hl1, rfl, c, rfl⟩
  refine wpAny_pyIter_list isl (wpAny_pure ⟨plainId_quiet plain_dul _, ?_⟩)
  have le1 : s.heap.objs.size + 1 ≤ h1.objs.size := Heap.lt_size (keep1 _ _ d0)
  have ltl : l < s.heap.objs.size := Heap.lt_size hl
  have neI : l ≠ h1.objs.size := Nat.ne_of_lt (Heap.lt_size hl1)
  have nD : s.heap.objs.size ∉ [h1.objs.size, l] := fun z => by
    rcases List.mem_cons.mp z with z | z
    · exact absurd z (Nat.ne_of_lt (Nat.lt_of_succ_le le1))
    · exact absurd (List.mem_singleton.mp z) (Nat.ne_of_gt ltl)
  have nI : ∀ {b : Addr}, b < s.heap.objs.size → b ∉ [h1.objs.size] := fun hb z => absurd (List.mem_singleton.mp z) (Nat.ne_of_lt (Nat.lt_of_lt_of_le hb (Nat.le_of_succ_le le1)))
  have lt_of : ∀ {b : Addr} {o : Obj}, s.heap.get? b = some o → b < s.heap.objs.size := fun e => Heap.lt_size e
  have hd2 : A.in1.in1.handled = none := by simpa using hh
  refine loop_pairs (A := A.in1) ((Walks.list hd2 _ l neI (as.map Value.ref).toArray).toS) s.heap.objs.size nD knd hroom (fun i => as.getD i 0) ka key vv (fun i v hv => ?_) (fun i hi => ?_) (fun i hi g g' hg z => ?_) (foldH key ka vv) (fun i _ => rfl) (fun i hi => Nat.le_trans (foldH_len i) (Nat.le_trans hi (by simpa using hz))) (fun i hi g g' hg z => ?_)
    ((as.map Value.ref).toArray.size - 0) 0 0 _ (by omega) (Nat.zero_le _) ⟨⟨_, Heap.get?_push_size _ rfl, rfl, rfl⟩, isl.push _⟩ (fun j hj => ?_) ?_ fun s' hm hD' => ?_
  · have hv' : (as.map Value.ref).toArray[i]? = some v := hv
    rw [List.getElem?_toArray, List.getElem?_map] at hv'
    obtain ⟨x, hx, rfl⟩ := Option.map_eq_some_iff.mp hv'
    show _ = Value.ref (as.getD i 0)
    rw [List.getD_eq_getElem?_getD, hx]; rfl
  · obtain ⟨⟨o, c', q1, _⟩, _⟩ := hp i (by simpa using hi)
    exact ⟨Nat.ne_of_lt (lt_of q1), nI (lt_of q1)⟩
  · obtain ⟨_, _, q3⟩ := hp i (by simpa using hi)
    exact hks _ _ _ _ (fun o q => hg _ o (Nat.ne_of_lt q3) (nI q3) q) z
  · obtain ⟨o, es, ep, a1, a2, a3, a4, a5, a6⟩ := z
    refine ⟨o, es, ep, hg _ _ (fun y => absurd (List.mem_singleton.mp y) (Nat.ne_of_lt (Nat.lt_of_succ_le le1))) a1, a2, a3, a4, fun x hx => hks _ _ _ _ (fun o q => hg _ o (nI (foldH_mem (P := fun b => b < s.heap.objs.size) i (fun j hj => (hp j (by have := hi; simp at this; omega)).2.2) x hx)) q) (a5 x hx), a6⟩
  · obtain ⟨⟨o, c', q1, q2⟩, q3, q4⟩ := hp j (by simpa using hj)
    have up : ∀ b u, s.heap.get? b = some u → (h1.push { cls := .type "list_iterator", data := .fields #[.ref l, .int 0 0] }).get? b = some u := fun b u z => Heap.get?_push_of_some _ (keep1 _ _ (keep0 _ _ z))
    exact ⟨⟨o, c', up _ _ q1, q2⟩, hks _ _ _ _ (fun o q => up _ o q) q3⟩
  · exact ⟨_, #[], 0, Heap.get?_push_of_some _ (keep1 _ _ d0), ⟨rfl, rfl, rfl⟩, rfl, rfl, (fun _ z => nomatch z), List.nodup_nil⟩
  · obtain ⟨h', g', d', tk', os'⟩ := s'
    obtain rfl : g' = s.gens := hm.gens
    obtain rfl : d' = s.drawn := hm.drawn
    obtain rfl : os' = s.os := hm.os
    refine ⟨rfl, h h' tk' (by simpa using hD') fun b o e => hm.heap b o (fun z => ?_) (Heap.get?_push_of_some _ (keep1 _ _ (keep0 _ _ e)))⟩
    rcases List.mem_cons.mp z with z | z
    · exact absurd z (Nat.ne_of_lt (lt_of e))
    · exact nI (lt_of e) z
end
end L2
namespace L2
open PySem PySem.Spec PyProof.Rows
abbrev Prs (H : Hp) (as : List Addr) (kvs : List (List Key × V)) : Prop := Paired (fun a (kv : List Key × V) => ∃ b, H a = some (.tup [.ref b, kv.2]) ∧ H b = some (.tup (kv.1.map kV))) as kvs
def mkD (kvs : List (List Key × V)) : List (List Key × V) := kvs.foldl (fun acc kv => putK acc kv.1 kv.2) []
theorem mkD_snoc {kvs : List (List Key × V)} {p : List Key × V} : mkD (kvs ++ [p]) = putK (mkD kvs) p.1 p.2 := by unfold mkD; rw [List.foldl_append]; rfl
theorem mkD_len {kvs : List (List Key × V)} : (mkD kvs).length ≤ kvs.length := by
  have all : ∀ (l acc : List (List Key × V)), (l.foldl (fun acc kv => putK acc kv.1 kv.2) acc).length ≤ acc.length + l.length := by
    intro l
    induction l with
    | nil => intro acc; exact Nat.le_refl _
    | cons a r ih =>
      intro acc
      have h1 := ih (putK acc a.1 a.2)
      have h2 := length_putK acc a.1 a.2
      rw [List.foldl_cons, List.length_cons]
      omega
  have h := all kvs []
  unfold mkD
  simpa using h
theorem call_dictPairs {X : Cx} (hc : X.calm = true) {k : Nat} (hr : Room k X.A) : CallR X (.type "dict") (fun xs H Q => ∃ (l : Addr) (as : List Addr) (kvs : List (List Key × V)), xs = [.ref l] ∧ H l = some (.lst (as.map V.ref)) ∧ Prs H as kvs ∧ ∀ p, H p = none → Q (.ref p) (upd H p (.dT (mkD kvs)))) := by
  intro pins s σ H xs us Q I r h
  obtain ⟨l, as, kvs, rfl, hl, hp, q⟩ := h
  obtain ⟨u, rfl, ru⟩ := vals1 r
  cases ru
  obtain ⟨hz, its, c, rv, hl'⟩ := I.hok l _ hl
  obtain rfl := vals_refs rv
  have hu := hr.units
  have len : as.length = kvs.length := Paired.length hp
  have ex : ∀ j, ∃ (b : Addr) (u : Value), j < as.length → IPair s.heap (as.getD j 0) b u ∧ H b = some (.tup ((kvs.getD j ([], .non)).1.map kV)) ∧ RelV (kvs.getD j ([], .non)).2 u := fun j => by
    by_cases hj : j < as.length
    · have hj2 : j < kvs.length := by omega
      obtain ⟨a, ha, b, h1, h2⟩ := paired_get hp j hj2
      obtain ⟨_, ii, rr, o, ho, hcl, n, hd⟩ := I.hok a _ h1
      obtain ⟨u1, u2, rfl, r1, r2⟩ := vals2 rr
      cases (show u1 = Value.ref b from r1)
      refine ⟨b, u2, fun _ => ?_⟩
      have e1 : as.getD j 0 = a := by rw [List.getD_eq_getElem?_getD, ha]; rfl
      have e2 : kvs.getD j ([], .non) = kvs[j] := by rw [List.getD_eq_getElem?_getD, List.getElem?_eq_getElem hj2]; rfl
      rw [e1, e2]
      exact ⟨⟨o, n, ho, hcl, hd⟩, h2, r2⟩
    · exact ⟨0, .none, fun z => absurd z hj⟩
  obtain ⟨ka, hka⟩ : ∃ ka : Nat → Addr, ∀ j, ∃ u : Value, j < as.length → IPair s.heap (as.getD j 0) (ka j) u ∧ H (ka j) = some (.tup ((kvs.getD j ([], .non)).1.map kV)) ∧ RelV (kvs.getD j ([], .non)).2 u := ⟨fun j => Classical.choose (ex j), fun j => Classical.choose_spec (ex j)⟩
  obtain ⟨vv, hvv⟩ : ∃ vv : Nat → Value, ∀ j, j < as.length → IPair s.heap (as.getD j 0) (ka j) (vv j) ∧ H (ka j) = some (.tup ((kvs.getD j ([], .non)).1.map kV)) ∧ RelV (kvs.getD j ([], .non)).2 (vv j) := ⟨fun j => Classical.choose (hka j), fun j => Classical.choose_spec (hka j)⟩
  have kt : ∀ i, i ≤ as.length → KT H (mkD (kvs.take i)) (foldH (fun j => (kvs.getD j ([], .non)).1) ka vv i) := by
    intro i
    induction i with
    | zero => intro _; exact .nil
    | succ i ih =>
      intro hi
      obtain ⟨_, h2, h3⟩ := hvv i hi
      have hi2 : i < kvs.length := by omega
      have e2 : kvs[i]? = some (kvs.getD i ([], .non)) := by rw [List.getD_eq_getElem?_getD, List.getElem?_eq_getElem hi2]; rfl
      have et : kvs.take (i + 1) = kvs.take i ++ [kvs.getD i ([], .non)] := by rw [List.take_succ, e2]; rfl
      rw [et, mkD_snoc]
      exact KT.put (ih (by omega)) _ h2 h3
  refine call_dict_pairs (I.ok.hd hc) hl' (tupleKind (mixKind X.prog X.w)) (show X.A.units + 1 + 1 < cLine by omega) ka (fun j => (kvs.getD j ([], .non)).1) vv (fun j hj => ?_) (fun g g' k b hg z => ?_) (by simpa using hz) fun h' tk hd hk => ?_
  · obtain ⟨h1, h2, _⟩ := hvv j hj
    exact ⟨h1, key_of I.hok h2, I.hok.lt h2⟩
  · obtain ⟨o, items, n, z1, z2⟩ := z
    exact ⟨o, items, n, hg o z1, z2⟩
  · have kn := kt as.length (Nat.le_refl _)
    rw [len, List.take_length] at kn
    rw [len] at hd
    obtain ⟨o, es, ep, h1, h2, h3, h4, h5, h6⟩ := hd
    have fr : H s.heap.objs.size = none := I.hok.fresh (Nat.le_refl _)
    refine ⟨.ref s.heap.objs.size, _, I.laid (a := s.heap.objs.size) (o := .dT (mkD kvs)) (t' := tk) hk (Nat.le_refl _) ⟨Nat.le_trans mkD_len (by rw [← len]; simpa using hz), beq_eq_false_iff_ne.mpr (Ne.symm (Nat.ne_of_lt I.big)), _, kn.keeps fun b ys z => ?_, o, es, ep, h1, h2, h3, h4, h6⟩, rfl, q _ fr⟩
    rw [upd_ne (ne_of_none z fr)]; exact z
end L2
namespace L2
open PySem PySem.Spec PyProof.Rows
structure Nx (prog : Program) (w : World) (A : Around) (it src : Addr) (vals : Array Value) (St : Nat → Heap → Prop) : Prop where
  obj : ∀ i h, St i h → ∃ o vs, h.get? it = some o ∧ o.data = .fields vs ∧ o.cls ≠ .type "zip" ∧ ∃ o', h.get? src = some o'
  keep : ∀ i h h', St i h → (∀ o, h.get? it = some o → h'.get? it = some o) → (∀ o, h.get? src = some o → h'.get? src = some o) → St i h'
  item : ∀ (i : Nat) (s : Shared) (Q : Value → Shared → Prop) (E : Value → Shared → Prop) (x : Value), St i s.heap → vals[i]? = some x → (∀ h', St (i + 1) h' → Heap.SameBut it s.heap h' → Q x { s with heap := h' }) → wpAny (model prog w) A (Builtin.SmallTypes.nextOf (.ref it)) Q E s
  done : ∀ (i : Nat) (s : Shared) (Q : Value → Shared → Prop) (E : Value → Shared → Prop), A.handled = none → St i s.heap → vals[i]? = none →
    (∀ h' e, Heap.ExtBut it s.heap h' → (∃ o, h'.get? e = some o ∧ o.cls = .type "StopIteration") → E (.ref e) { s with heap := h' }) → wpAny (model prog w) A (Builtin.SmallTypes.nextOf (.ref it)) Q E s
section
variable {prog : Program} {w : World} {A : Around} {E : Value → Shared → Prop} {s : Shared}
theorem Nx.list {it l : Addr} {items : Array Value} (hne : l ≠ it) : Nx prog w A it l items (fun i h => h.IsListIter it l i ∧ h.IsList l items) where
  obj := fun i h ⟨⟨o, h1, h2, h3⟩, ⟨o', h4, _⟩⟩ => ⟨o, _, h1, h3, by rw [h2]; decide, o', h4⟩
  keep := fun i h h' ⟨x, y⟩ k1 k2 => ⟨x.at k1, y.at k2⟩
  item := fun i s Q E x ⟨h1, h2⟩ hx hQ => wpAny_nextOf_list_item h1 h2 hx fun h' a b => hQ h' ⟨a, h2.at fun o e => b.extBut _ _ hne e⟩ b
  done := fun i s Q E hh ⟨h1, h2⟩ hx hE => wpAny_nextOf_list_end hh h1 h2 hx hE
theorem nx_tup_item {it t : Addr} {i : Nat} {items : Array Value} {x : Value} {Q : Value → Shared → Prop} (hit : IsTupIter s.heap it t i) (ht : IsTup s.heap t items) (hx : items[i]? = some x)
    (hQ : ∀ h', IsTupIter h' it t (i + 1) → Heap.SameBut it s.heap h' → Q x { s with heap := h' }) : wpAny (model prog w) A (Builtin.SmallTypes.nextOf (.ref it)) Q E s := by
  obtain ⟨o, ho, hc, hd⟩ := id hit
  obtain ⟨ol, hol, _, nl, hdl⟩ := ht
  unfold Builtin.SmallTypes.nextOf
  refine wpAny_bind (wpAny_callSpecial?_slot (name := Str.ofString "__next__") hit.typeIs slot_tupleiter_next (wpAny_call_entry slot_tupleiter_next hit.typeIs entry_tupleiter_next ?_ (args_tupleiter_next _)))
  show wpAny _ _ (field (.ref it) 0 >>= _) _ _ s
  refine wpAny_bind (wpAny_field ho hd (x := .ref t) rfl ?_)
  show wpAny _ _ (if (Value.ref t == Value.none) = true then _ else _) _ _ s
  rw [if_neg (show ¬ ((Value.ref t == Value.none) = true) from Bool.false_ne_true)]
  show wpAny _ _ (field (.ref it) 1 >>= _) _ _ s
  refine wpAny_bind (wpAny_field ho hd (x := .int i 0) rfl ?_)
  show wpAny _ _ (seqItems? (.ref t) >>= _) _ _ s
  refine wpAny_bind (wpAny_seqItems hol hdl ?_)
  simp only [Int.toNat_natCast, hx]
  refine wpAny_bind (wpAny_setField ho hd (by simp) (wpAny_pure ⟨x, rfl, wpAny_pure (hQ _ ?_ (Heap.SameBut.update ..))⟩))
  exact ⟨_, Heap.get?_update_self _ ho (Obj.isFreed_of_fields (Obj.data_mapFields hd _)), (Obj.cls_mapFields ..).trans hc, by rw [Obj.data_mapFields hd]; simp [rawInt]⟩
theorem nx_tup_end {it t : Addr} {i : Nat} {items : Array Value} {Q : Value → Shared → Prop} (hh : A.handled = none) (hit : IsTupIter s.heap it t i) (ht : IsTup s.heap t items) (hx : items[i]? = none)
    (hE : ∀ h' e, Heap.ExtBut it s.heap h' → (∃ o, h'.get? e = some o ∧ o.cls = .type "StopIteration") → E (.ref e) { s with heap := h' }) : wpAny (model prog w) A (Builtin.SmallTypes.nextOf (.ref it)) Q E s := by
  obtain ⟨o, ho, hc, hd⟩ := id hit
  obtain ⟨ol, hol, _, nl, hdl⟩ := ht
  unfold Builtin.SmallTypes.nextOf
  refine wpAny_bind (wpAny_callSpecial?_slot (name := Str.ofString "__next__") hit.typeIs slot_tupleiter_next (wpAny_call_entry slot_tupleiter_next hit.typeIs entry_tupleiter_next ?_ (args_tupleiter_next _)))
  show wpAny _ _ (field (.ref it) 0 >>= _) _ _ s
  refine wpAny_bind (wpAny_field ho hd (x := .ref t) rfl ?_)
  show wpAny _ _ (if (Value.ref t == Value.none) = true then _ else _) _ _ s
  rw [if_neg (show ¬ ((Value.ref t == Value.none) = true) from Bool.false_ne_true)]
  show wpAny _ _ (field (.ref it) 1 >>= _) _ _ s
  refine wpAny_bind (wpAny_field ho hd (x := .int i 0) rfl ?_)
  show wpAny _ _ (seqItems? (.ref t) >>= _) _ _ s
  refine wpAny_bind (wpAny_seqItems hol hdl ?_)
  simp only [Int.toNat_natCast, hx]
  refine wpAny_bind (wpAny_rule (wpAny_bind (wpAny_setField ho hd (by simp) ?_)))
  show wpAny _ _ (newExc (.type "StopIteration") [] >>= _) _ _ _
  refine wpAny_bind ?_
  simp only [newExc, newTuple]
  refine wpAny_bind (wpAny_newObj_type ?_ (by size_fits))
  refine wpAny_bind (m := firstArgMember _ _) (wpAny_of_eq (a := Value.none) (by first | rfl | (simp only [firstArgMember]; rfl)) (wpAny_newObj_type ?_ (by size_fits)))
  simp only [raiseNew]
  refine wpAny_bind (wpAny_handled ?_)
  first | rw [show A.in1.handled = none from hh] | rw [hh]
  refine wpAny_bind (wpAny_pure (wpAny_throw ?_))
  exact hE _ _ (((Heap.SameBut.update ..).extBut.push _).push _) ⟨_, Heap.get?_push_size _ rfl, rfl⟩
theorem Nx.tup {it t : Addr} {items : Array Value} (hne : t ≠ it) : Nx prog w A it t items (fun i h => IsTupIter h it t i ∧ IsTup h t items) where
  obj := fun i h ⟨⟨o, h1, h2, h3⟩, ⟨o', h4, _⟩⟩ => ⟨o, _, h1, h3, by rw [h2]; decide, o', h4⟩
  keep := fun i h h' ⟨⟨o, h1, h2⟩, ⟨o', h4, h5⟩⟩ k1 k2 => ⟨⟨o, k1 _ h1, h2⟩, ⟨o', k2 _ h4, h5⟩⟩
  item := fun i s Q E x ⟨h1, h2⟩ hx hQ => nx_tup_item h1 h2 hx fun h' a b => hQ h' ⟨a, h2.extBut b.extBut hne⟩ b
  done := fun i s Q E hh ⟨h1, h2⟩ hx hE => nx_tup_end hh h1 h2 hx hE
structure ZA (z TI TO i1 i2 s1 s2 : Addr) : Prop where
  TIz : TI ≠ z
  TOz : TO ≠ z
  i1z : i1 ≠ z
  i2z : i2 ≠ z
  TITO : TI ≠ TO
  TIi1 : TI ≠ i1
  TIi2 : TI ≠ i2
  TOi1 : TO ≠ i1
  TOi2 : TO ≠ i2
  i12 : i1 ≠ i2
  s1z : s1 ≠ z
  s1TO : s1 ≠ TO
  s1i2 : s1 ≠ i2
  s2z : s2 ≠ z
  s2TO : s2 ≠ TO
  s2i1 : s2 ≠ i1
theorem zn_item {z TI TO i1 i2 s1 s2 : Addr} {xs ys : Array Value} {S1 S2 : Nat → Heap → Prop} {i : Nat} {x y a b : Value} {Q : Value → Shared → Prop} (D : ZA z TI TO i1 i2 s1 s2) (N1 : Nx prog w A i1 s1 xs S1) (N2 : Nx prog w A i2 s2 ys S2)
    (hz : IsZip s.heap z TI TO .none) (hTI : IsPair s.heap TI (.ref i1) (.ref i2)) (hTO : IsPair s.heap TO a b) (h1 : S1 i s.heap) (h2 : S2 i s.heap) (hx : xs[i]? = some x) (hy : ys[i]? = some y)
    (hQ : ∀ h', IsZip h' z TI TO (rawInt s.heap.objs.size) → IsPair h' TO x y → S1 (i + 1) h' → S2 (i + 1) h' → IsPair h' s.heap.objs.size x y → h'.objs.size = s.heap.objs.size + 1 →
      (∀ c o, c ≠ z → c ≠ TO → c ≠ i1 → c ≠ i2 → s.heap.get? c = some o → h'.get? c = some o) → Q (.ref s.heap.objs.size) { s with heap := h' }) :
    wpAny (model prog w) A (Builtin.«zip.__next__» ⟨[.ref z], []⟩) (fun fin s' => ∃ v, fin = .done (.ret v) ∧ Q v s') E s := by
  show wpAny _ _ (field (.ref z) 2 >>= _) _ _ _
  refine wpAny_bind (wpAny_field hz rfl (x := .bool false) rfl ?_)
  show wpAny _ _ (field (.ref z) 3 >>= _) _ _ _
  refine wpAny_bind (wpAny_field hz rfl (x := .ref TI) rfl (wpAny_bind (wpAny_seqItems hTI rfl ?_)))
  show wpAny _ _ (Builtin.SmallTypes.ownedTupleIsFree (.ref z) >>= _) _ _ _
  refine wpAny_bind ?_
  unfold Builtin.SmallTypes.ownedTupleIsFree
  refine wpAny_bind (wpAny_field hz rfl (x := .none) rfl (wpAny_pure ?_))
  simp only [if_true]
  refine wpAny_bind (wpAny_rule (wpAny_bind (wpAny_field hz rfl (x := .ref TO) rfl (wpAny_bind (wpAny_setField_rec hz (by simp) fun g1 z1 k1 => ?_)))))
  replace z1 : IsZip g1 z TI TO .ellipsis := z1
  refine wpAny_bind ?_
  simp only [List.zipIdx_cons, List.zipIdx_nil, List.forIn_cons, List.forIn_nil]
  refine wpAny_bind (wpAny_bind (wpAny_onRaise ?_))
  show wpAny _ _ (Builtin.SmallTypes.nextOf (.ref i1) >>= _) _ _ _
  refine wpAny_bind (N1.item i { s with heap := g1 } _ _ x (N1.keep _ _ _ h1 (fun o e => k1.extBut _ _ D.i1z e) (fun o e => k1.extBut _ _ D.s1z e)) hx fun g2 a1 k2 => wpAny_pure ?_)
  have t2 : IsPair g2 TO a b := k2.extBut _ _ D.TOi1 (k1.extBut _ _ D.TOz hTO)
  refine wpAny_bind (wpAny_seqItems t2 rfl (wpAny_bind (wpAny_updateSeq_pair t2 fun g3 t3 k3 => ?_)))
  replace t3 : IsPair g3 TO x b := t3
  refine wpAny_bind (wpAny_letGo (wpAny_pure ?_))
  refine wpAny_bind (wpAny_bind (wpAny_onRaise ?_))
  show wpAny _ _ (Builtin.SmallTypes.nextOf (.ref i2) >>= _) _ _ _
  refine wpAny_bind (N2.item i { s with heap := g3 } _ _ y (N2.keep _ _ _ h2 (fun o e => k3.extBut _ _ D.TOi2.symm (k2.extBut _ _ D.i12.symm (k1.extBut _ _ D.i2z e))) (fun o e => k3.extBut _ _ D.s2TO (k2.extBut _ _ D.s2i1 (k1.extBut _ _ D.s2z e)))) hy fun g4 a2 k4 => wpAny_pure ?_)
  have t4 : IsPair g4 TO x b := k4.extBut _ _ D.TOi2 t3
  refine wpAny_bind (wpAny_seqItems t4 rfl (wpAny_bind (wpAny_updateSeq_pair t4 fun g5 t5 k5 => ?_)))
  replace t5 : IsPair g5 TO x y := t5
  refine wpAny_bind (wpAny_letGo (wpAny_pure (wpAny_pure ?_)))
  refine wpAny_bind (wpAny_seqItems t5 rfl (wpAny_bind (wpAny_newTuple ?_)))
  have hsz : g5.objs.size = s.heap.objs.size := by rw [k5.1, k4.1, k3.1, k2.1, k1.1]
  have z5 : IsZip g5 z TI TO .ellipsis := k5.extBut _ _ D.TOz.symm (k4.extBut _ _ D.i2z.symm (k3.extBut _ _ D.TOz.symm (k2.extBut _ _ D.i1z.symm z1)))
  have all5 : ∀ c o, c ≠ z → c ≠ TO → c ≠ i1 → c ≠ i2 → s.heap.get? c = some o → g5.get? c = some o := fun c o c1 c2 c3 c4 e => k5.extBut _ _ c2 (k4.extBut _ _ c4 (k3.extBut _ _ c2 (k2.extBut _ _ c3 (k1.extBut _ _ c1 e))))
  have hz5 : z < g5.objs.size := Heap.lt_size z5
  show wpAny _ _ (Builtin.SmallTypes.ownedTupleHandOut (.ref z) (.ref g5.objs.size) >>= _) _ _ _
  refine wpAny_bind ?_
  unfold Builtin.SmallTypes.ownedTupleHandOut
  have z6 : IsZip (g5.push { cls := .type "tuple", data := .seq #[x, y] }) z TI TO .ellipsis := Heap.get?_push_of_some _ z5
  refine wpAny_bind (wpAny_setField_rec z6 (by simp) fun g7 z7 k7 => ?_)
  replace z7 : IsZip g7 z TI TO (rawInt g5.objs.size) := z7
  refine wpAny_setField_rec z7 (by simp) fun g8 z8 k8 => ?_
  replace z8 : IsZip g8 z TI TO (rawInt g5.objs.size) := z8
  have up : ∀ c o, c ≠ z → g5.get? c = some o → g8.get? c = some o := fun c o c1 e => k8.extBut _ _ c1 (k7.extBut _ _ c1 (Heap.get?_push_of_some _ e))
  have hT8 : IsPair g8 g5.objs.size x y := k8.extBut _ _ (Nat.ne_of_gt hz5) (k7.extBut _ _ (Nat.ne_of_gt hz5) (Heap.get?_push_size _ rfl))
  have sz8 : g8.objs.size = g5.objs.size + 1 := by rw [k8.1, k7.1, Heap.size_push]
  rw [hsz] at z8 hT8 sz8
  refine wpAny_pure ⟨_, rfl, ?_⟩
  show Q (.ref g5.objs.size) _
  rw [hsz]
  exact hQ g8 z8 (up _ _ D.TOz t5)
    (N1.keep _ _ _ a1 (fun o e => up _ o D.i1z (k5.extBut _ _ D.TOi1.symm (k4.extBut _ _ D.i12 (k3.extBut _ _ D.TOi1.symm e)))) (fun o e => up _ o D.s1z (k5.extBut _ _ D.s1TO (k4.extBut _ _ D.s1i2 (k3.extBut _ _ D.s1TO e)))))
    (N2.keep _ _ _ a2 (fun o e => up _ o D.i2z (k5.extBut _ _ D.TOi2.symm e)) (fun o e => up _ o D.s2z (k5.extBut _ _ D.s2TO e))) hT8 sz8 fun c o c1 c2 c3 c4 e => up c o c1 (all5 c o c1 c2 c3 c4 e)
theorem zn_end {z TI TO i1 i2 s1 s2 : Addr} {xs ys : Array Value} {S1 S2 : Nat → Heap → Prop} {i : Nat} {a b : Value} {Q : Fin → Shared → Prop} (hh : A.handled = none) (D : ZA z TI TO i1 i2 s1 s2) (N1 : Nx prog w A i1 s1 xs S1) (N2 : Nx prog w A i2 s2 ys S2)
    (hz : IsZip s.heap z TI TO .none) (hTI : IsPair s.heap TI (.ref i1) (.ref i2)) (hTO : IsPair s.heap TO a b) (h1 : S1 i s.heap) (h2 : S2 i s.heap) (hend : xs[i]? = none ∨ ys[i]? = none)
    (hE : ∀ h' e, (∀ c o, c ≠ z → c ≠ TO → c ≠ i1 → c ≠ i2 → s.heap.get? c = some o → h'.get? c = some o) → (∃ o, h'.get? e = some o ∧ o.cls = .type "StopIteration") → E (.ref e) { s with heap := h' }) :
    wpAny (model prog w) A (Builtin.«zip.__next__» ⟨[.ref z], []⟩) Q E s := by
  show wpAny _ _ (field (.ref z) 2 >>= _) _ _ _
  refine wpAny_bind (wpAny_field hz rfl (x := .bool false) rfl ?_)
  show wpAny _ _ (field (.ref z) 3 >>= _) _ _ _
  refine wpAny_bind (wpAny_field hz rfl (x := .ref TI) rfl (wpAny_bind (wpAny_seqItems hTI rfl ?_)))
  show wpAny _ _ (Builtin.SmallTypes.ownedTupleIsFree (.ref z) >>= _) _ _ _
  refine wpAny_bind ?_
  unfold Builtin.SmallTypes.ownedTupleIsFree
  refine wpAny_bind (wpAny_field hz rfl (x := .none) rfl (wpAny_pure ?_))
  simp only [if_true]
  refine wpAny_bind (wpAny_rule (wpAny_bind (wpAny_field hz rfl (x := .ref TO) rfl (wpAny_bind (wpAny_setField_rec hz (by simp) fun g1 z1 k1 => ?_)))))
  replace z1 : IsZip g1 z TI TO .ellipsis := z1
  refine wpAny_bind ?_
  simp only [List.zipIdx_cons, List.zipIdx_nil, List.forIn_cons, List.forIn_nil]
  refine wpAny_bind (wpAny_bind (wpAny_onRaise ?_))
  show wpAny _ _ (Builtin.SmallTypes.nextOf (.ref i1) >>= _) _ _ _
  have st1 := N1.keep _ _ g1 h1 (fun o e => k1.extBut _ _ D.i1z e) (fun o e => k1.extBut _ _ D.s1z e)
  cases hx : xs[i]? with
  | none =>
    refine wpAny_bind (N1.done i { s with heap := g1 } _ _ hh st1 hx fun g2 e k2 he => ?_)
    obtain ⟨oe, hoe, hce⟩ := he
    have z2 : IsZip g2 z TI TO .ellipsis := k2 _ _ D.i1z.symm z1
    have hez : e ≠ z := fun x => by subst x; rw [z2] at hoe; cases hoe; simp at hce
    exact wpAny_setField_rec z2 (by simp) fun g3 _ k3 => hE g3 e (fun c o c1 _ c3 _ x => k3.extBut _ _ c1 (k2 _ _ c3 (k1.extBut _ _ c1 x))) ⟨oe, k3.extBut _ _ hez hoe, hce⟩
  | some x =>
    have hy : ys[i]? = none := by rcases hend with h | h; rw [hx] at h; cases h; exact h
    refine wpAny_bind (N1.item i { s with heap := g1 } _ _ x st1 hx fun g2 a1 k2 => wpAny_pure ?_)
    have t2 : IsPair g2 TO a b := k2.extBut _ _ D.TOi1 (k1.extBut _ _ D.TOz hTO)
    refine wpAny_bind (wpAny_seqItems t2 rfl (wpAny_bind (wpAny_updateSeq_pair t2 fun g3 t3 k3 => ?_)))
    refine wpAny_bind (wpAny_letGo (wpAny_pure ?_))
    refine wpAny_bind (wpAny_bind (wpAny_onRaise ?_))
    show wpAny _ _ (Builtin.SmallTypes.nextOf (.ref i2) >>= _) _ _ _
    refine wpAny_bind (N2.done i { s with heap := g3 } _ _ hh (N2.keep _ _ _ h2 (fun o e => k3.extBut _ _ D.TOi2.symm (k2.extBut _ _ D.i12.symm (k1.extBut _ _ D.i2z e))) (fun o e => k3.extBut _ _ D.s2TO (k2.extBut _ _ D.s2i1 (k1.extBut _ _ D.s2z e)))) hy fun g4 e k4 he => ?_)
    obtain ⟨oe, hoe, hce⟩ := he
    have z4 : IsZip g4 z TI TO .ellipsis := k4 _ _ D.i2z.symm (k3.extBut _ _ D.TOz.symm (k2.extBut _ _ D.i1z.symm z1))
    have hez : e ≠ z := fun x => by subst x; rw [z4] at hoe; cases hoe; simp at hce
    exact wpAny_setField_rec z4 (by simp) fun g5 _ k5 => hE g5 e (fun c o c1 c2 c3 c4 x => k5.extBut _ _ c1 (k4 _ _ c4 (k3.extBut _ _ c2 (k2.extBut _ _ c3 (k1.extBut _ _ c1 x))))) ⟨oe, k5.extBut _ _ hez hoe, hce⟩
end
end L2
namespace L2
open PySem PySem.Spec PyProof.Rows
theorem sqT_ne {X : Cx} {pins : List (Addr × Obj)} {σ : St} {H : Hp} {s : Shared} {t b : Addr} {xs : List V} (I : Inv X pins σ H s) (h : SqT X.K H t xs) (f : FpOk X pins H b) : t ≠ b := fun z => by
  subst z
  obtain ⟨f0, f1, f2, f3, f4, f5⟩ := f
  rcases h with (h | ⟨_, h⟩) | ⟨o, its, n, hk, _⟩
  · rw [f0] at h; cases h
  · rw [f0] at h; cases h
  · have hb := I.ok.mod.kin _ _ hk
    rcases f3 with f3 | f3
    · exact I.ok.noex _ _ hb f3
    · exact absurd (Nat.lt_of_lt_of_le (Heap.lt_size (I.ok.bs _ _ hb).1) f3) (Nat.lt_irrefl _)
def ItzT (K : PySem.W.Frag) (t1 t2 : Addr) : It :=
  ⟨fun i H => ∃ xs ys x y, SqT K H t1 xs ∧ SqT K H t2 ys ∧ xs[i]? = some x ∧ ys[i]? = some y,
    fun i H x H' => ∃ p y1 y2, H p = none ∧ x = .ref p ∧ H' = upd H p (.tup [y1, y2]) ∧ (∀ xs, SqT K H t1 xs → xs[i]? = some y1) ∧ ∀ ys, SqT K H t2 ys → ys[i]? = some y2,
    fun i H => ∃ xs ys, SqT K H t1 xs ∧ SqT K H t2 ys ∧ (xs.length ≤ i ∨ ys.length ≤ i)⟩
def ZstT (z TI TO i1 i2 t1 t2 : Addr) (i : Nat) (h : Heap) : Prop := IsZip h z TI TO .none ∧ IsPair h TI (.ref i1) (.ref i2) ∧ (∃ a b, IsPair h TO a b) ∧ IsTupIter h i1 t1 i ∧ IsTupIter h i2 t2 i
theorem turn_zipT {P : Program} {w : World} {K : PySem.W.Frag} {elts : List Expr} {x1 : Nat} {pos : Pos} (z TI TO i1 i2 t1 t2 : Addr) (D0 : TI ≠ z ∧ TO ≠ z ∧ i1 ≠ z ∧ i2 ≠ z ∧ TI ≠ TO ∧ TI ≠ i1 ∧ TI ≠ i2 ∧ TO ≠ i1 ∧ TO ≠ i2 ∧ i1 ≠ i2) :
    Turn P w K (.Tuple elts x1 pos) (ItzT K t1 t2) [z, TI, TO, i1, i2] z (ZstT z TI TO i1 i2 t1 t2) where
  mem := by simp
  obj := fun i h st b hb => by
    obtain ⟨h1, h2, ⟨a, c, h3⟩, ⟨o4, h4, _, d4⟩, ⟨o5, h5, _, d5⟩⟩ := st
    simp only [List.mem_cons, List.not_mem_nil, or_false] at hb
    rcases hb with rfl | rfl | rfl | rfl | rfl
    · exact ⟨_, h1, fun v e => by have e' : Data.fields _ = Data.cell v := e; cases e'⟩
    · exact ⟨_, h2, fun v e => by have e' : Data.seq _ _ = Data.cell v := e; cases e'⟩
    · exact ⟨_, h3, fun v e => by have e' : Data.seq _ _ = Data.cell v := e; cases e'⟩
    · exact ⟨_, h4, fun v e => by rw [d4] at e; cases e⟩
    · exact ⟨_, h5, fun v e => by rw [d5] at e; cases e⟩
  keep := fun i h h' ⟨h1, h2, ⟨a, c, h3⟩, ⟨o4, h4, c4, d4⟩, ⟨o5, h5, c5, d5⟩⟩ k => ⟨k z (by simp) _ h1, k TI (by simp) _ h2, ⟨a, c, k TO (by simp) _ h3⟩, ⟨o4, k i1 (by simp) _ h4, c4, d4⟩, ⟨o5, k i2 (by simp) _ h5, c5, d5⟩⟩
  item := by
    intro X hP hw hK hc i pins s σ H E I hf st hg
    subst hP hw hK
    obtain ⟨xs, ys, x, y, hq1, hq2, hx, hy⟩ := hg
    obtain ⟨hz, hTI, ⟨a, b, hTO⟩, hi1, hi2⟩ := st
    obtain ⟨its1, r1, p1, _⟩ := I.tuple hq1
    obtain ⟨its2, r2, p2, _⟩ := I.tuple hq2
    obtain ⟨u1, hu1, ru1⟩ := r1.get hx
    obtain ⟨u2, hu2, ru2⟩ := r2.get hy
    obtain ⟨d1, d2, d3, d4, d5, d6, d7, d8, d9, d10⟩ := D0
    have ne1 : ∀ b ∈ [z, TI, TO, i1, i2], t1 ≠ b := fun b hb => sqT_ne I hq1 (hf b hb)
    have ne2 : ∀ b ∈ [z, TI, TO, i1, i2], t2 ≠ b := fun b hb => sqT_ne I hq2 (hf b hb)
    have D : ZA z TI TO i1 i2 t1 t2 := ⟨d1, d2, d3, d4, d5, d6, d7, d8, d9, d10, ne1 _ (by simp), ne1 _ (by simp), ne1 _ (by simp), ne2 _ (by simp), ne2 _ (by simp), ne2 _ (by simp)⟩
    have hT : s.TypeIs (.ref z) "zip" := ⟨_, hz, rfl⟩
    have nT : s.heap.get? s.heap.objs.size = none := Heap.get?_none_of_le (Nat.le_refl _)
    have lts : ∀ b ∈ [z, TI, TO, i1, i2], b < s.heap.objs.size := fun b hb => by
      obtain ⟨_, e4, _⟩ := hi1
      obtain ⟨_, e5, _⟩ := hi2
      simp only [List.mem_cons, List.not_mem_nil, or_false] at hb
      rcases hb with rfl | rfl | rfl | rfl | rfl
      · exact Heap.lt_size hz
      · exact Heap.lt_size hTI
      · exact Heap.lt_size hTO
      · exact Heap.lt_size e4
      · exact Heap.lt_size e5
    unfold pyNext
    refine wpAny_bind (wpAny_attempt (wpAny_callSpecial?_slot (name := Str.ofString "__next__") hT F.slot_zip_next (wpAny_call_entry F.slot_zip_next hT F.entry_zip_next
      (zn_item D (Nx.tup (items := its1.toArray) (ne1 _ (by simp))) (Nx.tup (items := its2.toArray) (ne2 _ (by simp))) hz hTI hTO ⟨hi1, p1⟩ ⟨hi2, p2⟩ (by simpa using hu1) (by simpa using hu2) fun h' a1 a2 a3 a4 a5 a6 hk => wpAny_pure ⟨_, rfl, ?_⟩) (F.args_zip_next_1 _))))
    refine wpAny_letOwnedTupleGo_zip (s := { s with heap := h' }) a1 fun h2 hz2 sb => ?_
    replace sb : Heap.SameBut z h' h2 := sb
    have zlt : z < s.heap.objs.size := lts z (by simp)
    have hT2 : h2.get? s.heap.objs.size = some { cls := .type "tuple", data := .seq #[u1, u2] } := (sb.2 _ (Nat.ne_of_gt zlt)).trans a5
    refine ⟨.ref s.heap.objs.size, upd H s.heap.objs.size (.tup [x, y]), Inv.turnedLaid (s := s) (h' := h2) (fp := [z, TI, TO, i1, i2]) (t' := s.toks) I hf (fun b v hb q => ?_) nT ?_, rfl, ⟨_, x, y, I.hok.none_of nT, rfl, rfl, fun l hl => by rw [I.tuple_inj hl hq1]; exact hx, fun l hl => by rw [I.tuple_inj hl hq2]; exact hy⟩,
      ⟨hz2, ?_, ⟨_, _, (sb.2 _ d2).trans a2⟩, ?_, ?_⟩, fun b hb => ?_⟩
    · have hbs : b ≠ z ∧ b ≠ TO ∧ b ≠ i1 ∧ b ≠ i2 := ⟨fun e => hb (by simp [e]), fun e => hb (by simp [e]), fun e => hb (by simp [e]), fun e => hb (by simp [e])⟩
      exact (sb.2 b hbs.1).trans (hk b v hbs.1 hbs.2.1 hbs.2.2.1 hbs.2.2.2 q)
    · exact ⟨by show 2 ≤ sizeLine; decide, _, .cons ru1 (.cons ru2 .nil), _, hT2, rfl, _, rfl⟩
    · exact (sb.2 _ d1).trans (hk _ _ d1 d5 d6 d7 hTI)
    · obtain ⟨o, e, r⟩ := a3.1
      exact ⟨o, (sb.2 _ d3).trans e, r⟩
    · obtain ⟨o, e, r⟩ := a4.1
      exact ⟨o, (sb.2 _ d4).trans e, r⟩
    · rw [upd_ne (Nat.ne_of_lt (lts b hb))]; exact (hf b hb).1
  done := by
    intro X hP hw hK hc i pins s σ H E I hf st hg
    subst hP hw hK
    obtain ⟨xs, ys, hq1, hq2, hend⟩ := hg
    obtain ⟨hz, hTI, ⟨a, b, hTO⟩, hi1, hi2⟩ := st
    obtain ⟨its1, r1, p1, _⟩ := I.tuple hq1
    obtain ⟨its2, r2, p2, _⟩ := I.tuple hq2
    have e1 := r1.length
    have e2 := r2.length
    obtain ⟨d1, d2, d3, d4, d5, d6, d7, d8, d9, d10⟩ := D0
    have ne1 : ∀ b ∈ [z, TI, TO, i1, i2], t1 ≠ b := fun b hb => sqT_ne I hq1 (hf b hb)
    have ne2 : ∀ b ∈ [z, TI, TO, i1, i2], t2 ≠ b := fun b hb => sqT_ne I hq2 (hf b hb)
    have D : ZA z TI TO i1 i2 t1 t2 := ⟨d1, d2, d3, d4, d5, d6, d7, d8, d9, d10, ne1 _ (by simp), ne1 _ (by simp), ne1 _ (by simp), ne2 _ (by simp), ne2 _ (by simp), ne2 _ (by simp)⟩
    have hT : s.TypeIs (.ref z) "zip" := ⟨_, hz, rfl⟩
    unfold pyNext
    refine wpAny_bind (wpAny_attempt (wpAny_callSpecial?_slot (name := Str.ofString "__next__") hT F.slot_zip_next (wpAny_call_entry F.slot_zip_next hT F.entry_zip_next
      (zn_end (show X.A.in1.handled = none from I.ok.hd hc) D (Nx.tup (items := its1.toArray) (ne1 _ (by simp))) (Nx.tup (items := its2.toArray) (ne2 _ (by simp))) hz hTI hTO ⟨hi1, p1⟩ ⟨hi2, p2⟩ ?_ fun h' e hk he => ?_) (F.args_zip_next_1 _))))
    · rcases hend with h | h
      · exact .inl (Array.getElem?_eq_none (by simp; omega))
      · exact .inr (Array.getElem?_eq_none (by simp; omega))
    · obtain ⟨o, ho, hoc⟩ := he
      refine wpAny_bind (wpAny_isInstance (T := "StopIteration") (b := true) ⟨o, ho, hoc⟩ isSubtype_stop ?_)
      refine wpAny_pure ⟨rfl, ?_⟩
      refine I.step (g' := s.gens) (d' := s.drawn) (t' := s.toks) (h' := h') (ch := [z, TI, TO, i1, i2]) (fun b hb => ⟨(hf b hb).2.2.2.1, (hf b hb).2.1, (hf b hb).2.2.2.2.1, (hf b hb).2.2.2.2.2⟩) (fun b u _ _ hc' q _ => ?_) (fun b u _ _ hc' q _ => ⟨u.slots, ?_⟩) (fun b u _ _ n => n) (fun b u hc' q => ⟨u, ?_⟩) (fun b xs q => q) (fun b u xs q => q) (fun b ps q => ⟨#[], by rw [q]; simp⟩) (fun m hm => ?_) (fun b u q => ?_) I.bare
      · exact hk b u (fun e => hc' (by simp [e])) (fun e => hc' (by simp [e])) (fun e => hc' (by simp [e])) (fun e => hc' (by simp [e])) q
      · exact hk b u (fun e => hc' (by simp [e])) (fun e => hc' (by simp [e])) (fun e => hc' (by simp [e])) (fun e => hc' (by simp [e])) q
      · exact hk b u (fun e => hc' (by simp [e])) (fun e => hc' (by simp [e])) (fun e => hc' (by simp [e])) (fun e => hc' (by simp [e])) q
      · obtain ⟨o', es, ep, ho', r⟩ := hm
        have nl : ∀ b ∈ [z, TI, TO, i1, i2], X.env.locals ≠ b := fun b hb => Ne.symm (hf b hb).2.1
        exact ⟨o', es, ep, hk _ o' (nl _ (by simp)) (nl _ (by simp)) (nl _ (by simp)) (nl _ (by simp)) ho', r⟩
      · have trk : ∀ b ∈ [z, TI, TO, i1, i2], ∀ c u, H c = some u → c ≠ b := fun b hb c u e z => by rw [z, (hf b hb).1] at e; cases e
        refine (I.hok b u q).stay (fun c v hc' e => ?_) (fun _ e => e) fun _ _ e => e
        have hcs : ∃ u', H c = some u' := by
          rcases hc' with rfl | hc'
          · exact ⟨_, q⟩
          · exact ⟨_, hc'⟩
        obtain ⟨u', hu'⟩ := hcs
        exact hk c v (trk _ (by simp) c u' hu') (trk _ (by simp) c u' hu') (trk _ (by simp) c u' hu') (trk _ (by simp) c u' hu') e
  self := fun A i s Q E st h => wpAny_pyIter_zip st.1 h
theorem sqL_ne {X : Cx} {pins : List (Addr × Obj)} {σ : St} {H : Hp} {s : Shared} {t b : Addr} {xs : List V} (I : Inv X pins σ H s) (h : SqL X.K H t xs) (f : FpOk X pins H b) : t ≠ b := fun z => by
  subst z
  obtain ⟨f0, f1, f2, f3, f4, f5⟩ := f
  rcases h with (h | ⟨_, h⟩) | ⟨o, its, n, hk, _⟩
  · rw [f0] at h; cases h
  · rw [f0] at h; cases h
  · have hb := I.ok.mod.kin _ _ hk
    rcases f3 with f3 | f3
    · exact I.ok.noex _ _ hb f3
    · exact absurd (Nat.lt_of_lt_of_le (Heap.lt_size (I.ok.bs _ _ hb).1) f3) (Nat.lt_irrefl _)
def ItzL (K : PySem.W.Frag) (t1 t2 : Addr) : It :=
  ⟨fun i H => ∃ xs ys x y, SqL K H t1 xs ∧ SqL K H t2 ys ∧ xs[i]? = some x ∧ ys[i]? = some y,
    fun i H x H' => ∃ p y1 y2, H p = none ∧ x = .ref p ∧ H' = upd H p (.tup [y1, y2]) ∧ (∀ xs, SqL K H t1 xs → xs[i]? = some y1) ∧ ∀ ys, SqL K H t2 ys → ys[i]? = some y2,
    fun i H => ∃ xs ys, SqL K H t1 xs ∧ SqL K H t2 ys ∧ (xs.length ≤ i ∨ ys.length ≤ i)⟩
def ZstL (z TI TO i1 i2 t1 t2 : Addr) (i : Nat) (h : Heap) : Prop := IsZip h z TI TO .none ∧ IsPair h TI (.ref i1) (.ref i2) ∧ (∃ a b, IsPair h TO a b) ∧ h.IsListIter i1 t1 i ∧ h.IsListIter i2 t2 i
theorem turn_zipL {P : Program} {w : World} {K : PySem.W.Frag} {elts : List Expr} {x1 : Nat} {pos : Pos} (z TI TO i1 i2 t1 t2 : Addr) (D0 : TI ≠ z ∧ TO ≠ z ∧ i1 ≠ z ∧ i2 ≠ z ∧ TI ≠ TO ∧ TI ≠ i1 ∧ TI ≠ i2 ∧ TO ≠ i1 ∧ TO ≠ i2 ∧ i1 ≠ i2) :
    Turn P w K (.Tuple elts x1 pos) (ItzL K t1 t2) [z, TI, TO, i1, i2] z (ZstL z TI TO i1 i2 t1 t2) where
  mem := by simp
  obj := fun i h st b hb => by
    obtain ⟨h1, h2, ⟨a, c, h3⟩, ⟨o4, h4, _, d4⟩, ⟨o5, h5, _, d5⟩⟩ := st
    simp only [List.mem_cons, List.not_mem_nil, or_false] at hb
    rcases hb with rfl | rfl | rfl | rfl | rfl
    · exact ⟨_, h1, fun v e => by have e' : Data.fields _ = Data.cell v := e; cases e'⟩
    · exact ⟨_, h2, fun v e => by have e' : Data.seq _ _ = Data.cell v := e; cases e'⟩
    · exact ⟨_, h3, fun v e => by have e' : Data.seq _ _ = Data.cell v := e; cases e'⟩
    · exact ⟨_, h4, fun v e => by rw [d4] at e; cases e⟩
    · exact ⟨_, h5, fun v e => by rw [d5] at e; cases e⟩
  keep := fun i h h' ⟨h1, h2, ⟨a, c, h3⟩, ⟨o4, h4, c4, d4⟩, ⟨o5, h5, c5, d5⟩⟩ k => ⟨k z (by simp) _ h1, k TI (by simp) _ h2, ⟨a, c, k TO (by simp) _ h3⟩, ⟨o4, k i1 (by simp) _ h4, c4, d4⟩, ⟨o5, k i2 (by simp) _ h5, c5, d5⟩⟩
  item := by
    intro X hP hw hK hc i pins s σ H E I hf st hg
    subst hP hw hK
    obtain ⟨xs, ys, x, y, hq1, hq2, hx, hy⟩ := hg
    obtain ⟨hz, hTI, ⟨a, b, hTO⟩, hi1, hi2⟩ := st
    obtain ⟨its1, r1, p1, _⟩ := I.list hq1
    obtain ⟨its2, r2, p2, _⟩ := I.list hq2
    obtain ⟨u1, hu1, ru1⟩ := r1.get hx
    obtain ⟨u2, hu2, ru2⟩ := r2.get hy
    obtain ⟨d1, d2, d3, d4, d5, d6, d7, d8, d9, d10⟩ := D0
    have ne1 : ∀ b ∈ [z, TI, TO, i1, i2], t1 ≠ b := fun b hb => sqL_ne I hq1 (hf b hb)
    have ne2 : ∀ b ∈ [z, TI, TO, i1, i2], t2 ≠ b := fun b hb => sqL_ne I hq2 (hf b hb)
    have D : ZA z TI TO i1 i2 t1 t2 := ⟨d1, d2, d3, d4, d5, d6, d7, d8, d9, d10, ne1 _ (by simp), ne1 _ (by simp), ne1 _ (by simp), ne2 _ (by simp), ne2 _ (by simp), ne2 _ (by simp)⟩
    have hT : s.TypeIs (.ref z) "zip" := ⟨_, hz, rfl⟩
    have nT : s.heap.get? s.heap.objs.size = none := Heap.get?_none_of_le (Nat.le_refl _)
    have lts : ∀ b ∈ [z, TI, TO, i1, i2], b < s.heap.objs.size := fun b hb => by
      obtain ⟨_, e4, _⟩ := hi1
      obtain ⟨_, e5, _⟩ := hi2
      simp only [List.mem_cons, List.not_mem_nil, or_false] at hb
      rcases hb with rfl | rfl | rfl | rfl | rfl
      · exact Heap.lt_size hz
      · exact Heap.lt_size hTI
      · exact Heap.lt_size hTO
      · exact Heap.lt_size e4
      · exact Heap.lt_size e5
    unfold pyNext
    refine wpAny_bind (wpAny_attempt (wpAny_callSpecial?_slot (name := Str.ofString "__next__") hT F.slot_zip_next (wpAny_call_entry F.slot_zip_next hT F.entry_zip_next
      (zn_item D (Nx.list (items := its1.toArray) (ne1 _ (by simp))) (Nx.list (items := its2.toArray) (ne2 _ (by simp))) hz hTI hTO ⟨hi1, p1.isList⟩ ⟨hi2, p2.isList⟩ (by simpa using hu1) (by simpa using hu2) fun h' a1 a2 a3 a4 a5 a6 hk => wpAny_pure ⟨_, rfl, ?_⟩) (F.args_zip_next_1 _))))
    refine wpAny_letOwnedTupleGo_zip (s := { s with heap := h' }) a1 fun h2 hz2 sb => ?_
    replace sb : Heap.SameBut z h' h2 := sb
    have zlt : z < s.heap.objs.size := lts z (by simp)
    have hT2 : h2.get? s.heap.objs.size = some { cls := .type "tuple", data := .seq #[u1, u2] } := (sb.2 _ (Nat.ne_of_gt zlt)).trans a5
    refine ⟨.ref s.heap.objs.size, upd H s.heap.objs.size (.tup [x, y]), Inv.turnedLaid (s := s) (h' := h2) (fp := [z, TI, TO, i1, i2]) (t' := s.toks) I hf (fun b v hb q => ?_) nT ?_, rfl, ⟨_, x, y, I.hok.none_of nT, rfl, rfl, fun l hl => by rw [I.list_inj hl hq1]; exact hx, fun l hl => by rw [I.list_inj hl hq2]; exact hy⟩,
      ⟨hz2, ?_, ⟨_, _, (sb.2 _ d2).trans a2⟩, ?_, ?_⟩, fun b hb => ?_⟩
    · have hbs : b ≠ z ∧ b ≠ TO ∧ b ≠ i1 ∧ b ≠ i2 := ⟨fun e => hb (by simp [e]), fun e => hb (by simp [e]), fun e => hb (by simp [e]), fun e => hb (by simp [e])⟩
      exact (sb.2 b hbs.1).trans (hk b v hbs.1 hbs.2.1 hbs.2.2.1 hbs.2.2.2 q)
    · exact ⟨by show 2 ≤ sizeLine; decide, _, .cons ru1 (.cons ru2 .nil), _, hT2, rfl, _, rfl⟩
    · exact (sb.2 _ d1).trans (hk _ _ d1 d5 d6 d7 hTI)
    · obtain ⟨o, e, r⟩ := a3.1
      exact ⟨o, (sb.2 _ d3).trans e, r⟩
    · obtain ⟨o, e, r⟩ := a4.1
      exact ⟨o, (sb.2 _ d4).trans e, r⟩
    · rw [upd_ne (Nat.ne_of_lt (lts b hb))]; exact (hf b hb).1
  done := by
    intro X hP hw hK hc i pins s σ H E I hf st hg
    subst hP hw hK
    obtain ⟨xs, ys, hq1, hq2, hend⟩ := hg
    obtain ⟨hz, hTI, ⟨a, b, hTO⟩, hi1, hi2⟩ := st
    obtain ⟨its1, r1, p1, _⟩ := I.list hq1
    obtain ⟨its2, r2, p2, _⟩ := I.list hq2
    have e1 := r1.length
    have e2 := r2.length
    obtain ⟨d1, d2, d3, d4, d5, d6, d7, d8, d9, d10⟩ := D0
    have ne1 : ∀ b ∈ [z, TI, TO, i1, i2], t1 ≠ b := fun b hb => sqL_ne I hq1 (hf b hb)
    have ne2 : ∀ b ∈ [z, TI, TO, i1, i2], t2 ≠ b := fun b hb => sqL_ne I hq2 (hf b hb)
    have D : ZA z TI TO i1 i2 t1 t2 := ⟨d1, d2, d3, d4, d5, d6, d7, d8, d9, d10, ne1 _ (by simp), ne1 _ (by simp), ne1 _ (by simp), ne2 _ (by simp), ne2 _ (by simp), ne2 _ (by simp)⟩
    have hT : s.TypeIs (.ref z) "zip" := ⟨_, hz, rfl⟩
    unfold pyNext
    refine wpAny_bind (wpAny_attempt (wpAny_callSpecial?_slot (name := Str.ofString "__next__") hT F.slot_zip_next (wpAny_call_entry F.slot_zip_next hT F.entry_zip_next
      (zn_end (show X.A.in1.handled = none from I.ok.hd hc) D (Nx.list (items := its1.toArray) (ne1 _ (by simp))) (Nx.list (items := its2.toArray) (ne2 _ (by simp))) hz hTI hTO ⟨hi1, p1.isList⟩ ⟨hi2, p2.isList⟩ ?_ fun h' e hk he => ?_) (F.args_zip_next_1 _))))
    · rcases hend with h | h
      · exact .inl (Array.getElem?_eq_none (by simp; omega))
      · exact .inr (Array.getElem?_eq_none (by simp; omega))
    · obtain ⟨o, ho, hoc⟩ := he
      refine wpAny_bind (wpAny_isInstance (T := "StopIteration") (b := true) ⟨o, ho, hoc⟩ isSubtype_stop ?_)
      refine wpAny_pure ⟨rfl, ?_⟩
      refine I.step (g' := s.gens) (d' := s.drawn) (t' := s.toks) (h' := h') (ch := [z, TI, TO, i1, i2]) (fun b hb => ⟨(hf b hb).2.2.2.1, (hf b hb).2.1, (hf b hb).2.2.2.2.1, (hf b hb).2.2.2.2.2⟩) (fun b u _ _ hc' q _ => ?_) (fun b u _ _ hc' q _ => ⟨u.slots, ?_⟩) (fun b u _ _ n => n) (fun b u hc' q => ⟨u, ?_⟩) (fun b xs q => q) (fun b u xs q => q) (fun b ps q => ⟨#[], by rw [q]; simp⟩) (fun m hm => ?_) (fun b u q => ?_) I.bare
      · exact hk b u (fun e => hc' (by simp [e])) (fun e => hc' (by simp [e])) (fun e => hc' (by simp [e])) (fun e => hc' (by simp [e])) q
      · exact hk b u (fun e => hc' (by simp [e])) (fun e => hc' (by simp [e])) (fun e => hc' (by simp [e])) (fun e => hc' (by simp [e])) q
      · exact hk b u (fun e => hc' (by simp [e])) (fun e => hc' (by simp [e])) (fun e => hc' (by simp [e])) (fun e => hc' (by simp [e])) q
      · obtain ⟨o', es, ep, ho', r⟩ := hm
        have nl : ∀ b ∈ [z, TI, TO, i1, i2], X.env.locals ≠ b := fun b hb => Ne.symm (hf b hb).2.1
        exact ⟨o', es, ep, hk _ o' (nl _ (by simp)) (nl _ (by simp)) (nl _ (by simp)) (nl _ (by simp)) ho', r⟩
      · have trk : ∀ b ∈ [z, TI, TO, i1, i2], ∀ c u, H c = some u → c ≠ b := fun b hb c u e z => by rw [z, (hf b hb).1] at e; cases e
        refine (I.hok b u q).stay (fun c v hc' e => ?_) (fun _ e => e) fun _ _ e => e
        have hcs : ∃ u', H c = some u' := by
          rcases hc' with rfl | hc'
          · exact ⟨_, q⟩
          · exact ⟨_, hc'⟩
        obtain ⟨u', hu'⟩ := hcs
        exact hk c v (trk _ (by simp) c u' hu') (trk _ (by simp) c u' hu') (trk _ (by simp) c u' hu') (trk _ (by simp) c u' hu') e
  self := fun A i s Q E st h => wpAny_pyIter_zip st.1 h
end L2
namespace L2
open PySem PySem.Spec PyProof.Rows
abbrev zq1T (h : Heap) (l1 : Addr) : Heap := h.push { cls := .type "tuple_iterator", data := .fields #[.ref l1, .int 0 0] }
abbrev zq2T (h : Heap) (l1 l2 : Addr) : Heap := (zq1T h l1).push { cls := .type "tuple_iterator", data := .fields #[.ref l2, .int 0 0] }
abbrev zq3T (h : Heap) (l1 l2 : Addr) : Heap := (zq2T h l1 l2).push { cls := .type "tuple", data := .seq #[.ref h.objs.size, .ref (zq1T h l1).objs.size] }
abbrev zq4T (h : Heap) (l1 l2 : Addr) : Heap := (zq3T h l1 l2).push { cls := .type "tuple", data := .seq #[.none, .none] }
abbrev zq5T (h : Heap) (l1 l2 : Addr) : Heap := (zq4T h l1 l2).push { cls := .type "zip", data := .fields #[.none, .bool false, .bool false, .ref (zq2T h l1 l2).objs.size, .ref (zq3T h l1 l2).objs.size] }
theorem zip_newT (l1 l2 : Addr) (xs ys : Array Value) : Meets (Builtin.«zip.__new__» ⟨[.type "zip", .ref l1, .ref l2], []⟩) (fun _ R s => IsTup s.heap l1 xs ∧ IsTup s.heap l2 ys ∧ R (.ok (.ret (.ref (zq4T s.heap l1 l2).objs.size))) { s with heap := zq5T s.heap l1 l2 }) :=
  .of_wp fun prog w A R s h => by
    obtain ⟨hp, g, d, tk, os⟩ := s; obtain ⟨a1, a2, h⟩ := h
    have sz := sub_zip
    have b1 : IsTup (Shared.heap ⟨hp, g, d, tk, os⟩) l1 xs := a1
    have b2 : IsTup (Shared.heap ⟨hp.push { cls := .type "tuple_iterator", data := .fields #[.ref l1, .int 0 0] }, g, d, tk, os⟩) l2 ys := IsTup.push a2 _
    wp_walk using iter_tuple b1, iter_tuple b2
    exact ⟨_, rfl, h⟩
theorem zip_callT {prog : Program} {w : World} {A : Around} {E : Value → Shared → Prop} {s : Shared} {l1 l2 : Addr} {xs ys : Array Value} {Q : Value → Shared → Prop} (hl1 : IsTup s.heap l1 xs) (hl2 : IsTup s.heap l2 ys)
    (h : ∀ h', ZstT (s.heap.objs.size + 4) (s.heap.objs.size + 2) (s.heap.objs.size + 3) s.heap.objs.size (s.heap.objs.size + 1) l1 l2 0 h' → h'.objs.size = s.heap.objs.size + 5 → (∀ c o, s.heap.get? c = some o → h'.get? c = some o) → Q (.ref (s.heap.objs.size + 4)) { s with heap := h' }) :
    wpAny (model prog w) A (call (.type "zip") [.ref l1, .ref l2]) Q E s := by
  refine callType_new F.called_zip (by decide) (F.typeCall_zip_2 _ _) (F.newCall_zip_2 _ _) (fun obj => F.args_object_init_3 obj _ _) F.entry_zip_new (zip_newT l1 l2 xs ys) ⟨hl1, hl2, ?_⟩
  have z1 : (zq1T s.heap l1).objs.size = s.heap.objs.size + 1 := Heap.size_push ..
  have z2 : (zq2T s.heap l1 l2).objs.size = s.heap.objs.size + 2 := by rw [Heap.size_push, z1]
  have z3 : (zq3T s.heap l1 l2).objs.size = s.heap.objs.size + 3 := by rw [Heap.size_push, z2]
  have z4 : (zq4T s.heap l1 l2).objs.size = s.heap.objs.size + 4 := by rw [Heap.size_push, z3]
  have z5 : (zq5T s.heap l1 l2).objs.size = s.heap.objs.size + 5 := by rw [Heap.size_push, z4]
  have g5 : (zq5T s.heap l1 l2).get? (zq4T s.heap l1 l2).objs.size = some _ := Heap.get?_push_size _ rfl
  have g4 : (zq5T s.heap l1 l2).get? (zq3T s.heap l1 l2).objs.size = some _ := Heap.get?_push_of_some _ (Heap.get?_push_size _ rfl)
  have g3 : (zq5T s.heap l1 l2).get? (zq2T s.heap l1 l2).objs.size = some _ := Heap.get?_push_of_some _ (Heap.get?_push_of_some _ (Heap.get?_push_size _ rfl))
  have g2 : (zq5T s.heap l1 l2).get? (zq1T s.heap l1).objs.size = some _ := Heap.get?_push_of_some _ (Heap.get?_push_of_some _ (Heap.get?_push_of_some _ (Heap.get?_push_size _ rfl)))
  have g1 : (zq5T s.heap l1 l2).get? s.heap.objs.size = some _ := Heap.get?_push_of_some _ (Heap.get?_push_of_some _ (Heap.get?_push_of_some _ (Heap.get?_push_of_some _ (Heap.get?_push_size _ rfl))))
  show _ ∧ _
  rw [z2, z3, z4] at g5
  rw [z1, z2] at g3
  rw [z3] at g4
  rw [z1] at g2
  rw [z4]
  exact ⟨⟨_, g5, rfl⟩, h _ ⟨g5, g3, ⟨_, _, g4⟩, ⟨_, g1, rfl, rfl⟩, ⟨_, g2, rfl, rfl⟩⟩ z5 fun c o x => Heap.get?_push_of_some _ (Heap.get?_push_of_some _ (Heap.get?_push_of_some _ (Heap.get?_push_of_some _ (Heap.get?_push_of_some _ x))))⟩
def iZipT (K : PySem.W.Frag) (ta : TA) : TI := fun σ H R => ta σ H fun vs H1 => ∃ a b, vs = [.ref a, .ref b] ∧ (∃ xs, SqT K H1 a xs) ∧ (∃ ys, SqT K H1 b ys) ∧ R (ItzT K a b) H1
theorem pi_zipT {X : Cx} {a b : Expr} {ta : TA} {elts : List Expr} {x1 : Nat} {p pos pt : Pos} (hg : Gl X "zip") (hm : X.mg "zip" = none) (ha : PA X [a, b] ta) (hs : starEach [a, b] X.env = [(false, eval a X.env), (false, eval b X.env)] := by rfl)
    (he : starEach [a, b] X.env = (false, eval a X.env) :: starEach [b] X.env := by rfl) (hpl : (backTo pos (starEach [b] X.env)).any (·.1) = false := by rfl) :
    PI X (.Tuple elts x1 pt) (.Call (.Name "zip" p) [a, b] [] pos) (iZipT X.K ta) := by
  intro pins s σ H R I h
  refine wpAny_Call_Name_kw (ld_blt I hg hm bt_zip ?_ (by decide) (by decide))
  refine PyProof.Rows.callWith_type1 (thn (ha pos pins s σ H _ I h) fun us s1 ⟨vs, H1, I1, r1, l1, l2, ev, ⟨xs, hq1⟩, ⟨ys, hq2⟩, q⟩ => ?_) he hpl
  subst ev
  obtain ⟨u1, u2, rfl, ru1, ru2⟩ := vals2 r1
  cases (show u1 = Value.ref l1 from ru1)
  cases (show u2 = Value.ref l2 from ru2)
  obtain ⟨its1, r1', p1, _⟩ := I1.tuple hq1
  obtain ⟨its2, r2', p2, _⟩ := I1.tuple hq2
  refine zip_callT p1 p2 fun h' st sz kk => ?_
  refine wpAny_pyIter_zip (s := { s1 with heap := h' }) st.1 ?_
  refine ⟨s1.heap.objs.size + 4, [s1.heap.objs.size + 4, s1.heap.objs.size + 2, s1.heap.objs.size + 3, s1.heap.objs.size, s1.heap.objs.size + 1], _, _, H1, rfl, I1.kept (t' := s1.toks) kk, turn_zipT _ _ _ _ _ l1 l2 ?_, st, fun b hb => ?_, q⟩
  · generalize s1.heap.objs.size = n
    refine ⟨?_, ?_, ?_, ?_, ?_, ?_, ?_, ?_, ?_, ?_⟩ <;> (intro z; have z' : (_ : Nat) = _ := z; omega)
  · have hb' : s1.heap.objs.size ≤ b := by
      simp only [List.mem_cons, List.not_mem_nil, or_false] at hb
      rcases hb with rfl | rfl | rfl | rfl | rfl
      · exact Nat.le_add_right _ _
      · exact Nat.le_add_right _ _
      · exact Nat.le_add_right _ _
      · exact Nat.le_refl _
      · exact Nat.le_add_right _ _
    exact I1.fpOk hb' (I1.hok.fresh hb')
theorem for_zipT {K : PySem.W.Frag} {a b : Addr} {xs ys : List V} {g : TG} {tb : TS} {D : Ends} {σ : St} {H : Hp} (hle : xs.length = ys.length) (Pv : Nat → St → Hp → Prop) (h0 : Pv 0 σ H) (hl : ∀ i σ H, i ≤ xs.length → Pv i σ H → SqT K H a xs ∧ SqT K H b ys)
    (hs : ∀ i x y p σ H, xs[i]? = some x → ys[i]? = some y → H p = none → Pv i σ H → g (.ref p) σ (upd H p (.tup [x, y])) fun σ2 H2 => tb { D with nx := Pv (i + 1), ct := Pv (i + 1), bk := D.nx } σ2 H2) (hd : ∀ σ H, Pv xs.length σ H → D.nx σ H) :
    ∃ W : Nat → Nat → St → Hp → Prop, (∃ m, W 0 m σ H) ∧ ∀ i m σ H, W i m σ H →
      ((ItzT K a b).stop i H ∧ D.nx σ H) ∨ ((ItzT K a b).go i H ∧ ∃ N : St → Hp → Prop, (∀ σ' H', N σ' H' → ∃ m', m' < m ∧ W (i + 1) m' σ' H') ∧ ∀ x H', (ItzT K a b).yld i H x H' → g x σ H' fun σ2 H2 => tb { D with nx := N, ct := N, bk := D.nx } σ2 H2) := by
  refine ⟨fun i m σ H => m = xs.length - i ∧ i ≤ xs.length ∧ Pv i σ H, ⟨xs.length, by simp, Nat.zero_le _, h0⟩, ?_⟩
  rintro i m σ H ⟨rfl, hi, p⟩
  obtain ⟨q1, q2⟩ := hl i σ H hi p
  by_cases hlt : i < xs.length
  · refine .inr ⟨⟨xs, ys, xs[i], ys[i], q1, q2, by simp [hlt], by simp [show i < ys.length by omega]⟩, Pv (i + 1), fun σ' H' p' => ⟨xs.length - (i + 1), by omega, rfl, hlt, p'⟩, fun x H' z => ?_⟩
    obtain ⟨P, y1, y2, hn, rfl, rfl, e1, e2⟩ := z
    exact hs i y1 y2 P σ _ (e1 xs q1) (e2 ys q2) hn p
  · have e : i = xs.length := by omega
    subst e
    exact .inl ⟨⟨xs, ys, q1, q2, .inl (Nat.le_refl _)⟩, hd σ H p⟩
abbrev zq1L (h : Heap) (l1 : Addr) : Heap := h.push { cls := .type "list_iterator", data := .fields #[.ref l1, .int 0 0] }
abbrev zq2L (h : Heap) (l1 l2 : Addr) : Heap := (zq1L h l1).push { cls := .type "list_iterator", data := .fields #[.ref l2, .int 0 0] }
abbrev zq3L (h : Heap) (l1 l2 : Addr) : Heap := (zq2L h l1 l2).push { cls := .type "tuple", data := .seq #[.ref h.objs.size, .ref (zq1L h l1).objs.size] }
abbrev zq4L (h : Heap) (l1 l2 : Addr) : Heap := (zq3L h l1 l2).push { cls := .type "tuple", data := .seq #[.none, .none] }
abbrev zq5L (h : Heap) (l1 l2 : Addr) : Heap := (zq4L h l1 l2).push { cls := .type "zip", data := .fields #[.none, .bool false, .bool false, .ref (zq2L h l1 l2).objs.size, .ref (zq3L h l1 l2).objs.size] }
theorem zip_newL (l1 l2 : Addr) (xs ys : Array Value) : Meets (Builtin.«zip.__new__» ⟨[.type "zip", .ref l1, .ref l2], []⟩) (fun _ R s => Heap.IsList s.heap l1 xs ∧ Heap.IsList s.heap l2 ys ∧ R (.ok (.ret (.ref (zq4L s.heap l1 l2).objs.size))) { s with heap := zq5L s.heap l1 l2 }) :=
  .of_wp fun prog w A R s h => by
    obtain ⟨hp, g, d, tk, os⟩ := s; obtain ⟨a1, a2, h⟩ := h
    have sz := sub_zip
    have b1 : Heap.IsList (Shared.heap ⟨hp, g, d, tk, os⟩) l1 xs := a1
    have b2 : Heap.IsList (Shared.heap ⟨hp.push { cls := .type "list_iterator", data := .fields #[.ref l1, .int 0 0] }, g, d, tk, os⟩) l2 ys := Heap.IsList.push a2 _
    wp_walk using wpAny_pyIter_list b1, wpAny_pyIter_list b2
    exact ⟨_, rfl, h⟩
theorem zip_callL {prog : Program} {w : World} {A : Around} {E : Value → Shared → Prop} {s : Shared} {l1 l2 : Addr} {xs ys : Array Value} {Q : Value → Shared → Prop} (hl1 : Heap.IsList s.heap l1 xs) (hl2 : Heap.IsList s.heap l2 ys)
    (h : ∀ h', ZstL (s.heap.objs.size + 4) (s.heap.objs.size + 2) (s.heap.objs.size + 3) s.heap.objs.size (s.heap.objs.size + 1) l1 l2 0 h' → h'.objs.size = s.heap.objs.size + 5 → (∀ c o, s.heap.get? c = some o → h'.get? c = some o) → Q (.ref (s.heap.objs.size + 4)) { s with heap := h' }) :
    wpAny (model prog w) A (call (.type "zip") [.ref l1, .ref l2]) Q E s := by
  refine callType_new F.called_zip (by decide) (F.typeCall_zip_2 _ _) (F.newCall_zip_2 _ _) (fun obj => F.args_object_init_3 obj _ _) F.entry_zip_new (zip_newL l1 l2 xs ys) ⟨hl1, hl2, ?_⟩
  have z1 : (zq1L s.heap l1).objs.size = s.heap.objs.size + 1 := Heap.size_push ..
  have z2 : (zq2L s.heap l1 l2).objs.size = s.heap.objs.size + 2 := by rw [Heap.size_push, z1]
  have z3 : (zq3L s.heap l1 l2).objs.size = s.heap.objs.size + 3 := by rw [Heap.size_push, z2]
  have z4 : (zq4L s.heap l1 l2).objs.size = s.heap.objs.size + 4 := by rw [Heap.size_push, z3]
  have z5 : (zq5L s.heap l1 l2).objs.size = s.heap.objs.size + 5 := by rw [Heap.size_push, z4]
  have g5 : (zq5L s.heap l1 l2).get? (zq4L s.heap l1 l2).objs.size = some _ := Heap.get?_push_size _ rfl
  have g4 : (zq5L s.heap l1 l2).get? (zq3L s.heap l1 l2).objs.size = some _ := Heap.get?_push_of_some _ (Heap.get?_push_size _ rfl)
  have g3 : (zq5L s.heap l1 l2).get? (zq2L s.heap l1 l2).objs.size = some _ := Heap.get?_push_of_some _ (Heap.get?_push_of_some _ (Heap.get?_push_size _ rfl))
  have g2 : (zq5L s.heap l1 l2).get? (zq1L s.heap l1).objs.size = some _ := Heap.get?_push_of_some _ (Heap.get?_push_of_some _ (Heap.get?_push_of_some _ (Heap.get?_push_size _ rfl)))
  have g1 : (zq5L s.heap l1 l2).get? s.heap.objs.size = some _ := Heap.get?_push_of_some _ (Heap.get?_push_of_some _ (Heap.get?_push_of_some _ (Heap.get?_push_of_some _ (Heap.get?_push_size _ rfl))))
  show _ ∧ _
  rw [z2, z3, z4] at g5
  rw [z1, z2] at g3
  rw [z3] at g4
  rw [z1] at g2
  rw [z4]
  exact ⟨⟨_, g5, rfl⟩, h _ ⟨g5, g3, ⟨_, _, g4⟩, ⟨_, g1, rfl, rfl⟩, ⟨_, g2, rfl, rfl⟩⟩ z5 fun c o x => Heap.get?_push_of_some _ (Heap.get?_push_of_some _ (Heap.get?_push_of_some _ (Heap.get?_push_of_some _ (Heap.get?_push_of_some _ x))))⟩
def iZipL (K : PySem.W.Frag) (ta : TA) : TI := fun σ H R => ta σ H fun vs H1 => ∃ a b, vs = [.ref a, .ref b] ∧ (∃ xs, SqL K H1 a xs) ∧ (∃ ys, SqL K H1 b ys) ∧ R (ItzL K a b) H1
theorem pi_zipL {X : Cx} {a b : Expr} {ta : TA} {elts : List Expr} {x1 : Nat} {p pos pt : Pos} (hg : Gl X "zip") (hm : X.mg "zip" = none) (ha : PA X [a, b] ta) (hs : starEach [a, b] X.env = [(false, eval a X.env), (false, eval b X.env)] := by rfl)
    (he : starEach [a, b] X.env = (false, eval a X.env) :: starEach [b] X.env := by rfl) (hpl : (backTo pos (starEach [b] X.env)).any (·.1) = false := by rfl) :
    PI X (.Tuple elts x1 pt) (.Call (.Name "zip" p) [a, b] [] pos) (iZipL X.K ta) := by
  intro pins s σ H R I h
  refine wpAny_Call_Name_kw (ld_blt I hg hm bt_zip ?_ (by decide) (by decide))
  refine PyProof.Rows.callWith_type1 (thn (ha pos pins s σ H _ I h) fun us s1 ⟨vs, H1, I1, r1, l1, l2, ev, ⟨xs, hq1⟩, ⟨ys, hq2⟩, q⟩ => ?_) he hpl
  subst ev
  obtain ⟨u1, u2, rfl, ru1, ru2⟩ := vals2 r1
  cases (show u1 = Value.ref l1 from ru1)
  cases (show u2 = Value.ref l2 from ru2)
  obtain ⟨its1, r1', p1, _⟩ := I1.list hq1
  obtain ⟨its2, r2', p2, _⟩ := I1.list hq2
  refine zip_callL p1.isList p2.isList fun h' st sz kk => ?_
  refine wpAny_pyIter_zip (s := { s1 with heap := h' }) st.1 ?_
  refine ⟨s1.heap.objs.size + 4, [s1.heap.objs.size + 4, s1.heap.objs.size + 2, s1.heap.objs.size + 3, s1.heap.objs.size, s1.heap.objs.size + 1], _, _, H1, rfl, I1.kept (t' := s1.toks) kk, turn_zipL _ _ _ _ _ l1 l2 ?_, st, fun b hb => ?_, q⟩
  · generalize s1.heap.objs.size = n
    refine ⟨?_, ?_, ?_, ?_, ?_, ?_, ?_, ?_, ?_, ?_⟩ <;> (intro z; have z' : (_ : Nat) = _ := z; omega)
  · have hb' : s1.heap.objs.size ≤ b := by
      simp only [List.mem_cons, List.not_mem_nil, or_false] at hb
      rcases hb with rfl | rfl | rfl | rfl | rfl
      · exact Nat.le_add_right _ _
      · exact Nat.le_add_right _ _
      · exact Nat.le_add_right _ _
      · exact Nat.le_refl _
      · exact Nat.le_add_right _ _
    exact I1.fpOk hb' (I1.hok.fresh hb')
end L2
namespace L2
open PySem PySem.Spec PyProof.Rows
section
variable {prog : Program} {w : World} {A : Around} {E : Value → Shared → Prop} {s : Shared} {d it v : Addr} {o : Obj} {es : Array DictEntry} {i ep : Nat}
theorem rv_view {Q : Value → Shared → Prop} (hd : (d == sysModules) = false) (ho : s.heap.get? d = some o) (hc : o.ExactDict)
    (h : Q (.ref s.heap.objs.size) { s with heap := s.heap.push { cls := .type "dict_values", data := .fields #[.ref d] } }) : wpAny (model prog w) A (call (.builtin "dict.values") [.ref d]) Q E s := by
  have hT : s.TypeIs (.ref d) "dict" := ⟨o, ho, hc.1⟩
  refine wpAny_call_entry F.slot_dict_values hT F.entry_dict_values ?_ (F.args_dict_values_1 _)
  refine wpAny_bind ?_
  unfold Builtin.Dict.noArgs
  refine wpAny_bind (wpAny_notOrdered_dict hT ?_)
  show wpAny _ _ (pure d) _ _ s
  refine wpAny_pure ?_
  show wpAny _ _ (Builtin.Dict.showsAll d >>= _) _ _ s
  unfold Builtin.Dict.showsAll
  rw [if_neg (by rw [hd]; exact Bool.false_ne_true)]
  exact wpAny_bind (wpAny_pure (wpAny_bind (wpAny_newObj_type (wpAny_pure ⟨_, rfl, h⟩))))
theorem rv_iter {Q : Value → Shared → Prop} (hv : s.heap.IsValuesView v d) (ho : s.heap.get? d = some o) (hdat : o.data = .dict es ep)
    (hQ : Q (.ref s.heap.objs.size) { s with heap := s.heap.push { cls := .type "dict_valueiterator", data := .fields #[.ref d, .int 0 0, .int es.size 0, .int ep 0] } }) : wpAny (model prog w) A (pyIter (.ref v)) Q E s := by
  obtain ⟨ob, hov, hcv, hdv⟩ := id hv
  refine wpAny_pyIter_slot hv.typeIs F.slot_dict_values_iter (wpAny_call_entry F.slot_dict_values_iter hv.typeIs F.entry_dict_values_iter ?_ (F.args_dict_values_iter_1 _))
  unfold Builtin.«dict_values.__iter__»
  refine wpAny_bind (wpAny_pure (wpAny_bind ?_))
  unfold Builtin.Dict_items.dictOf
  refine wpAny_bind (wpAny_field hov hdv (x := .ref d) rfl (wpAny_pure (wpAny_bind ?_)))
  unfold Builtin.Dict_items.newIterator
  refine wpAny_bind (wpAny_dictEntries ho hdat (wpAny_bind (wpAny_dictEpoch ho hdat ?_)))
  simp only [show Builtin.Dict_items.ownsTuple "dict_valueiterator" = false by decide, Bool.false_eq_true, if_false]
  refine wpAny_newObj_type (wpAny_pure ⟨_, rfl, "dict_valueiterator", _, ⟨_, Heap.get?_push_size _ rfl, rfl⟩, F.slot_dict_valueiterator_next.lookup, ?_⟩)
  simpa [rawInt] using hQ
theorem rv_next {Q : Option Value → Shared → Prop} (hit : s.heap.IsValIter it d i es.size ep) (hod : s.heap.get? d = some o) (hdd : o.data = .dict es ep) (hi : i < es.size)
    (hQ : ∀ h', h'.IsValIter it d (i + 1) es.size ep → Heap.SameBut it s.heap h' → Q (some es[i].val) { s with heap := h' }) : wpAny (model prog w) A (pyNext (.ref it)) Q E s := by
  obtain ⟨oi, ho, hc, hd⟩ := id hit
  unfold pyNext
  refine wpAny_bind (wpAny_attempt (wpAny_callSpecial?_slot (name := Str.ofString "__next__") hit.typeIs F.slot_dict_valueiterator_next
    (wpAny_call_entry F.slot_dict_valueiterator_next hit.typeIs F.entry_dict_valueiterator_next ?_ (F.args_dict_valueiterator_next_1 _))))
  refine wpAny_bind (wpAny_pure (wpAny_bind (wpAny_bind ?_)))
  first | refine wpAny_bind (wpAny_typeNameOfWhole_valiter hit.typeIs (wpAny_pure ?_)) | refine wpAny_bind (wpAny_typeNameOf_valiter hit.typeIs (wpAny_pure ?_))
  refine wpAny_bind (wpAny_fieldsOf ho hd ?_)
  simp only [show Builtin.Dict_items.ownsTuple "dict_valueiterator" = false by decide, Bool.false_eq_true, if_false]
  show wpAny _ _ (if (Value.ref d == Value.none) = true then _ else _) _ _ s
  rw [if_neg (show ¬ ((Value.ref d == Value.none) = true) from Bool.false_ne_true)]
  refine wpAny_bind (wpAny_pure (wpAny_bind (wpAny_dictEntries hod hdd ?_)))
  rw [if_neg (by simp)]
  refine wpAny_bind (wpAny_pure (wpAny_bind (wpAny_dictEpoch hod hdd ?_)))
  rw [if_neg (by simp)]
  refine wpAny_pure ?_
  simp only [show ¬ ((i : Int) < 0) from by omega, if_false, Int.toNat_natCast, Array.getElem?_eq_getElem hi]
  refine wpAny_bind ?_
  first | refine wpAny_bind (wpAny_typeNameOfWhole_valiter hit.typeIs (wpAny_pure ?_)) | refine wpAny_bind (wpAny_typeNameOf_valiter hit.typeIs (wpAny_pure ?_))
  refine wpAny_bind (wpAny_isOneOf_valiter hit.typeIs ?_)
  show wpAny _ _ (setField (.ref it) 1 (rawInt ((i : Int) + 1)) >>= _) _ _ s
  refine wpAny_bind (wpAny_setField ho hd (by simp) ?_)
  have new : (s.heap.update it (Obj.mapFields (·.setIfInBounds 1 (rawInt ((i : Int) + 1))))).IsValIter it d (i + 1) es.size ep :=
    ⟨_, Heap.get?_update_self _ ho (Obj.isFreed_of_fields (Obj.data_mapFields hd _)), (Obj.cls_mapFields ..).trans hc, by rw [Obj.data_mapFields hd]; simp [rawInt]⟩
  refine wpAny_bind (wpAny_holding (wpAny_bind (wpAny_isOneOf_valiter (s := { s with heap := s.heap.update it (Obj.mapFields (·.setIfInBounds 1 (rawInt ((i : Int) + 1)))) }) new.typeIs ?_)))
  refine wpAny_bind (wpAny_isOneOf_valiter (s := { s with heap := s.heap.update it (Obj.mapFields (·.setIfInBounds 1 (rawInt ((i : Int) + 1)))) }) new.typeIs ?_)
  show wpAny _ _ (pure es[i].val) _ _ _
  exact wpAny_pure (wpAny_pure ⟨_, rfl, wpAny_pure (hQ _ new (Heap.SameBut.update ..))⟩)
theorem rv_end {Q : Option Value → Shared → Prop} (hh : A.handled = none) (hit : s.heap.IsValIter it d i es.size ep) (hod : s.heap.get? d = some o) (hdd : o.data = .dict es ep) (hi : es.size ≤ i)
    (hQ : ∀ h', Heap.ExtBut it s.heap h' → Q none { s with heap := h' }) : wpAny (model prog w) A (pyNext (.ref it)) Q E s := by
  obtain ⟨oi, ho, hc, hd⟩ := id hit
  unfold pyNext
  refine wpAny_bind (wpAny_attempt (wpAny_callSpecial?_slot (name := Str.ofString "__next__") hit.typeIs F.slot_dict_valueiterator_next
    (wpAny_call_entry F.slot_dict_valueiterator_next hit.typeIs F.entry_dict_valueiterator_next ?_ (F.args_dict_valueiterator_next_1 _))))
  refine wpAny_bind (wpAny_pure (wpAny_bind (wpAny_bind ?_)))
  first | refine wpAny_bind (wpAny_typeNameOfWhole_valiter hit.typeIs (wpAny_pure ?_)) | refine wpAny_bind (wpAny_typeNameOf_valiter hit.typeIs (wpAny_pure ?_))
  refine wpAny_bind (wpAny_fieldsOf ho hd ?_)
  simp only [show Builtin.Dict_items.ownsTuple "dict_valueiterator" = false by decide, Bool.false_eq_true, if_false]
  show wpAny _ _ (if (Value.ref d == Value.none) = true then _ else _) _ _ s
  rw [if_neg (show ¬ ((Value.ref d == Value.none) = true) from Bool.false_ne_true)]
  refine wpAny_bind (wpAny_pure (wpAny_bind (wpAny_dictEntries hod hdd ?_)))
  rw [if_neg (by simp)]
  refine wpAny_bind (wpAny_pure (wpAny_bind (wpAny_dictEpoch hod hdd ?_)))
  rw [if_neg (by simp)]
  refine wpAny_pure ?_
  simp only [show ¬ ((i : Int) < 0) from by omega, if_false, Int.toNat_natCast, Array.getElem?_eq_none hi]
  refine wpAny_bind ?_
  first | refine wpAny_bind (wpAny_typeNameOfWhole_valiter hit.typeIs (wpAny_pure ?_)) | refine wpAny_bind (wpAny_typeNameOf_valiter hit.typeIs (wpAny_pure ?_))
  show wpAny _ _ (setField (.ref it) 0 .none >>= _) _ _ s
  refine wpAny_bind (wpAny_setField ho hd (by simp) ?_)
  show wpAny _ _ (newExc (.type "StopIteration") [] >>= _) _ _ _
  refine wpAny_bind ?_
  simp only [newExc, newTuple]
  refine wpAny_bind (wpAny_newObj_type ?_ (by size_fits))
  refine wpAny_bind (m := firstArgMember _ _) (wpAny_of_eq (a := Value.none) (by first | rfl | (simp only [firstArgMember]; rfl)) (wpAny_newObj_type ?_ (by size_fits)))
  simp only [raiseNew]
  refine wpAny_bind (wpAny_handled ?_)
  rw [show A.in1.handled = none from hh]
  refine wpAny_bind (wpAny_pure (wpAny_throw ?_))
  refine wpAny_bind (wpAny_isInstance (T := "StopIteration") (b := true) ⟨_, Heap.get?_push_size _ rfl, rfl⟩ isSubtype_stop ?_)
  exact wpAny_pure (hQ _ (((Heap.SameBut.update ..).extBut.push _).push _))
end
def Itv (d : Addr) (o : Obj) (u : HO) : It :=
  ⟨fun i H => H d = some (.frz o u) ∧ i < szU u, fun i H v H' => H' = H ∧ ∃ x, KeyAt H u i x v, fun i H => H d = some (.frz o u) ∧ szU u ≤ i⟩
theorem turn_vals {P : Program} {w : World} {K : PySem.W.Frag} {tg : Expr} (d it : Addr) (o : Obj) (u : HO) (hu : DictU u) (es : Array DictEntry) (ep : Nat) (hd : o.data = .dict es ep) :
    Turn P w K tg (Itv d o u) [it] it (fun i h => h.IsValIter it d i es.size ep) where
  mem := by simp
  obj := fun i h st b hb => by
    rw [List.mem_singleton.mp hb]
    obtain ⟨oi, e, c, q⟩ := st
    exact ⟨oi, e, fun v z => by rw [q] at z; cases z⟩
  keep := fun i h h' st k => Heap.IsValIter.at st fun oi e => k it (by simp) oi e
  item := by
    intro X hP hw hK hc i pins s σ H E I hf st hg
    subst hP hw hK
    obtain ⟨hH, hi⟩ := hg
    obtain ⟨_, hod, _, es', ep', hd', hz, hall⟩ := raw_of I.hok hH hu
    rw [hd] at hd'; cases hd'
    obtain ⟨f0, f1, f2, f3, f4, f5⟩ := hf it (by simp)
    have hi' : i < es.size := by omega
    obtain ⟨x, v, hk, r1, r2⟩ := hall i hi'
    refine rv_next st hod hd hi' fun h' st' sb => ?_
    have I1 : Inv X pins σ H { s with heap := h' } := I.turned (t' := s.toks) (fun b ob hb e => (sb.2 b hb).trans e) f0 f1 f3 f4 f5
    obtain ⟨oi, e, c, q⟩ := id st'
    exact ⟨_, rfl, go_of (s := { s with heap := h' }) e c q (by decide) ⟨v, H, I1, r2, ⟨rfl, x, hk⟩, st', fun b hb => (hf b hb).1⟩⟩
  done := by
    intro X hP hw hK hc i pins s σ H E I hf st hg
    subst hP hw hK
    obtain ⟨hH, hi⟩ := hg
    obtain ⟨_, hod, _, es', ep', hd', hz, hall⟩ := raw_of I.hok hH hu
    rw [hd] at hd'; cases hd'
    obtain ⟨f0, f1, f2, f3, f4, f5⟩ := hf it (by simp)
    exact rv_end (I.ok.hd hc) st hod hd (by omega) fun h' eb => ⟨rfl, I.turned (t' := s.toks) (fun b ob hb e => eb b ob hb e) f0 f1 f3 f4 f5⟩
  self := fun A i s Q E st h => by
    refine wpAny_pyIter_slot st.typeIs F.slot_dict_valueiterator_iter (wpAny_call_entry F.slot_dict_valueiterator_iter st.typeIs entry_dict_valueiterator_iter ?_ (F.args_dict_valueiterator_iter_1 _))
    show wpAny _ _ (ret (.ref it)) _ _ s
    exact wpAny_pure ⟨_, rfl, "dict_valueiterator", _, st.typeIs, F.slot_dict_valueiterator_next.lookup, h⟩
def iVals (te : TE) : TI := fun σ H R => te σ H fun x H1 => ∃ d o u, x = .ref d ∧ H1 d = some (.frz o u) ∧ DictU u ∧ R (Itv d o u) H1
theorem pi_values {X : Cx} {tg e : Expr} {te : TE} {apos cpos : Pos} (he : PE X e te)
    (hbase : attributeBase e "values" X.env (eval e X.env) = eval e X.env := by rfl) (hline : (apos.endLine == cpos.line) = true := by rfl) :
    PI X tg (.Call (.Attribute e "values" apos) [] [] cpos) (iVals te) := by
  intro pins s σ H R I h
  refine wpAny_Call_method0_late hbase hline (thn (he pins s σ H _ I h) fun v s1 ⟨x, H1, I1, r, d, o, u, ex, hd, hu, q⟩ => ?_)
  subst ex
  cases (show v = Value.ref d from r)
  obtain ⟨hS, hod, hc, es, ep, hdd, hz, _⟩ := raw_of I1.hok hd hu
  refine ⟨"dict", "dict.values", F.plainAttrs_dict, F.slot_dict_values, F.type_dict_values, ⟨o, hod, hc.1⟩, fun a e2 => by cases e2; exact ⟨o, hod, hc.2.1⟩, Calls.callWith_builtin rfl (PySem.evalArgs_none ?_)⟩
  refine rv_view hS hod hc ?_
  have k1 : ∀ b ob, s1.heap.get? b = some ob → (s1.heap.push { cls := .type "dict_values", data := .fields #[.ref d] }).get? b = some ob := fun b ob z => Heap.get?_push_of_some _ z
  refine rv_iter (s := { s1 with heap := s1.heap.push { cls := .type "dict_values", data := .fields #[.ref d] } }) ⟨_, Heap.get?_push_size _ rfl, rfl, rfl⟩ (k1 _ _ hod) hdd ?_
  have I2 := I1.kept (t' := s1.toks) k1
  refine ⟨_, [(s1.heap.push { cls := .type "dict_values", data := .fields #[.ref d] }).objs.size], _, _, H1, rfl, I2.kept (t' := s1.toks) (fun b ob z => Heap.get?_push_of_some _ z), turn_vals d _ o u hu es ep hdd, ⟨_, Heap.get?_push_size _ rfl, rfl, rfl⟩, fun b hb => ?_, q⟩
  rw [List.mem_singleton.mp hb]
  exact I2.fpOk (Nat.le_refl _) (I2.hok.fresh (Nat.le_refl _))
theorem for_vals {d : Addr} {o : Obj} {u : HO} {g : TG} {tb : TS} {D : Ends} {σ : St} {H : Hp} (Pv : Nat → St → Hp → Prop) (h0 : Pv 0 σ H) (hl : ∀ i σ H, i ≤ szU u → Pv i σ H → H d = some (.frz o u))
    (hs : ∀ i x v σ H, KeyAt H u i x v → i < szU u → Pv i σ H → g v σ H fun σ2 H2 => tb { D with nx := Pv (i + 1), ct := Pv (i + 1), bk := D.nx } σ2 H2) (hd : ∀ σ H, Pv (szU u) σ H → D.nx σ H) :
    ∃ W : Nat → Nat → St → Hp → Prop, (∃ m, W 0 m σ H) ∧ ∀ i m σ H, W i m σ H →
      ((Itv d o u).stop i H ∧ D.nx σ H) ∨ ((Itv d o u).go i H ∧ ∃ N : St → Hp → Prop, (∀ σ' H', N σ' H' → ∃ m', m' < m ∧ W (i + 1) m' σ' H') ∧ ∀ x H', (Itv d o u).yld i H x H' → g x σ H' fun σ2 H2 => tb { D with nx := N, ct := N, bk := D.nx } σ2 H2) := by
  refine ⟨fun i m σ H => m = szU u - i ∧ i ≤ szU u ∧ Pv i σ H, ⟨szU u, by simp, Nat.zero_le _, h0⟩, ?_⟩
  rintro i m σ H ⟨rfl, hi, p⟩
  have q := hl i σ H hi p
  by_cases hlt : i < szU u
  · refine .inr ⟨⟨q, hlt⟩, Pv (i + 1), fun σ' H' p' => ⟨szU u - (i + 1), by omega, rfl, hlt, p'⟩, fun x H' y => ?_⟩
    obtain ⟨e, v, k⟩ := y
    subst e
    exact hs i v x σ _ k hlt p
  · have e : i = szU u := by omega
    subst e
    exact .inl ⟨⟨q, Nat.le_refl _⟩, hd σ H p⟩
end L2
namespace L2
open PySem PySem.Spec PyProof.Rows
section
variable {X : Cx}
theorem map_int_inj : ∀ {c d : List Int}, c.map V.int = d.map V.int → c = d
  | [], [], _ => rfl
  | [], _ :: _, h => by simp at h
  | _ :: _, [], h => by simp at h
  | a :: c, b :: d, h => by
    rw [List.map_cons, List.map_cons] at h
    injection h with h1 h2
    injection h1 with h1
    rw [h1, map_int_inj h2]
noncomputable def isT (H : Hp) (c : List Int) (u : Value) : Bool := match u with
  | .ref a => @decide (H a = some (.tup (c.map V.int))) (Classical.propDecidable _)
  | _ => false
theorem isT_of {H : Hp} {c d : List Int} {a : Addr} (h : H a = some (.tup (d.map V.int))) : isT H c (.ref a) = decide (d = c) := by
  show @decide (H a = some (.tup (c.map V.int))) (Classical.propDecidable _) = decide (d = c)
  by_cases e : d = c
  · subst e
    rw [decide_eq_true (rfl : d = d)]
    exact @decide_eq_true _ (Classical.propDecidable _) h
  · rw [decide_eq_false e]
    refine @decide_eq_false _ (Classical.propDecidable _) fun z => e ?_
    rw [h] at z
    injection z with z
    injection z with z
    exact map_int_inj z
def rInT (K : PySem.W.Frag) (neg : Bool) : R2 := fun x y H Q => ∃ (b p : Addr) (as : List Addr) (c : List Int) (cs : List (List Int)), x = .ref b ∧ y = .ref p ∧ H b = some (.tup (c.map V.int)) ∧ SqL K H p (as.map V.ref) ∧ Tups H as cs ∧ Q (.bl (if neg then !decide (c ∈ cs) else decide (c ∈ cs))) H
theorem any_isT {H : Hp} {c : List Int} : ∀ {as : List Addr} {cs : List (List Int)}, Tups H as cs → (as.map Value.ref).any (isT H c) = decide (c ∈ cs)
  | _, _, .nil => by simp
  | a :: as, d :: cs, .cons r t => by
    rw [List.map_cons, List.any_cons, isT_of r, any_isT t]
    by_cases h : d = c
    · subst h; simp
    · have : ¬ c = d := fun z => h z.symm
      simp [h, this]
theorem mem_isT {k : Nat} (hr : Room k X.A) {pins : List (Addr × Obj)} {σ : St} {H : Hp} {s : Shared} (I : Inv X pins σ H s) {b : Addr} {c : List Int} (hb : H b = some (.tup (c.map V.int))) :
    ∀ {as : List Addr} {cs : List (List Int)}, Tups H as cs → ∀ u ∈ as.map Value.ref, SeqAt.EqAt X.A.in1 s u (.ref b) (isT H c u)
  | _, _, .nil => fun u hu => by simp at hu
  | a :: as, d :: cs, .cons r t => fun u hu => by
    rw [List.map_cons] at hu
    rcases List.mem_cons.mp hu with rfl | hu
    · obtain ⟨x1, r1⟩ := (Dp.ints (K := X.K) (ns := d) (SqT.of r)).reads I (u := .ref a) rfl
      obtain ⟨x2, r2⟩ := (Dp.ints (K := X.K) (ns := c) (SqT.of hb)).reads I (u := .ref b) rfl
      have := hr.units
      have h1 := depth_tints d
      rw [isT_of r, ← eqv_tints]
      exact SeqAt.eqAt_reads _ _ _ _ _ _ _ _ r1 r2 (Dp.ints (K := X.K) (H := H) (SqT.of r)).lay (Dp.ints (K := X.K) (H := H) (SqT.of hb)).lay (by show X.A.units + 1 + _ < _; omega)
    · exact mem_isT hr I hb t u hu
theorem op_inT {k : Nat} (hr : Room k X.A) : OpR X (compareOp .In) (rInT X.K false) := by
  intro pins s σ H x y v u Q I rx ry h
  obtain ⟨b, p, as, c, cs, rfl, rfl, hb, hp, ht, q⟩ := h
  cases rx
  cases ry
  obtain ⟨its, rv, pl, hz⟩ := I.list hp
  cases vals_refs rv
  refine SeqAt.in_listAt (isT H c) pl.isList (fun w hw => mem_isT hr I hb ht w (by simpa using hw)) ⟨.bl _, H, I, rfl, ?_⟩
  rw [show (as.map Value.ref).toArray.any (isT H c) = (as.map Value.ref).any (isT H c) by simp, any_isT ht]
  exact q
theorem op_notinT {k : Nat} (hr : Room k X.A) : OpR X (compareOp .NotIn) (rInT X.K true) := by
  intro pins s σ H x y v u Q I rx ry h
  obtain ⟨b, p, as, c, cs, rfl, rfl, hb, hp, ht, q⟩ := h
  cases rx
  cases ry
  obtain ⟨its, rv, pl, hz⟩ := I.list hp
  cases vals_refs rv
  refine SeqAt.notIn_listAt (isT H c) pl.isList (fun w hw => mem_isT hr I hb ht w (by simpa using hw)) ⟨.bl _, H, I, rfl, ?_⟩
  rw [show (as.map Value.ref).toArray.any (isT H c) = (as.map Value.ref).any (isT H c) by simp, any_isT ht]
  exact q
theorem ev_inT {ta tb : TE} {σ : St} {H : Hp} {K : PySem.W.Frag} {b p : Addr} {as : List Addr} {c : List Int} {cs : List (List Int)} (ha : Ev ta σ H (.ref b)) (hb : Ev tb σ H (.ref p)) (h1 : H b = some (.tup (c.map V.int))) (h2 : SqL K H p (as.map V.ref)) (h3 : Tups H as cs) : Ev (tOp (rInT K false) ta tb) σ H (.bl (decide (c ∈ cs))) :=
  fun _ q => ha _ (hb _ ⟨b, p, as, c, cs, rfl, rfl, h1, h2, h3, q⟩)
theorem ev_notinT {ta tb : TE} {σ : St} {H : Hp} {K : PySem.W.Frag} {b p : Addr} {as : List Addr} {c : List Int} {cs : List (List Int)} (ha : Ev ta σ H (.ref b)) (hb : Ev tb σ H (.ref p)) (h1 : H b = some (.tup (c.map V.int))) (h2 : SqL K H p (as.map V.ref)) (h3 : Tups H as cs) : Ev (tOp (rInT K true) ta tb) σ H (.bl (!decide (c ∈ cs))) :=
  fun _ q => ha _ (hb _ ⟨b, p, as, c, cs, rfl, rfl, h1, h2, h3, q⟩)
end
def bitsOk (f : Nat → Nat) : Nat → Nat → Bool
  | 0, _ => true
  | n + 1, acc => !(acc.testBit (f n)) && bitsOk f n (acc ||| (1 <<< f n))
theorem bitsOk_of {f : Nat → Nat} : ∀ {n acc : Nat}, bitsOk f n acc = true → ∀ i < n, acc.testBit (f i) = false ∧ ∀ j < n, f j = f i → j = i
  | 0, _, _, i, hi => absurd hi (Nat.not_lt_zero _)
  | n + 1, acc, h, i, hi => by
    unfold bitsOk at h
    rw [Bool.and_eq_true] at h
    obtain ⟨h1, h2⟩ := h
    have h1 : acc.testBit (f n) = false := by simpa using h1
    have ih := bitsOk_of h2
    have key : ∀ k < n, acc.testBit (f k) = false ∧ f k ≠ f n := fun k hk => by
      have := (ih k hk).1
      rw [Nat.testBit_or, Bool.or_eq_false_iff] at this
      refine ⟨this.1, fun e => ?_⟩
      have h3 := this.2
      rw [e, Nat.testBit_shiftLeft] at h3
      simp at h3
    by_cases e : i = n
    · subst e
      refine ⟨h1, fun j hj ej => ?_⟩
      by_cases e2 : j = i
      · exact e2
      · exact absurd ej (key j (by omega)).2
    · refine ⟨(key i (by omega)).1, fun j hj ej => ?_⟩
      by_cases e2 : j = n
      · subst e2; exact absurd ej.symm (key i (by omega)).2
      · exact (ih i (by omega)).2 j (by omega) ej
def hv3 (k : Nat) : Int := reduceHash (Builtin.Tuple.tupleHashOf [((k / 256 : Nat) : Int), ((k / 16 % 16 : Nat) : Int), ((k % 16 : Nat) : Int)])
def hm3 (k : Nat) : Nat := (hv3 k % 14941).toNat
theorem hm3_ok : bitsOk hm3 1024 0 = true := by decide +kernel
theorem hv3_inj {i j : Nat} (hi : i < 1024) (hj : j < 1024) (e : hv3 i = hv3 j) : i = j := (bitsOk_of hm3_ok j hj).2 i hi (by unfold hm3; rw [e])
end L2
namespace L2
open PySem PySem.Spec PyProof.Rows
section
variable {prog : Program} {w : World} {d : Addr} {es : Array DictEntry} {ep : Nat}
end
section
variable {X : Cx}
end
end L2
namespace L2
open PySem PySem.Spec PyProof.Rows
section
variable {X : Cx}
theorem kV_ints : ∀ c : List Int, (c.map Sum.inl : List Key).map kV = c.map V.int
  | [] => rfl
  | a :: c => by rw [List.map_cons, List.map_cons, List.map_cons, kV_ints c]; rfl
end
end L2
namespace L2
open PySem PySem.Spec PyProof.Rows
section
variable {prog : Program} {w : World} {κ : Type} [DecidableEq κ] {knd : HeapKind prog w κ} {A : Around} {E : Value → Shared → Prop} {s : Shared}
end
section
variable {X : Cx}
def rGetT : V → List V → Hp → VK → Prop := fun x vs H Q => ∃ a y z o, x = .ref a ∧ vs = [y, z] ∧ DGet H a y o ∧ Q (o.getD z) H
theorem mt_getT {j : Nat} (hr : Room j X.A) : MtR X "dict.get" rGetT := by
  intro pins s σ H x vs v us Q I rx rv h
  obtain ⟨a, y, z, o, rfl, rfl, g, q⟩ := h
  cases rx
  obtain ⟨u1, u2, rfl, r1, r2⟩ := vals2 rv
  exact d_get2 (Room.one hr) I g r1 r2 fun w' s' I' r' => ⟨_, H, I', r', q⟩
end
theorem ix_tupK {X : Cx} {K : PySem.W.Frag} (e : X.K = K) : IxR X (rIxT K) := by subst e; exact ix_tup
section
open PySem.SeqAt
open PySem.AutoSeq1 (wpAny_loadPart')
open PySem.MeetsSeq PySem.MeetsSeq2 PySem.MeetsSeq3
end
section
variable {prog : Program} {w : World} {A : Around} {E : Value → Shared → Prop} {s : Shared}
end
end L2
namespace L2
open PySem PySem.Spec PyProof.Rows
section
variable {prog : Program} {w : World} {A : Around} {R : Result → Shared → Prop} {it : Addr} {fp wr : List Addr} {P : Nat → Value → Prop} {St : Nat → Heap → Prop}
end
section
variable {prog : Program} {w : World} {A : Around} {E : Value → Shared → Prop} {s : Shared}
end
section
variable {X : Cx}
end
section
variable {prog : Program} {w : World} {A : Around} {R : Result → Shared → Prop} {it : Addr} {fp wr : List Addr} {P : Nat → Value → Prop} {St : Nat → Heap → Prop}
end
section
variable {prog : Program} {w : World} {A : Around} {E : Value → Shared → Prop} {s : Shared}
end
section
variable {X : Cx}
end
end L2
namespace L2
open PySem PySem.Spec PyProof.Rows
section
variable {X : Cx}
end
end L2
namespace L2
open PySem PySem.Spec PyProof.Rows
end L2
namespace L2
open PySem PySem.Spec PyProof.Rows
end L2
namespace L2
open PySem PySem.Spec PyProof.Rows
end L2
namespace L2
open PySem PySem.Spec PyProof.Rows
end L2
namespace L2
open PySem PySem.Spec PyProof.Rows
section
variable {X : Cx} {pins : List (Addr × Obj)} {σ : St} {H : Hp} {s : Shared}
end
section
variable {M : Model} {A : Around} {E : Value → Shared → Prop} {s : Shared} {env : Env} {pos : Pos} {f : Addr} {Q : Value → Shared → Prop}
end
section
variable {X : Cx}
end
end L2
namespace L2
open PySem PySem.Spec PyProof.Rows
section
variable {X : Cx}
end
end L2
namespace L2
open PySem PySem.Spec PyProof.Rows
section
variable {P : Program} {w : World} {K : PySem.W.Frag} {mg : Str → Option Value} {base : Heap}
end
end L2
namespace L2
open PySem PySem.Spec PyProof.Rows
end L2
namespace L2
open PySem PySem.Spec PyProof.Rows
namespace TabA
open SetTable
variable (t : SetTable) (hashAt : Nat → Int) (h : Int)
def Good (N : Nat) (p : Probe) : Prop := ∀ f, N ≤ f → ∃ j, probe.go t hashAt h f p = some (.empty j none)
variable {t hashAt h}
def it (M : Nat) : Nat → Nat → Nat
  | 0, a => a
  | k + 1, a => (it M k a * 5 + 1) % M
end TabA
section
variable {prog : Program} {w : World} {A : Around} {E : Value → Shared → Prop} {s : Shared}
end
section
variable {prog : Program} {w : World} {A : Around} {R : Result → Shared → Prop} {I : Addr} {fp wr : List Addr} {G : Array GenState → Array GenState → Prop} {n : Nat} {P : Nat → Value → Prop} {St : Nat → Shared → Prop}
end
structure SI (t : SetTable) (es : Array (Int × Value)) (n : Nat) (hs : List Int) : Prop where
  dm : t.dummies = #[]
  ms : t.mask = 7 ∧ n < 5 ∨ t.mask = 31 ∧ n ≤ 18
  pl : t.place.size = n
  sz : es.size = n
  hm : ∀ e ∈ es, e.1 ∈ hs
end L2
namespace L2
open PySem PySem.Spec PyProof.Rows
section
variable {prog : Program} {w : World} {κ : Type} [DecidableEq κ] {knd : HeapKind prog w κ} {A : Around} {E : Value → Shared → Prop} {s : Shared}
end
section
variable {X : Cx}
end
end L2
namespace L2
open PySem PySem.Spec PyProof.Rows
section
variable {prog : Program} {w : World}
variable {A : Around} {E : Value → Shared → Prop} {s : Shared}
end
end L2
namespace L2
open PySem PySem.Spec PyProof.Rows
section
variable {X : Cx}
end
end L2
namespace L2
open PySem PySem.Spec PyProof.Rows
section
variable {X : Cx}
end
section
variable {X : Cx}
end
section
variable {P : Program} {w : World} {K : PySem.W.Frag} {mg : Str → Option Value} {base : Heap}
end
end L2
namespace L2
open PySem PySem.Spec PyProof.Rows
section
variable {X : Cx}
end
structure KCalleeM (P : Program) (w : World) (K : PySem.W.Frag) (mg : Str → Option Value) (base : Heap) (C : Addr) (x : Str) (k : Nat) (ps : List Str) (sp : Sp) : Prop where
  ex : ∃ f fd, FnOk P w K mg base CX0 k f fd ps sp ∧ Mk K C f ∧ mg x = some (.ref C) ∧ Binds K fd ps [] ∧ Binds K fd ps [Value.none] ∧ Binds K fd ps [Value.none, Value.none]
section
variable {X : Cx} {C : Addr} {k : Nat} {ps : List Str} {sp : Sp} {x : Str} {p pos : Pos} {e : Expr} {es : List Expr} {t : TA} (G : KCalleeM X.prog X.w X.K X.mg X.base C x k ps sp) (hr : Room (k + 1) X.A) (hg : Gl X x) (ha : PA X (e :: es) t) (hdb : (x == ("__debug__" : Str)) = false := by decide)
    (he : starEach (e :: es) X.env = (false, eval e X.env) :: starEach es X.env := by rfl) (hpl : (backTo pos (starEach es X.env)).any (·.1) = false := by rfl)
include G hr hg ha hdb he hpl
theorem pe_mkM0 : PE X (.Call (.Name x p) (e :: es) [] pos) (tMake C sp [] E0 t) := by
  obtain ⟨f, fd, F, M, hm, hb, _, _⟩ := G.ex
  exact pe_make M F hr hg hm hb .nil pass0 ha hdb he hpl
end
theorem bindsM {K : PySem.W.Frag} {fd : FuncData} {ps : List Str} {ds : List Value} {T : Addr} {oc : Value} {od : Option Addr} {sl : Array (Option Value)} {items : Array Value} {n : Nat} (hd : fd.defaults = .ref T) (ho : K.lookup T = some ⟨oc, od, .seq items n, sl⟩)
    (m : Nat) (hm : ps.length = m + ds.length) (h : ∀ us : List Value, us.length = m → ∃ k, bindArgs fd ⟨us, []⟩ = (seqItems? fd.defaults >>= k) ∧ k (some items) = pure (ps.zip (us ++ ds))) : Binds K fd ps ds := fun s us hX hl => by
  obtain ⟨k, h1, h2⟩ := h us (by rw [hm, List.length_append] at hl; omega)
  exact PySem.W.binds_K hX hd ho rfl h1 h2
end L2
namespace L2
open PySem PySem.Spec PyProof.Rows
end L2
namespace L2
open PySem PySem.Spec PyProof.Rows
section
variable {P : Program} {w : World} {K : PySem.W.Frag} {mg : Str → Option Value} {base : Heap}
end
end L2
namespace L2
open PySem PySem.Spec PyProof.Rows
theorem call_sumL {X : Cx} (hc : X.calm = true) : CallR X (.builtin "sum") (fun xs H Q => ∃ (p : Addr) (ns : List Int), xs = [.ref p] ∧ SqL X.K H p (ns.map V.int) ∧ Q (.int ns.sum) H) := by
  intro pins s σ H xs us Q I r h
  obtain ⟨p, ns, rfl, hp, q⟩ := h
  obtain ⟨u, rfl, ru⟩ := vals1 r
  cases ru
  obtain ⟨its, rv, pl, hz⟩ := I.list hp
  have hi : IntsAre its ns := by simpa using intsAre_of rv
  obtain ⟨zs, e⟩ := hi.allInts.items
  have hns : ns = zs.toList.map (·.1) := by rw [← hi.numsOf, ← nums_intItems, ← e]
  have hl := pl.isList
  rw [e] at hl
  refine sum_intListG (I.ok.hd hc) hl fun h' tk t' hk => ?_
  have e2 : preSum (numAt zs) zs.size = ns.sum := by
    rw [preSum_eq, List.take_of_length_le (by simp), hns]
  rw [e2]
  exact ⟨.int _, H, I.kept hk, ⟨t', rfl⟩, q⟩
end L2
namespace L2
open PySem PySem.Spec PyProof.Rows
end L2
namespace L2
open PySem PySem.Spec PyProof.Rows
section
variable {X : Cx}
end
section
variable {prog : Program} {w : World} {A : Around} {R : Result → Shared → Prop} {it : Addr} {fp wr : List Addr} {P : Nat → Value → Prop} {St : Nat → Heap → Prop} {n : Nat}
end
section
variable {prog : Program} {w : World} {A : Around} {E : Value → Shared → Prop} {s : Shared}
end
section
variable {X : Cx}
end
end L2
namespace L2
open PySem PySem.Spec PyProof.Rows
section
variable {X : Cx}
def rInsert : V → List V → Hp → VK → Prop := fun x vs H Q => ∃ l xs i y, x = .ref l ∧ vs = [.int i, y] ∧ H l = some (.lst xs) ∧ 0 ≤ i ∧ i ≤ xs.length ∧ xs.length < 1000000 ∧ Q .non (upd H l (.lst (xs.take i.toNat ++ y :: xs.drop i.toNat)))
theorem mt_insert : MtM X "list.insert" rInsert := by
  intro pins s σ H x vs v us Q I rx rv h
  obtain ⟨l, xs, i, y, rfl, rfl, hH, h0, hk, hz, q⟩ := h
  cases rx
  obtain ⟨u1, u2, rfl, r1, r2⟩ := vals2 rv
  obtain ⟨tk, rfl⟩ := r1
  obtain ⟨z, its, n, r, hl, e⟩ := I.lstM hH
  have hf : Builtin.List.listFitsIndex i = true := by
    have : i < 1000000 := by omega
    unfold Builtin.List.listFitsIndex
    simp
    omega
  have hz1 : its.toArray.size ≤ sizeLine := by rw [List.size_toArray, ← hl]; exact z
  have hf1 : ¬(!Builtin.List.listFitsIndex i) = true := by rw [hf]; decide
  refine call_meets F.slot_list_insert ⟨_, e, rfl⟩ F.entry_list_insert (F.args_list_insert_3 _ _ _) (PySem.AutoSeq1.list_insert_list_int_val_1 l its.toArray n i tk u2 hf1 hz1) ⟨e, ?_⟩
  refine ⟨.non, _, I.lset (its' := its.take i.toNat ++ u2 :: its.drop i.toNat) hH e ?_ ((r.take i.toNat).append (.cons r2 (r.drop i.toNat))) ?_, rfl, q⟩
  · have h1 : min i.toNat its.toArray.size = i.toNat := by rw [List.size_toArray]; omega
    dsimp only
    rw [if_neg (by omega), h1]
    apply Array.ext'
    simp [List.take_of_length_le]
  · have : sizeLine = 2 ^ 24 := rfl
    simp only [List.length_append, List.length_take, List.length_cons, List.length_drop]
    omega
end
structure Landed (X : Cx) (pins : List (Addr × Obj)) (σ : St) (H : Hp) (s : Shared) (a : Addr) (C : Value) : Prop where
  I : Inv X pins σ H s
  ha : H a = none
  na : X.s₀.heap.get? a = none
  hL : X.env.locals ≠ a
  hC : ∀ x c, X.env.cells.lookup x = some c → c ≠ a
  ex : ∃ T, H T = none ∧ X.s₀.heap.get? T = none ∧ (∀ p ∈ X.pn ++ pins, p.1 ≠ a ∧ p.1 ≠ T) ∧ FlyT s.heap a T C
section
variable {X : Cx} {pins : List (Addr × Obj)} {σ : St} {H : Hp} {s : Shared} {a : Addr} {C : Value} {cx : Str} {CW : Addr} {np hpos pos : Pos} {b₀ : Stmt} {suite : List Stmt} {nm : Option Str} {rest : List ExceptHandler} {D : Ends}
theorem hand_test {b : Bool} {R : Result → Shared → Prop} (L : Landed X pins σ H s a C) (hg : Gl X cx) (hm : X.mg cx = some (.ref CW)) (hd : (cx == ("__debug__" : Str)) = false) (he : PySem.W.exmOne X.K C (.ref CW) = some b) (q : R (.ok (if b then .brk else .next)) s) :
    codeAny (model X.prog X.w) (X.A.mark (some (.ref a))) (.handlers (.ref a) [.ExceptHandler (some (.Name cx np)) none [] hpos] X.env) R s := by
  refine codeAny_handlers_test ?_
  refine ld_glob (X := cxH X a) (inv_cxH L.I) hg hm ?_ hd
  obtain ⟨T, _, _, _, fl⟩ := L.ex
  obtain ⟨oe, vs, oT, tts, a0, h1, hcls, _⟩ := fl.ex
  have LT : PySem.W.Looks (model X.prog X.w) s.heap (typeOf (.ref a)) C := hcls ▸ (PySem.W.Looks.ld h1).andThen .now
  exact (PySem.W.exm_one L.I.kIn LT he).here q
theorem hand_no (L : Landed X pins σ H s a C) (hg : Gl X cx) (hm : X.mg cx = some (.ref CW)) (he : PySem.W.exmOne X.K C (.ref CW) = some false) (q : wpAny (model X.prog X.w) X.A (handleBy (.ref a) X.env rest) (SP X pins D) X.xe s) (hd : (cx == ("__debug__" : Str)) = false := by decide) :
    wpAny (model X.prog X.w) X.A (handleBy (.ref a) X.env (.ExceptHandler (some (.Name cx np)) nm (b₀ :: suite) hpos :: rest)) (SP X pins D) X.xe s :=
  wpAny_handleBy_cons (hand_test L hg hm hd he q) (by intro z; cases z)
theorem hand_as {i : Nat} {n : Str} {ts : Addr → TS} (L : Landed X pins σ H s a C) (hN : X.N.Nodup) (hi : X.N[i]? = some n) (hl : X.env.kindOf n = some .local) (hex : X.ex = []) (hst : X.stack = X.env :: X.outer) (hfr : X.env.frame = some X.env.locals) (hg : Gl X cx) (hm : X.mg cx = some (.ref CW)) (he : PySem.W.exmOne X.K C (.ref CW) = some true)
    (hs : ∀ a, PSs (cxH X a) (b₀ :: suite) (ts a))
    (q : ts a { nx := fun σ H => D.nx (σ.set i none) H, rt := D.rt, bk := fun σ H => D.bk (σ.set i none) H, ct := fun σ H => D.ct (σ.set i none) H } (σ.set i (some (.ref a))) (upd H a (excO a C))) (hd : (cx == ("__debug__" : Str)) = false := by decide) :
    wpAny (model X.prog X.w) X.A (handleBy (.ref a) X.env (.ExceptHandler (some (.Name cx np)) (some n) (b₀ :: suite) hpos :: rest)) (SP X pins D) X.xe s := by
  refine wpAny_handleBy_cons (hand_test L hg hm hd he ?_) (by intro z; cases z)
  obtain ⟨T, hT, nT, np1, fl⟩ := L.ex
  refine codeAny_handlers_suite_as ?_
  refine lands_ok L.I hex hst hfr L.ha hT L.na nT np1 fl fun s4 I4 ⟨T4, fl4⟩ => ?_
  obtain ⟨oe4, vs4, _, _, _, he4, hc4, _, hd4, _⟩ := fl4.ex
  have I5 : Inv X pins σ (upd H a (excO a C)) s4 := I4.track L.ha L.na L.hL L.hC (fun p hp => (np1 p hp).1)
    ⟨⟨oe4, vs4, he4, hc4, hd4⟩, ⟨oe4, he4⟩, fun h1 h2 ⟨o, v, e1, e2, e3⟩ k => ⟨o, v, k o e1, e2, e3⟩⟩
  refine store_ok (v := .ref a) I5 hN hi (.inl hl) rfl (fun s5 I6 => ?_) (.inr hl)
  refine wpAny_mono (hs a pins s5 _ _ _ (inv_cxH I6) q) (fun f s6 hf => ?_) fun _ _ z => z.elim
  cases f with
  | next =>
    obtain ⟨σ6, H6, I7, q6⟩ := hf
    exact goes_ok (inv_ofH I7 L.I.ok.hd) hN hi hl fun s7 I8 => ⟨_, _, I8, q6⟩
  | brk =>
    obtain ⟨σ6, H6, I7, q6⟩ := hf
    exact goes_ok (inv_ofH I7 L.I.ok.hd) hN hi hl fun s7 I8 => ⟨_, _, I8, q6⟩
  | cont =>
    obtain ⟨σ6, H6, I7, q6⟩ := hf
    exact goes_ok (inv_ofH I7 L.I.ok.hd) hN hi hl fun s7 I8 => ⟨_, _, I8, q6⟩
  | ret u =>
    obtain ⟨v, σ6, H6, I7, r6, q6⟩ := hf
    exact goes_ok (inv_ofH I7 L.I.ok.hd) hN hi hl fun s7 I8 => ⟨v, _, _, I8, r6, q6⟩
theorem hand_bare {ts : TS} (L : Landed X pins σ H s a C) (hex : X.ex = []) (hst : X.stack = X.env :: X.outer) (hfr : X.env.frame = some X.env.locals) (hg : Gl X cx) (hm : X.mg cx = some (.ref CW)) (he : PySem.W.exmOne X.K C (.ref CW) = some true)
    (hs : ∀ a, PSs (cxH X a) (b₀ :: suite) ts) (q : ts D σ H) (hd : (cx == ("__debug__" : Str)) = false := by decide) :
    wpAny (model X.prog X.w) X.A (handleBy (.ref a) X.env (.ExceptHandler (some (.Name cx np)) none (b₀ :: suite) hpos :: rest)) (SP X pins D) X.xe s := by
  refine wpAny_handleBy_cons (hand_test L hg hm hd he ?_) (by intro z; cases z)
  obtain ⟨T, hT, nT, np1, fl⟩ := L.ex
  refine codeAny_handlers_suite ?_
  refine lands_ok L.I hex hst hfr L.ha hT L.na nT np1 fl fun s4 I4 _ => ?_
  refine wpAny_mono (hs a pins s4 _ _ _ (inv_cxH I4) q) (fun f s6 hf => ?_) fun _ _ z => z.elim
  cases f with
  | next =>
    obtain ⟨σ6, H6, I7, q6⟩ := hf
    exact ⟨_, _, inv_ofH I7 L.I.ok.hd, q6⟩
  | brk =>
    obtain ⟨σ6, H6, I7, q6⟩ := hf
    exact ⟨_, _, inv_ofH I7 L.I.ok.hd, q6⟩
  | cont =>
    obtain ⟨σ6, H6, I7, q6⟩ := hf
    exact ⟨_, _, inv_ofH I7 L.I.ok.hd, q6⟩
  | ret u =>
    obtain ⟨v, σ6, H6, I7, r6, q6⟩ := hf
    exact ⟨v, _, _, inv_ofH I7 L.I.ok.hd, r6, q6⟩
end
section
variable {X : Cx}
theorem try_core {body : List Stmt} {h₀ : ExceptHandler} {hs : List ExceptHandler} {tb : (St → Value → Hp → Prop) → (Value → Shared → Prop) → List (Addr × Obj) → TS} {pos : Pos} (hex : X.ex = []) (hst : X.stack = X.env :: X.outer) (hfr : X.env.frame = some X.env.locals)
    (hb : ∀ Ex xe pn, Comes X.prog X.w (tryB X xe pn) Ex → PSs (tryB X xe pn) body (tb Ex xe pn)) :
    PS X (.Try body (h₀ :: hs) [] [] pos) fun D σ H => ∃ Ex : St → Value → Hp → Prop, (∀ xe pn, tb Ex xe pn D σ H) ∧ ∀ pins σ' C H' s a, Ex σ' C H' → Landed X pins σ' H' s a C → wpAny (model X.prog X.w) X.A (handleBy (.ref a) X.env (h₀ :: hs)) (SP X pins D) X.xe s := by
  intro pins s σ H D I h
  obtain ⟨Ex, htb, hh⟩ := h
  refine wpAny_Try_except ?_
  generalize hxe : (fun (e : Value) (s₁ : Shared) => wpAny (model X.prog X.w) X.A (noteFrame e X.env) (fun _ s₂ => wpAny (model X.prog X.w) X.A (setFlight e none) (fun _ s₃ =>
      wpAny (model X.prog X.w) X.A (handleBy e X.env (h₀ :: hs)) (SP X pins D) X.xe s₃) X.xe s₂) X.xe s₁) = xe
  have hC : Comes X.prog X.w (tryB X xe (X.pn ++ pins)) Ex := by
    intro pins' σ' H1 s1 e s2 I1 hx
    obtain ⟨a, T, C, H2, rfl, os, bare, u, hok, ha, hT, na, nT, fl, q⟩ := hx
    show xe (.ref a) s2
    rw [← hxe]
    have I1' : Inv X pins σ' H1 s1 := inv_ofB I1
    have I2 : Inv X pins σ' H2 s2 := I1'.call' (ch := []) os u hok bare fun b z => nomatch z
    have s0n : ∀ b, s1.heap.get? b = none → X.s₀.heap.get? b = none := fun b e => by
      cases q : X.s₀.heap.get? b with
      | none => rfl
      | some o =>
        obtain ⟨o', z⟩ := I1'.base.there b o q (by rw [hex]; simp)
        rw [e] at z; cases z
    have np1 : ∀ p ∈ X.pn ++ pins, p.1 ≠ a ∧ p.1 ≠ T := fun p hp => by
      have z := (I1'.pin p hp).1
      exact ⟨fun e => (by rw [e, na] at z; cases z), fun e => (by rw [e, nT] at z; cases z)⟩
    refine noted_ok I2 hex hst hfr ha hT (s0n _ na) (s0n _ nT) np1 fl fun s3 T3 I3 hT3 nT3 np3 fl3 => ?_
    refine hh pins σ' C H2 s3 a q ⟨I3, ha, s0n _ na, fun e => ?_, fun x c e z => ?_, T3, hT3, nT3, np3, fl3⟩
    · obtain ⟨_, ⟨o, _, _, ho, _⟩, _⟩ := I1'.loc
      rw [e, na] at ho; cases ho
    · obtain ⟨_, o, ho, _⟩ := I1'.cell x c e
      rw [z, na] at ho; cases ho
  refine thn (hb Ex xe (X.pn ++ pins) hC [] s σ H D (inv_tryB I) (htb _ _)) fun f s1 hf => ?_
  cases f with
  | next =>
    obtain ⟨σ1, H1, I1, q1⟩ := hf
    exact wpAny_execs_nil ⟨σ1, H1, inv_ofB I1, q1⟩
  | brk =>
    obtain ⟨σ1, H1, I1, q1⟩ := hf
    exact ⟨σ1, H1, inv_ofB I1, q1⟩
  | cont =>
    obtain ⟨σ1, H1, I1, q1⟩ := hf
    exact ⟨σ1, H1, inv_ofB I1, q1⟩
  | ret u =>
    obtain ⟨v, σ1, H1, I1, r1, q1⟩ := hf
    exact ⟨v, σ1, H1, inv_ofB I1, r1, q1⟩
def tTryA (K : PySem.W.Frag) (C1 C2 : Value) (tb : (St → Value → Hp → Prop) → (Value → Shared → Prop) → List (Addr × Obj) → TS) (t1 t2 : Addr → TS) (i : Nat) : TS := fun D σ H => ∃ Ex : St → Value → Hp → Prop, (∀ xe pn, tb Ex xe pn D σ H) ∧ ∀ σ' C H', Ex σ' C H' → ∃ b, PySem.W.exmOne K C C1 = some b ∧ (b = false → PySem.W.exmOne K C C2 = some true) ∧
  ∀ a, H' a = none → (if b = true then t1 else t2) a { nx := fun σ H => D.nx (σ.set i none) H, rt := D.rt, bk := fun σ H => D.bk (σ.set i none) H, ct := fun σ H => D.ct (σ.set i none) H } (σ'.set i (some (.ref a))) (upd H' a (excO a C))
theorem ps_tryA {body s1 s2 : List Stmt} {b1 b2 : Stmt} {tb : (St → Value → Hp → Prop) → (Value → Shared → Prop) → List (Addr × Obj) → TS} {t1 t2 : Addr → TS} {i : Nat} {n c1 c2 : Str} {C1 C2 : Addr} {np1 np2 hp1 hp2 pos : Pos} (hN : X.N.Nodup) (hi : X.N[i]? = some n) (hl : X.env.kindOf n = some .local)
    (hex : X.ex = []) (hst : X.stack = X.env :: X.outer) (hfr : X.env.frame = some X.env.locals) (g1 : Gl X c1) (m1 : X.mg c1 = some (.ref C1)) (g2 : Gl X c2) (m2 : X.mg c2 = some (.ref C2))
    (hb : ∀ Ex xe pn, Comes X.prog X.w (tryB X xe pn) Ex → PSs (tryB X xe pn) body (tb Ex xe pn)) (h1 : ∀ a, PSs (cxH X a) (b1 :: s1) (t1 a)) (h2 : ∀ a, PSs (cxH X a) (b2 :: s2) (t2 a)) (d1 : (c1 == ("__debug__" : Str)) = false := by decide) (d2 : (c2 == ("__debug__" : Str)) = false := by decide) :
    PS X (.Try body [.ExceptHandler (some (.Name c1 np1)) (some n) (b1 :: s1) hp1, .ExceptHandler (some (.Name c2 np2)) (some n) (b2 :: s2) hp2] [] [] pos) (tTryA X.K (.ref C1) (.ref C2) tb t1 t2 i) := by
  intro pins s σ H D I ⟨Ex, ht, hh⟩
  refine try_core hex hst hfr hb pins s σ H D I ⟨Ex, ht, fun pins σ' C H' s a hx L => ?_⟩
  obtain ⟨b, e1, e2, q⟩ := hh σ' C H' hx
  cases b with
  | true => exact hand_as L hN hi hl hex hst hfr g1 m1 e1 h1 (q a L.ha) d1
  | false => exact hand_no L g1 m1 e1 (hand_as L hN hi hl hex hst hfr g2 m2 (e2 rfl) h2 (q a L.ha) d2) d1
def tTryB (K : PySem.W.Frag) (C1 C2 : Value) (tb : (St → Value → Hp → Prop) → (Value → Shared → Prop) → List (Addr × Obj) → TS) (t1 t2 : TS) : TS := fun D σ H => ∃ Ex : St → Value → Hp → Prop, (∀ xe pn, tb Ex xe pn D σ H) ∧ ∀ σ' C H', Ex σ' C H' → ∃ b, PySem.W.exmOne K C C1 = some b ∧ (b = false → PySem.W.exmOne K C C2 = some true) ∧ (if b = true then t1 else t2) D σ' H'
theorem ps_tryB {body s1 s2 : List Stmt} {b1 b2 : Stmt} {tb : (St → Value → Hp → Prop) → (Value → Shared → Prop) → List (Addr × Obj) → TS} {t1 t2 : TS} {c1 c2 : Str} {C1 C2 : Addr} {np1 np2 hp1 hp2 pos : Pos}
    (hex : X.ex = []) (hst : X.stack = X.env :: X.outer) (hfr : X.env.frame = some X.env.locals) (g1 : Gl X c1) (m1 : X.mg c1 = some (.ref C1)) (g2 : Gl X c2) (m2 : X.mg c2 = some (.ref C2))
    (hb : ∀ Ex xe pn, Comes X.prog X.w (tryB X xe pn) Ex → PSs (tryB X xe pn) body (tb Ex xe pn)) (h1 : ∀ a, PSs (cxH X a) (b1 :: s1) t1) (h2 : ∀ a, PSs (cxH X a) (b2 :: s2) t2) (d1 : (c1 == ("__debug__" : Str)) = false := by decide) (d2 : (c2 == ("__debug__" : Str)) = false := by decide) :
    PS X (.Try body [.ExceptHandler (some (.Name c1 np1)) none (b1 :: s1) hp1, .ExceptHandler (some (.Name c2 np2)) none (b2 :: s2) hp2] [] [] pos) (tTryB X.K (.ref C1) (.ref C2) tb t1 t2) := by
  intro pins s σ H D I ⟨Ex, ht, hh⟩
  refine try_core hex hst hfr hb pins s σ H D I ⟨Ex, ht, fun pins σ' C H' s a hx L => ?_⟩
  obtain ⟨b, e1, e2, q⟩ := hh σ' C H' hx
  cases b with
  | true => exact hand_bare L hex hst hfr g1 m1 e1 h1 q d1
  | false => exact hand_no L g1 m1 e1 (hand_bare L hex hst hfr g2 m2 (e2 rfl) h2 q d2) d1
end
def cxCompE (xe : Value → Shared → Prop) (X : Cx) (N : List Str) (scope : Scope) (cl : List (Str × Addr)) (C : Addr) (s : Shared) (H : Hp) (fp : List Addr) : Cx := { cxComp X N scope cl C s H fp with xe := xe }
theorem inv_xe {X : Cx} {xe : Value → Shared → Prop} {pins : List (Addr × Obj)} {σ : St} {H : Hp} {s : Shared} (I : Inv X pins σ H s) : Inv { X with xe := xe } pins σ H s :=
  ⟨⟨I.ok.mod, I.ok.kind, I.ok.glob, I.ok.blt, I.ok.above, I.ok.inj, I.ok.has, I.ok.cab, I.ok.hd, I.ok.frames, I.ok.stk, I.ok.exf, I.ok.bs, I.ok.bsz, I.ok.noex, I.ok.exfs, I.ok.funs, I.ok.frf⟩, I.os, I.bare, I.base, I.loc, I.cell, I.free, I.freeC, I.pin, I.hok, I.len⟩
section
variable {X : Cx} {scope : Scope} {ls ys : List Str} {ix : List Nat} {tg iter elt : Expr} {ifs : List Expr} {pos : Pos} {wi : TI} {g : TG} {tt : TT} {te : TE}
theorem comp_runE {pins : List (Addr × Obj)} {σ : St} {H1 : Hp} {s : Shared} {J : It} {it : Addr} {fp : List Addr} {tn : Nat → Heap → Prop} {cl : List (Str × Addr)} {Q : Addr → Hp → Prop} {R : Value → Addr → Result → Shared → Prop} {E : Value → Shared → Prop} {Ex : Value → Hp → Prop} (hex : X.ex = []) (hc : X.calm = true)
    (ok : CompOk X scope ls ys ix) (I : Inv X pins σ H1 s) (T : Turn X.prog X.w X.K tg J fp it tn) (st : tn 0 s.heap) (f2 : ∀ b ∈ fp, FpOk X pins H1 b)
    (hcl1 : ∀ x c, cl.lookup x = some c → X.env.cells.lookup x = some c) (hcl2 : ∀ y ∈ scope.names, y.2 = .free → ∃ c, cl.lookup y.1 = some c)
    (hg : ∀ cl C s H fp xe, PG (cxCompE xe X (ls ++ ys) scope cl C s H fp) tg g) (ht : ∀ cl C s H fp xe, PF (cxCompE xe X (ls ++ ys) scope cl C s H fp) ifs tt) (he : ∀ cl C s H fp xe, Comes X.prog X.w (cxCompE xe X (ls ++ ys) scope cl C s H fp) (fun _ => Ex) → PE (cxCompE xe X (ls ++ ys) scope cl C s H fp) elt te)
    (hJ : ∀ D, H1 D = none → lcW (inSt ls.length ix σ) g tt te J H1 D (Q D))
    (hR : ∀ D C H' s', Q D H' → Inv X pins σ H' s' → H' C = none → FpOk X pins H' C → (∃ m, s'.heap.Ns C m) → R (.ref D) C (.ok .next) s')
    (hX : ∀ D C H' s' a T Cv, Ex Cv H' → Inv X pins σ H' s' → H' C = none → FpOk X pins H' C → (∃ m, s'.heap.Ns C m) → H' a = none → H' T = none → X.s₀.heap.get? a = none → X.s₀.heap.get? T = none → (∀ p ∈ X.pn ++ pins, p.1 ≠ a ∧ p.1 ≠ T) → FlyT s'.heap a T Cv →
      wpAny (model X.prog X.w) X.A (noteFrame (.ref a) X.env) (fun _ s'' => R (.ref D) C (.error (.ref a)) s'') (fun e s'' => R (.ref D) C (.error e) s'') s') :
    wpAny (model X.prog X.w) X.A (newList []) (fun acc s₃ => wpAny (model X.prog X.w) X.A (newFunctionEnv scope X.env.globals cl [] X.env.qual none .none (some X.env)) (fun cenv s₄ =>
      codeAny (model X.prog X.w) X.A (.compStart (.ListComp elt [⟨tg, iter, ifs, 0⟩] scope pos) 0 (.ref it) acc { cenv with scope := relabel scope X.env }) (R acc cenv.locals) s₄) E s₃) E s := by
  have hfp : ∀ b ∈ fp, b < s.heap.objs.size := fun b hb => by
    obtain ⟨o, e, _⟩ := T.obj _ _ st b hb
    exact Heap.lt_size e
  have I3 := I.lnew (ys := []) (its := []) (t' := s.toks) .nil (Nat.zero_le _)
  have hD : H1 s.heap.objs.size = none := I.fresh
  obtain ⟨W, ⟨m0, w0⟩, turn⟩ := hJ s.heap.objs.size hD
  refine wpAny_newObj_type (wpAny_newFunctionEnv ok.nocell (by intro y hy; simp at hy) (fun h₁ hns hsb => ?_) ok.kind)
  generalize hs3 : ({ s with heap := s.heap.push { cls := .type "list", data := .seq ([] : List Value).toArray }, toks := s.toks } : Shared) = s3 at I3
  have e3 : s.heap.push { cls := .type "list", dict := none, data := .seq ([] : List Value).toArray } = s3.heap := by rw [← hs3]
  have e3' : ({ s with heap := s.heap.push { cls := .type "list", dict := none, data := .seq ([] : List Value).toArray } } : Shared) = s3 := by rw [← hs3]
  generalize hH3 : upd H1 s.heap.objs.size (.lst []) = H3 at I3 w0
  have hsz : s3.heap.objs.size = s.heap.objs.size + 1 := by rw [← e3, Heap.size_push]
  have up3 : ∀ b o, s.heap.get? b = some o → s3.heap.get? b = some o := fun b o e => by rw [← e3]; exact Heap.get?_push_of_some _ e
  have f3 : ∀ b ∈ fp, FpOk X pins H3 b := fun b hb => by
    refine ⟨?_, (f2 b hb).2⟩
    rw [← hH3, upd_ne (Nat.ne_of_lt (hfp b hb))]
    exact (f2 b hb).1
  have hns : h₁.Ns s3.heap.objs.size (fun x => ([] : List (Str × Value)).reverse.lookup x) := by rw [← e3]; exact hns
  have hsb : Heap.SameBut s3.heap.objs.size (s3.heap.push { cls := .type (if (some X.env).isSome then "dict" else "frame"), data := .dict #[] }) h₁ := by rw [← e3]; exact hsb
  have up4 : ∀ b o, s3.heap.get? b = some o → h₁.get? b = some o := fun b o e => hsb.extBut b o (Nat.ne_of_lt (Heap.lt_size e)) (Heap.get?_push_of_some _ e)
  have Ic := comp_in (tk := s3.toks) I3 ok hcl1 hcl2 f3 (fun b hb => by rw [hsz]; exact Nat.lt_succ_of_lt (hfp b hb)) hns up4
  generalize hxe : (fun (e : Value) (s' : Shared) => notedBy (model X.prog X.w) X.A (compEnvC scope cl s3.heap.objs.size X.env) (fun e s' => R (.ref s.heap.objs.size) s3.heap.objs.size (.error e) s') e s') = xe
  have Ic := inv_xe (xe := xe) Ic
  have outw : ∀ {pins' : List (Addr × Obj)} {τ : St} {H' : Hp} {s' : Shared}, Inv (cxCompE xe X (ls ++ ys) scope cl s3.heap.objs.size s3 H3 fp) pins' τ H' s' → Inv X pins σ H' s' := fun {pins' τ H' s'} I5 =>
    I3.call' (ch := fp) I5.os I5.base I5.hok I5.bare fun b hb => ⟨(f3 b hb).2.2.2.1, (f3 b hb).2.1, (f3 b hb).2.2.2.2.1, (f3 b hb).2.2.2.2.2⟩
  have hCm : Comes X.prog X.w (cxCompE xe X (ls ++ ys) scope cl s3.heap.objs.size s3 H3 fp) (fun _ => Ex) := by
    intro pins' τ Hh1 s1 e s2 I1 hx
    obtain ⟨a, T, Cv, Hh2, rfl, os, bare, u, hok, ha, hT, na, nT, fl, q⟩ := hx
    have I2 : Inv (cxCompE xe X (ls ++ ys) scope cl s3.heap.objs.size s3 H3 fp) pins' τ Hh2 s2 := I1.call' (ch := []) os u hok bare fun b z => nomatch z
    have O1 := outw I1
    have O2 := outw I2
    have s0n : ∀ b, s1.heap.get? b = none → X.s₀.heap.get? b = none := fun b e => by
      cases q : X.s₀.heap.get? b with
      | none => rfl
      | some o =>
        obtain ⟨o', z⟩ := O1.base.there b o q (by rw [hex]; simp)
        rw [e] at z; cases z
    have np1 : ∀ p ∈ X.pn ++ pins, p.1 ≠ a ∧ p.1 ≠ T := fun p hp => by
      have z := (O1.pin p hp).1
      exact ⟨fun e => (by rw [e, na] at z; cases z), fun e => (by rw [e, nT] at z; cases z)⟩
    obtain ⟨m2, n2, _⟩ := I2.loc
    have hCn : Hh2 s3.heap.objs.size = none := I2.free
    have z := hX s.heap.objs.size s3.heap.objs.size Hh2 s2 a T Cv q O2 hCn (I3.fpOk (Nat.le_refl _) hCn) ⟨m2, n2⟩ ha hT (s0n _ na) (s0n _ nT) np1 fl
    show xe (.ref a) s2
    rw [← hxe]
    exact z
  have stat : ∀ {H' : Hp} {pl : List (Addr × Obj)}, (∀ b ∈ fp, H' b = none) → pl = [] → ∀ b ∈ fp, FpOk (cxCompE xe X (ls ++ ys) scope cl s3.heap.objs.size s3 H3 fp) pl H' b := fun {H' pl} hn hpl b hb => by
    subst hpl
    refine ⟨hn b hb, Nat.ne_of_lt (by rw [show (cxCompE xe X (ls ++ ys) scope cl s3.heap.objs.size s3 H3 fp).env.locals = s3.heap.objs.size from rfl, hsz]; exact Nat.lt_succ_of_lt (hfp b hb)), Ic.ok.exfs b hb, .inl hb, fun x c e => (f3 b hb).2.2.2.2.1 x c (hcl1 x c e), fun p hp => absurd (show p ∈ ([] : List (Addr × Obj)) from hp) (by simp)⟩
  have loop : codeAny (model X.prog X.w) X.A (.compLoop (.ListComp elt [⟨tg, iter, ifs, 0⟩] scope pos) 0 (.ref it) (.ref s.heap.objs.size) (compEnvC scope cl s3.heap.objs.size X.env)) (R (.ref s.heap.objs.size) s3.heap.objs.size) { s3 with heap := h₁, toks := s3.toks } := by
    refine compLoop_go (fun n s' => ∃ i τ H', Inv (cxCompE xe X (ls ++ ys) scope cl s3.heap.objs.size s3 H3 fp) [] τ H' s' ∧ tn i s'.heap ∧ (∀ b ∈ fp, H' b = none) ∧ W i n τ H') xe (fun e s' z => by rw [← hxe] at z; exact z) ?_ m0
      ⟨0, inSt ls.length ix σ, H3, Ic, T.keep _ _ _ st (fun b _ o e => up4 b o (up3 b o e)), fun b hb => (f3 b hb).1, w0⟩
    rintro n s4 ⟨i, τ, H4, I4, st4, fr4, w4⟩
    rcases turn i n τ H4 w4 with ⟨stop, qn⟩ | ⟨go, N, hN, step⟩
    · refine thn (T.done (cxCompE xe X (ls ++ ys) scope cl s3.heap.objs.size s3 H3 fp) rfl rfl rfl hc i [] s4 τ H4 xe I4 (stat fr4 rfl) st4 stop) fun r s5 ⟨hr, I5⟩ => ?_
      subst hr
      have Io : Inv X pins σ H4 s5 := I3.call' (ch := fp) I5.os I5.base I5.hok I5.bare fun b hb => ⟨(f3 b hb).2.2.2.1, (f3 b hb).2.1, (f3 b hb).2.2.2.2.1, (f3 b hb).2.2.2.2.2⟩
      obtain ⟨m5, n5, _⟩ := I5.loc
      have hC : H4 s3.heap.objs.size = none := I5.free
      exact hR _ _ H4 s5 qn Io hC (I3.fpOk (Nat.le_refl _) hC) ⟨m5, n5⟩
    · refine thn (T.item (cxCompE xe X (ls ++ ys) scope cl s3.heap.objs.size s3 H3 fp) rfl rfl rfl hc i [] s4 τ H4 xe I4 (stat fr4 rfl) st4 go) fun r s5 ⟨u, hr, h5⟩ => ?_
      subst hr
      refine thn h5 fun _ s6 ⟨x, H6, I6, r6, y6, st6, fr6⟩ => ?_
      have I6' := I6.pinned (stat fr6 rfl) (T.obj _ _ st6)
      have fin : ∀ {τ7 : St} {H7 : Hp} {s7 : Shared}, Inv (cxCompE xe X (ls ++ ys) scope cl s3.heap.objs.size s3 H3 fp) ([] ++ pinsAt fp s6.heap) τ7 H7 s7 → N τ7 H7 → ∃ m, m < n ∧ ∃ i τ H', Inv (cxCompE xe X (ls ++ ys) scope cl s3.heap.objs.size s3 H3 fp) [] τ H' s7 ∧ tn i s7.heap ∧ (∀ b ∈ fp, H' b = none) ∧ W i m τ H' := fun {τ7 H7 s7} I7 n7 => by
        obtain ⟨m', hm, w7⟩ := hN τ7 H7 n7
        refine ⟨m', hm, i + 1, τ7, H7, I7.unpinned, T.keep _ _ _ st6 fun b hb o e => (I7.pin (b, o) (List.mem_append_right _ (List.mem_append_right _ (mem_pinsAt hb e)))).1, fun b hb => ?_, w7⟩
        obtain ⟨o, e, d⟩ := T.obj _ _ st6 b hb
        exact (I7.pin (b, o) (List.mem_append_right _ (List.mem_append_right _ (mem_pinsAt hb e)))).2.1
      refine thn (hg _ _ _ _ _ _ _ s6 τ H6 x u _ I6' r6 (step x H6 y6)) fun _ s7 ⟨τ7, H7, I7, q7⟩ => ?_
      refine thn (ht _ _ _ _ _ _ _ s7 τ7 H7 _ I7 q7) fun b s8 ⟨H8, I8, q8⟩ => ?_
      cases b with
      | false =>
        rw [if_neg Bool.false_ne_true] at q8 ⊢
        exact fin I8 q8
      | true =>
        rw [if_pos rfl] at q8 ⊢
        refine thn (he _ _ _ _ _ _ hCm _ s8 τ7 H8 _ I8 q8) fun y s9 ⟨v, H9, I9, r9, acc, hacc, hlen, n9⟩ => ?_
        exact thn (mt_append _ s9 τ7 H9 (.ref s.heap.objs.size) [v] (.ref s.heap.objs.size) [y] (fun _ H' => N τ7 H') I9 rfl (.cons r9 .nil) ⟨_, acc, v, rfl, rfl, hacc, hlen, n9⟩) fun _ s10 ⟨_, H10, I10, _, n10⟩ => fin I10 n10
  exact codeAny_compStart_list loop (T.self _ 0 _ _ _ (T.keep _ _ _ st (fun b _ o e => up4 b o (up3 b o e))) loop)
end
def FlyA (h : Heap) (a T : Addr) (cls fl : Value) : Prop := ∃ (oe : Obj) (vs : Array Value) (oT : Obj) (ts : Array Value) (a0 : Value), h.get? a = some oe ∧ oe.cls = cls ∧ vs[0]? = some a0 ∧ oe.data = .fields vs ∧ vs[1]? = some (.ref T) ∧ T ≠ a ∧ h.get? T = some oT ∧ oT.data = .fields ts ∧ ts[3]? = some fl
def Lets (X : Cx) (Ex : Value → Hp → Prop) : Prop := ∀ (pins : List (Addr × Obj)) (σ : St) (H : Hp) (s : Shared) (a T : Addr) (C fl : Value), Inv X pins σ H s → H a = none → H T = none → X.s₀.heap.get? a = none → X.s₀.heap.get? T = none → FlyA s.heap a T C fl → Ex C H → X.xe (.ref a) s
theorem leaves_any {M : Model} {A : Around} {E : Value → Shared → Prop} {s : Shared} {base : Heap} {env : Env} {outer : List Env} {L e : Addr} {cls a0 fl : Value} {Q : Unit → Shared → Prop}
    (gfr : A.frames = some (env :: outer)) (gf : env.frame = some L) (k1 : base.StaysIn s.heap) (k2 : base.get? e = none) (k3 : s.heap.FunFrames base (env :: outer)) (k4 : s.heap.TracedAtW base e cls a0 fl)
    (gQ : ∀ h', Heap.FlyingW base outer e cls a0 h' → s.heap.UpToSlots h' → Q () { s with heap := h' }) : wpAny M A (leaving env (.ref e)) Q E s := by
  by_cases hq : fl = rawInt L
  · subst hq
    show wpAny M A (do noteFrame (.ref e) env; setFlight (.ref e) none) Q E s
    refine wpAny_bind (wpAny_noteFrame_againW gf k4 (wpAny_landsW ⟨k1, k2, k3, k4⟩ fun h' w sl => ?_))
    obtain ⟨w1, w2, ⟨_, _, w3⟩, w4⟩ := w
    exact gQ h' ⟨w1, w2, w3, w4⟩ sl
  · obtain ⟨oe, vs, T, oT, ts, ge, ⟨gc, g0⟩, gd, g1, gn, gT, gt, gdT, g3⟩ := k4
    subst gc
    show wpAny M A (do noteFrame (.ref e) env; setFlight (.ref e) none) Q E s
    unfold noteFrame
    simp only [gf]
    refine wpAny_bind (wpAny_bind (wpAny_field ge gd g1 ?_))
    rw [if_pos (by simp)]
    refine wpAny_bind (wpAny_field gt gdT g3 ?_)
    rw [if_neg (by simpa using hq)]
    refine wpAny_bind (wpAny_setField gt gdT (Array.getElem?_eq_some_iff.mp g3).1 ?_)
    have oth : ∀ b, b ≠ T → (s.heap.update T (Obj.mapFields (·.setIfInBounds 3 Value.none))).get? b = s.heap.get? b := fun b hb => Heap.get?_update_other _ _ (Ne.symm hb)
    have nrec : ∀ b o, s.heap.get? b = some o → (∀ vs, o.data ≠ .fields vs) → b ≠ T := fun b o hb hn z => by
      subst z
      rw [gt] at hb
      cases hb
      exact hn ts gdT
    refine wpAny_newEntryW gfr (k3.of_keeps fun b o hb hn => ⟨o, (oth b (nrec b o hb hn)).trans hb, rfl⟩) gf ((oth e (Ne.symm gT)).trans ge) (fun b o hb => (oth b fun z => by rw [z, gn] at hb; cases hb).trans (k1 b o hb)) k2 gd (Array.getElem?_eq_some_iff.mp g1).1 g0 fun h' lw => ?_
    obtain ⟨w1, ⟨_, _, w3⟩, w4, w5⟩ := lw
    exact gQ h' ⟨w1, k2, w3, w4⟩ fun b o hb hn => w5 b o ((oth b (nrec b o hb hn)).trans hb) hn
section
variable {P : Program} {w : World} {K : PySem.W.Frag} {mg : Str → Option Value} {base : Heap} {N : List Str} {qual : Str} {scope : Scope} {f : Addr} {cd : Value} {A : Around} {outer : List Env} {s₀ : Shared} {H₀ : Hp} {E : XK}
theorem lets1 : Lets (cx1 P w K mg base N qual scope f cd A outer s₀ H₀ E) fun C H => E C none H := by
  intro pins σ H' s' a T C fl I' ha hT na nT hfl q
  obtain ⟨oe, vs, oT, ts, a0, he, hc, h0, hd, h1, hTa, hoT, hdT, h3⟩ := hfl
  have fr := cx1_frames I'
  have nof : ∀ b o vs, s'.heap.get? b = some o → o.data = .fields vs → b ∉ s₀.heap.objs.size :: frs outer := fun b o vs e d z => by
    obtain ⟨o', e', n⟩ := (fr b z).2
    rw [e] at e'; cases e'
    exact n vs d
  show wpAny (model P w) (A.deeper (envOfC qual scope s₀.heap.objs.size f cd)) (leaving (envOfC qual scope s₀.heap.objs.size f cd) (.ref a)) (fun _ s'' => CX1 P w outer H₀ s₀ E (.ref a) s'') (fun e' s'' => CX1 P w outer H₀ s₀ E e' s'') s'
  generalize hBB : PySem.W.hideAll s'.heap ([a, T] ++ (s₀.heap.objs.size :: frs outer)) = B
  have hBn : ∀ b, b ∈ [a, T] ++ (s₀.heap.objs.size :: frs outer) → B.get? b = none := fun b hb => by rw [← hBB]; exact PySem.W.hideAll_none _ hb
  have hfr : (A.deeper (envOfC qual scope s₀.heap.objs.size f cd)).frames = some (envOfC qual scope s₀.heap.objs.size f cd :: outer) := I'.ok.frames
  have hll : s'.heap.FunFrames B (envOfC qual scope s₀.heap.objs.size f cd :: outer) := by
    have z := I'.stack
    rw [← hBB]
    exact PySem.W.funFrames_hide z fun env henv L hL => List.mem_append_right _ (show L ∈ frs (envOfC qual scope s₀.heap.objs.size f cd :: outer) from List.mem_filterMap.mpr ⟨env, henv, hL⟩)
  refine leaves_any hfr rfl (fun b o e => by rw [← hBB] at e; exact PySem.W.of_hideAll _ e) (hBn a (by simp)) hll ⟨oe, vs, T, oT, ts, he, ⟨hc, h0⟩, hd, h1, hBn T (by simp), hTa, hoT, hdT, h3⟩ fun h' fl' sl => ?_
  obtain ⟨st, _, _, oe', vs', T', oT', ts', he', ⟨hc', h0'⟩, hd', h1', hBT, hTa', hoT', hdT', h3'⟩ := fl'
  have uB : Un (frs outer) [] H₀ H' s₀.heap s'.heap := I'.base
  have hs0L : s₀.heap.get? s₀.heap.objs.size = none := Heap.get?_none_of_le (Nat.le_refl _)
  have s0n : ∀ b, s₀.heap.get? b = none → s₀.heap.get? b = none := fun b e => e
  have hslots : ∀ b o, b ∈ s₀.heap.objs.size :: frs outer → s'.heap.get? b = some o → ∀ vs, o.data ≠ .fields vs := fun b o hb e vs d => nof b o vs e d hb
  have un := un_pass (fs1 := s₀.heap.objs.size :: frs outer) (hid := [a, T]) uB B hBB.symm st sl (fun b hb => by
      rcases List.mem_cons.mp hb with rfl | hb
      · exact s0n _ na
      · rw [List.mem_singleton.mp hb]; exact s0n _ nT) (fun b hb => by
      rcases List.mem_cons.mp hb with rfl | hb
      · exact .inl hs0L
      · exact .inr hb) (fun b o hb e => hslots b o (List.mem_cons_of_mem _ hb) e) (fun b hb => (fr b hb).1) (fun b hb => by
      rcases List.mem_cons.mp hb with rfl | hb
      · exact ha
      · rw [List.mem_singleton.mp hb]; exact hT) hslots
  have hT'n : s₀.heap.get? T' = none ∧ H' T' = none := by
    by_cases hTT : T' = T
    · subst hTT; exact ⟨s0n _ nT, hT⟩
    · have nfr : T' ∉ s₀.heap.objs.size :: frs outer := fun z => by
        obtain ⟨o', e', n⟩ := (fr T' z).2
        obtain ⟨sl', e2⟩ := sl T' o' e' n
        rw [hoT'] at e2
        have e3 := Option.some.inj e2
        rw [e3] at hdT'
        exact n ts' hdT'
      have nget : s'.heap.get? T' = none := by
        cases q : s'.heap.get? T' with
        | none => rfl
        | some o =>
          have z : B.get? T' = some o := by
            rw [← hBB]
            refine PySem.W.hideAll_get _ q fun m => ?_
            rcases List.mem_append.mp m with m | m
            · rcases List.mem_cons.mp m with m | m
              · exact hTa' m
              · exact hTT (List.mem_singleton.mp m)
            · exact nfr m
          rw [hBT] at z; cases z
      refine ⟨?_, I'.hok.none_of nget⟩
      cases q : s₀.heap.get? T' with
      | none => rfl
      | some o =>
        obtain ⟨o', z⟩ := uB.there T' o q (by simp)
        rw [nget] at z; cases z
  refine ⟨a, T', C, H', rfl, I'.os, I'.bare, un, ?_, ha, hT'n.2, s0n _ na, hT'n.1, ⟨oe', vs', oT', ts', a0, he', hc', h0', hd', h1', hTa', hoT', hdT', h3'⟩, q⟩
  refine I'.hok.keepT fun b u hb e => st b u ?_
  rw [← hBB]
  refine PySem.W.hideAll_get _ e fun m => ?_
  rcases List.mem_append.mp m with m | m
  · rcases List.mem_cons.mp m with rfl | m
    · rw [ha] at hb; cases hb
    · rw [List.mem_singleton.mp m, hT] at hb; cases hb
  · rw [(fr b m).1] at hb; cases hb
end
section
variable {X : Cx} {scope : Scope} {ls ys : List Str} {ix : List Nat} {tg iter elt : Expr} {ifs : List Expr} {pos : Pos} {wi : TI} {g : TG} {tt : TT} {te : TE}
theorem pe_lcX {Ex : Value → Hp → Prop} (hex : X.ex = []) (hst : X.stack = X.env :: X.outer) (hfr : X.env.frame = some X.env.locals) (L : Lets X Ex) (hc : X.calm = true) (ok : CompOk X scope ls ys ix) (hi : PI X tg iter wi)
    (hg : ∀ cl C s H fp xe, PG (cxCompE xe X (ls ++ ys) scope cl C s H fp) tg g) (ht : ∀ cl C s H fp xe, PF (cxCompE xe X (ls ++ ys) scope cl C s H fp) ifs tt)
    (he : ∀ cl C s H fp xe, Comes X.prog X.w (cxCompE xe X (ls ++ ys) scope cl C s H fp) (fun _ => Ex) → PE (cxCompE xe X (ls ++ ys) scope cl C s H fp) elt te)
    (hs : ∀ x, foldedSetIterable iter X.env x = pure x := by intro _; rfl) : PE X (.ListComp elt [⟨tg, iter, ifs, 0⟩] scope pos) (tLc wi ls.length ix g tt te) := by
  intro pins s σ H Q I h
  obtain ⟨cl, hclos, hcl1, hcl2⟩ := closure_ok (scope := scope) (env := X.env) fun y hy hf => I.ok.has y.1 (.inl (ok.free y hy hf))
  rw [eval_ListComp]
  refine wpAny_comprehension_free (use := none) rfl hs hclos ok.kind ok.loc (thn (hi pins s σ H _ I h) fun v s1 h1 => thn h1 fun itv s2 h2 => ?_)
  obtain ⟨it, fp, tn, J, H2, rfl, I2, T, st2, f2, hJ⟩ := h2
  refine comp_runE (Ex := Ex) (R := fun acc C => compPost (model X.prog X.w) X.A X.xe none (EP X pins σ Q) acc C) hex hc ok I2 T st2 f2 hcl1 hcl2 hg ht he hJ (fun D C H' s' q I' hC fC hm => ?_) fun D C H' s' a T Cv q I' hC fC hm ha hT na nT np1 fl => ?_
  · obtain ⟨m, hn⟩ := hm
    refine ⟨m, hn, fun h' hsb => ⟨.ref D, H', ?_, rfl, q⟩⟩
    exact I'.turned (t' := s'.toks) (fun b o hb e => (hsb.2 b hb).trans e) hC fC.2.1 fC.2.2.2.1 fC.2.2.2.2.1 fC.2.2.2.2.2
  · obtain ⟨m, hn⟩ := hm
    generalize hBB : PySem.W.hideAll s'.heap ([a, T] ++ frs X.stack) = B
    have hBn : ∀ b, b ∈ [a, T] ++ frs X.stack → B.get? b = none := fun b hb => by rw [← hBB]; exact PySem.W.hideAll_none _ hb
    have st0 : B.StaysIn s'.heap := fun b o e => by rw [← hBB] at e; exact PySem.W.of_hideAll _ e
    have hll : s'.heap.FunFrames B (X.env :: X.outer) := by
      have z := I'.stack
      rw [← hBB, ← hst]
      exact PySem.W.funFrames_hide z fun env henv L hL => List.mem_append_right _ (List.mem_filterMap.mpr ⟨env, henv, hL⟩)
    obtain ⟨a0, fw⟩ := fly_of (hBn a (by simp)) st0 hll fl (hBn T (by simp))
    have hfrs : X.A.frames = some (X.env :: X.outer) := by rw [← hst]; exact I'.ok.frames
    refine wpAny_looks_onW hfrs hfr fw fun h4 held4 sl4 => ?_
    obtain ⟨st4, _, _, oe, vs, T', oT, ts, ge, ⟨gc, g0⟩, gd, g1, gn, gTa, gt, gdT, g3⟩ := held4
    have hd1 : ∀ b o, b ∈ frs X.stack → s'.heap.get? b = some o → ∀ vs, o.data ≠ .fields vs := fun b o hb e vs d => by
      obtain ⟨_, o', e', n⟩ := I'.stack.mem hb
      rw [e] at e'; cases e'
      exact n vs d
    have hT' : T' = T ∨ s'.heap.get? T' = none := by
      cases qq : s'.heap.get? T' with
      | none => exact .inr rfl
      | some o =>
        by_cases hTT : T' = T
        · exact .inl hTT
        · by_cases hf : T' ∈ frs X.stack
          · obtain ⟨sl2, e2⟩ := sl4 T' o qq (hd1 T' o hf qq)
            rw [gt] at e2
            have e3 := Option.some.inj e2
            rw [e3] at gdT
            exact absurd gdT (hd1 T' o hf qq ts)
          · have z : B.get? T' = some o := by
              rw [← hBB]
              refine PySem.W.hideAll_get _ qq fun mm => ?_
              rcases List.mem_append.mp mm with mm | mm
              · rcases List.mem_cons.mp mm with mm | mm
                · exact gTa mm
                · exact hTT (List.mem_singleton.mp mm)
              · exact hf mm
            rw [gn] at z; cases z
    have t1 : H' T' = none := by
      rcases hT' with rfl | z
      · exact hT
      · exact I'.hok.none_of z
    have t2 : X.s₀.heap.get? T' = none := by
      rcases hT' with rfl | z
      · exact nT
      · cases qq : X.s₀.heap.get? T' with
        | none => rfl
        | some o =>
          obtain ⟨o', z'⟩ := I'.base.there T' o qq (by rw [hex]; simp)
          rw [z] at z'; cases z'
    have t3 : ∀ p ∈ X.pn ++ pins, p.1 ≠ a ∧ p.1 ≠ T' := fun p hp => ⟨(np1 p hp).1, by
      rcases hT' with rfl | z
      · exact (np1 p hp).2
      · intro e
        have := (I'.pin p hp).1
        rw [e, z] at this; cases this⟩
    have I4 := I'.land hex hst hfr ha hT na nT np1 hBB st4 sl4
    refine ⟨m, sl4.ns hn, fun h' hsb cenv hcv => ?_⟩
    obtain ⟨oC, es, ep, hoC, hdC, _⟩ := sl4.ns hn
    have aC : a ≠ C := fun z => by rw [← z, ge] at hoC; cases hoC; rw [gd] at hdC; cases hdC
    have tC : T' ≠ C := fun z => by rw [← z, gt] at hoC; cases hoC; rw [gdT] at hdC; cases hdC
    have I5 := I4.turned (t' := s'.toks) (h' := h') (fun b o hb e => (hsb.2 b hb).trans e) hC fC.2.1 fC.2.2.2.1 fC.2.2.2.2.1 fC.2.2.2.2.2
    have ge5 := (hsb.2 a aC).trans ge
    have gt5 := (hsb.2 T' tC).trans gt
    unfold PySem.passOn
    refine wpAny_bind (wpAny_field (o := oe) (vs := vs) (x := .ref T') ge5 gd g1 ?_)
    rw [if_neg (by simp)]
    unfold setFlight
    refine wpAny_bind (wpAny_bind (wpAny_field (o := oe) (vs := vs) (x := .ref T') ge5 gd g1 ?_))
    rw [if_pos (by simp)]
    have g3z := (Array.getElem?_eq_some_iff.mp g3).1
    refine wpAny_setField (o := oT) (vs := ts) gt5 gdT g3z (wpAny_throw ?_)
    have oth : ∀ (v : Value) b, b ≠ T' → (h'.update T' (Obj.mapFields (·.setIfInBounds 3 v))).get? b = h'.get? b := fun v b hb => Heap.get?_update_other _ _ (Ne.symm hb)
    generalize (Option.elim cenv.frame Value.none fun f => rawInt f) = vv
    have I6 := I5.land (h5 := h'.update T' (Obj.mapFields (·.setIfInBounds 3 vv))) hex hst hfr ha t1 na t2 t3 rfl (fun b o e => (oth vv b fun z => by rw [z, PySem.W.hideAll_none _ (by simp)] at e; cases e).trans (PySem.W.of_hideAll _ e)) (fun b o e n => ⟨o.slots, (oth vv b fun z => by
      subst z
      rw [show _ = some oT from gt5] at e
      cases e
      exact n ts gdT).trans e⟩)
    exact L pins σ H' _ a T' Cv vv I6 ha t1 na t2 ⟨oe, vs, _, _, a0, (oth vv a (Ne.symm gTa)).trans ge5, gc, g0, gd, g1, gTa, Heap.get?_update_self _ gt5 (Obj.isFreed_of_fields (Obj.data_mapFields gdT _)), Obj.data_mapFields gdT _, by simp [g3z]⟩ q
end
end L2
namespace TS
open PySem PyProof.Rows
section
variable {M : Model} {A : Around} {E : Value → Shared → Prop} {s : Shared} {κ : SortKind} {S : Keyed → Prop} {r : Keyed → Keyed → Bool}
abbrev Srt (r : Keyed → Keyed → Bool) (l : List Keyed) : Prop := l.Pairwise fun x y => r y x = false
def Good (r : Keyed → Keyed → Bool) (A B l : List Keyed) : Prop := Srt r l ∧ l.Perm (A ++ B)
abbrev H7 := Option (Array Keyed) × Nat × Nat × Array Keyed × Nat × Nat × Nat
end
end TS
namespace TS
open PySem PyProof.Rows
def Sl (r : Keyed → Keyed → Bool) (a : Array Keyed) (lo n : Nat) : Prop := ∀ m m' x x', lo ≤ m → m ≤ m' → m' < lo + n → a[m]? = some x → a[m']? = some x' → r x' x = false
def Dn (r : Keyed → Keyed → Bool) (a : Array Keyed) (lo n : Nat) : Prop := ∀ m m' x x', lo ≤ m → m ≤ m' → m' < lo + n → a[m]? = some x → a[m']? = some x' → r x x' = false
section
variable {M : Model} {A : Around} {E : Value → Shared → Prop} {s : Shared} {κ : SortKind} {S : Keyed → Prop} {r : Keyed → Keyed → Bool}
def In (S : Keyed → Prop) (a : Array Keyed) : Prop := ∀ (k : Nat) (x : Keyed), a[k]? = some x → S x
end
end TS
namespace TS
open PySem PyProof.Rows
section
variable {M : Model} {A : Around} {E : Value → Shared → Prop} {s : Shared} {κ : SortKind} {S : Keyed → Prop} {r : Keyed → Keyed → Bool}
end
end TS
namespace TS
open PySem PyProof.Rows
section
variable {M : Model} {A : Around} {E : Value → Shared → Prop} {s : Shared} {κ : SortKind} {S : Keyed → Prop} {r : Keyed → Keyed → Bool}
abbrev Rn := Nat × Nat × Nat
def Cov (r : Keyed → Keyed → Bool) (a : Array Keyed) : List Rn → Nat → Nat → Prop
  | [], f, t => f = t
  | x :: ps, f, t => x.1 = f ∧ 0 < x.2.1 ∧ Sl r a x.1 x.2.1 ∧ Cov r a ps (f + x.2.1) t
structure SI (κ : SortKind) (S : Keyed → Prop) (r : Keyed → Keyed → Bool) (a₀ : Array Keyed) (lo : Nat) (st : SortSt) : Prop where
  kind : kindOf st = κ
  fail : failedOf st = none
  pm : (arrOf st).Perm a₀
  ins : In S (arrOf st)
  cov : Cov r (arrOf st) (pendingOf st).toList 0 lo
end
end TS
namespace L2
open PySem PySem.Spec PyProof.Rows
section
variable {prog : Program} {w : World} {A : Around} {E : Value → Shared → Prop} {s : Shared}
end
section
variable {X : Cx}
end
end L2
namespace K05
open PySem L2
abbrev T3 := List Int
def iK (x : T3) : List Key := x.map Sum.inl
theorem iK_inj {x y : T3} (h : iK x = iK y) : x = y := by
  have := congrArg (List.map kV) h
  unfold iK at this
  rw [kV_ints, kV_ints] at this
  exact map_int_inj this
theorem iK_at {H : Hp} {b : Addr} {x : T3} (h : H b = some (.tup (x.map V.int))) : H b = some (.tup ((iK x).map kV)) := by unfold iK; rw [kV_ints]; exact h
theorem dg {H : Hp} {d b : Addr} {kvs : List (List Key × V)} {x : T3} (hd : Rd H d (.dT kvs)) (hb : H b = some (.tup (x.map V.int))) : DGet H d (.ref b) (valV kvs (iK x)) := .inr ⟨kvs, iK x, b, hd, rfl, iK_at hb, rfl⟩
theorem nd_sub_len {α : Type} [DecidableEq α] : ∀ {xs ys : List α}, xs.Nodup → (∀ x ∈ xs, x ∈ ys) → xs.length ≤ ys.length
  | [], _, _, _ => Nat.zero_le _
  | x :: xs, ys, nd, h => by
    rw [List.nodup_cons] at nd
    have := nd_sub_len (ys := ys.erase x) nd.2 fun y hy => (List.mem_erase_of_ne (fun z => nd.1 (by rw [← z]; exact hy))).mpr (h y (List.mem_cons_of_mem _ hy))
    have e := List.length_erase_of_mem (h x List.mem_cons_self)
    have p : 0 < ys.length := List.length_pos_of_mem (h x List.mem_cons_self)
    rw [List.length_cons]
    omega
theorem lex_asymm : ∀ a b : List Int, HT.lexLt a b = true → HT.lexLt b a = false
  | [], [], h => by rw [lex_irrefl] at h; cases h
  | [], _ :: _, _ => rfl
  | _ :: _, [], h => by cases h
  | x :: r, y :: t, h => by
    rw [HT.lexLt_cons] at h ⊢
    by_cases e : x = y
    · rw [if_pos e] at h; rw [if_pos e.symm]; exact lex_asymm r t h
    · rw [if_neg e] at h; rw [if_neg (Ne.symm e)]
      have := of_decide_eq_true h
      exact decide_eq_false (by omega)
structure Szs (L R C : Int) : Prop where
  l0 : 1 ≤ L
  l1 : L ≤ 4
  r0 : 1 ≤ R
  r1 : R ≤ 16
  c0 : 1 ≤ C
  c1 : C ≤ 16
def Ins (L R C l r c : Int) : Prop := 0 ≤ l ∧ l < L ∧ 0 ≤ r ∧ r < R ∧ 0 ≤ c ∧ c < C
instance {L R C l r c : Int} : Decidable (Ins L R C l r c) := by unfold Ins; infer_instance
theorem ins_b {L R C l r c : Int} : (decide (0 ≤ l) && decide (l < L) && (decide (0 ≤ r) && decide (r < R) && (decide (0 ≤ c) && decide (c < C)))) = decide (Ins L R C l r c) := by
  rw [Bool.eq_iff_iff]
  simp only [Bool.and_eq_true, decide_eq_true_eq]
  unfold Ins
  constructor <;> intro h <;> omega
def sN (R C : Int) (n : Nat) : T3 := [(n : Int) / C / R, (n : Int) / C % R, (n : Int) % C]
section
variable {L R C : Int}
theorem sN_ins (S : Szs L R C) {n : Nat} (h : (n : Int) < L * R * C) : Ins L R C ((n : Int) / C / R) ((n : Int) / C % R) ((n : Int) % C) := by
  have := S.r0
  have := S.c0
  have hn : (0 : Int) ≤ (n : Int) := Int.natCast_nonneg n
  have h1 : (n : Int) / C < L * R := Int.ediv_lt_of_lt_mul (by omega) h
  exact ⟨Int.ediv_nonneg (Int.ediv_nonneg hn (by omega)) (by omega), Int.ediv_lt_of_lt_mul (by omega) h1, Int.emod_nonneg _ (by omega), Int.emod_lt_of_pos _ (by omega), Int.emod_nonneg _ (by omega), Int.emod_lt_of_pos _ (by omega)⟩
theorem sN_lt (S : Szs L R C) {n m : Nat} (h : n < m) : HT.lexLt (sN R C n) (sN R C m) = true := by
  have r0 := S.r0
  have c0 := S.c0
  have e1 := Int.mul_ediv_add_emod (n : Int) C
  have e2 := Int.mul_ediv_add_emod (m : Int) C
  have e3 := Int.mul_ediv_add_emod ((n : Int) / C) R
  have e4 := Int.mul_ediv_add_emod ((m : Int) / C) R
  have le1 : (n : Int) / C ≤ (m : Int) / C := Int.ediv_le_ediv (by omega) (by omega)
  have le2 : (n : Int) / C / R ≤ (m : Int) / C / R := Int.ediv_le_ediv (by omega) le1
  unfold sN
  rw [HT.lexLt_cons]
  by_cases g1 : (n : Int) / C / R = (m : Int) / C / R
  · rw [if_pos g1, HT.lexLt_cons]
    by_cases g2 : (n : Int) / C % R = (m : Int) / C % R
    · rw [if_pos g2, HT.lexLt_cons]
      rw [g1, g2, e4] at e3
      rw [← e3] at e1
      rw [if_neg (by intro g3; rw [g3] at e1; omega)]
      exact decide_eq_true (by omega)
    · rw [if_neg g2]
      refine decide_eq_true ?_
      rw [g1] at e3
      omega
  · rw [if_neg g1]
    exact decide_eq_true (by omega)
theorem sN_inj (S : Szs L R C) {n m : Nat} (h : sN R C n = sN R C m) : n = m := by
  rcases Nat.lt_trichotomy n m with g | g | g
  · have := sN_lt S g; rw [h, lex_irrefl] at this; cases this
  · exact g
  · have := sN_lt S g; rw [h, lex_irrefl] at this; cases this
def enc (R C : Int) (ps : List (Nat × V)) : List (List Key × V) := ps.map fun p => (iK (sN R C p.1), p.2)
theorem val_enc (S : Szs L R C) (n : Nat) : ∀ ps : List (Nat × V), valV (enc R C ps) (iK (sN R C n)) = valV ps n
  | [] => rfl
  | p :: r => by
    have ih := val_enc S n r
    unfold enc at ih ⊢
    rw [List.map_cons]
    by_cases e : p.1 = n
    · rw [valV_pos e]
      exact valV_pos (p := (iK (sN R C p.1), p.2)) (by rw [e])
    · rw [valV_neg e, ← ih]
      exact valV_neg (p := (iK (sN R C p.1), p.2)) (fun z => e (sN_inj S (iK_inj z)))
theorem put_enc (S : Szs L R C) (ps : List (Nat × V)) (n : Nat) (v : V) : putK (enc R C ps) (iK (sN R C n)) v = enc R C (putK ps n v) := by
  unfold putK
  rw [valV_any, valV_any, val_enc S]
  by_cases h : (valV ps n).isSome = true
  · rw [if_pos h, if_pos h]
    unfold enc
    rw [List.map_map, List.map_map]
    refine List.map_congr_left fun p _ => ?_
    show (if iK (sN R C p.1) = iK (sN R C n) then _ else _) = (iK (sN R C (if p.1 = n then (p.1, v) else p).1), (if p.1 = n then (p.1, v) else p).2)
    by_cases e : p.1 = n
    · rw [if_pos (by rw [e]), if_pos e]
    · rw [if_neg (fun z => e (sN_inj S (iK_inj z))), if_neg e]
  · rw [if_neg h, if_neg h]
    unfold enc
    rw [List.map_append]; rfl
theorem keys_putK {κ : Type} [DecidableEq κ] (kvs : List (κ × V)) (k : κ) (v : V) : (putK kvs k v).map (·.1) = if (valV kvs k).isSome = true then kvs.map (·.1) else kvs.map (·.1) ++ [k] := by
  unfold putK
  rw [valV_any]
  by_cases h : (valV kvs k).isSome = true
  · rw [if_pos h, if_pos h, List.map_map]
    refine List.map_congr_left fun p _ => ?_
    show (if p.1 = k then (p.1, v) else p).1 = p.1
    split <;> rfl
  · rw [if_neg h, if_neg h, List.map_append]; rfl
theorem val_key {κ : Type} [DecidableEq κ] {kvs : List (κ × V)} {k : κ} : (valV kvs k).isSome = true ↔ k ∈ kvs.map (·.1) := by
  rw [← valV_any]
  simp [List.any_eq_true]
theorem val_mem {κ : Type} [DecidableEq κ] {kvs : List (κ × V)} {k : κ} {v : V} (h : valV kvs k = some v) : (k, v) ∈ kvs := by
  unfold valV at h
  obtain ⟨p, h1, h2⟩ := Option.map_eq_some_iff.mp h
  have h3 := List.find?_some h1
  have h4 := List.mem_of_find?_eq_some h1
  have : p.1 = k := of_decide_eq_true h3
  subst this h2
  exact h4
structure Tb (M : Nat) (ps : List (Nat × V)) : Prop where
  nd : (ps.map (·.1)).Nodup
  lt : ∀ p ∈ ps, p.1 < M
theorem Tb.nil {M : Nat} : Tb M [] := ⟨List.nodup_nil, fun _ h => nomatch h⟩
theorem Tb.put {M n : Nat} {ps : List (Nat × V)} {v : V} (h : Tb M ps) (hn : n < M) : Tb M (putK ps n v) := by
  have hk := keys_putK ps n v
  refine ⟨?_, fun p hp => ?_⟩
  · rw [hk]
    split
    · exact h.nd
    · rename_i g
      refine List.nodup_append.mpr ⟨h.nd, List.nodup_cons.mpr ⟨by simp, List.nodup_nil⟩, ?_⟩
      intro a ha b hb e
      rw [List.mem_singleton.mp hb] at e
      exact g (val_key.mpr (e ▸ ha))
  · have := List.mem_map_of_mem (f := (·.1)) hp
    rw [hk] at this
    split at this
    · obtain ⟨q, hq, e⟩ := List.mem_map.mp this
      have e : q.1 = p.1 := e
      rw [← e]; exact h.lt q hq
    · rcases List.mem_append.mp this with t | t
      · obtain ⟨q, hq, e⟩ := List.mem_map.mp t
        have e : q.1 = p.1 := e
        rw [← e]; exact h.lt q hq
      · rw [List.mem_singleton.mp t]; exact hn
theorem Tb.few {M : Nat} {ps : List (Nat × V)} (h : Tb M ps) : ps.length ≤ M := by
  have : (ps.map (·.1)).length ≤ (List.range M).length := nd_sub_len h.nd fun n hn => by
    obtain ⟨p, hp, rfl⟩ := List.mem_map.mp hn
    exact List.mem_range.mpr (h.lt p hp)
  simpa using this
def rk (rs : List Nat) : List (Nat × V) := rs.foldl (fun acc n => putK acc n (.bl true)) []
theorem rk_snoc (rs : List Nat) (n : Nat) : rk (rs ++ [n]) = putK (rk rs) n (.bl true) := by unfold rk; rw [List.foldl_append]; rfl
theorem snoc_ind {α : Type} {P : List α → Prop} (h0 : P []) (h1 : ∀ xs x, P xs → P (xs ++ [x])) (l : List α) : P l := by
  have : ∀ n (xs : List α), xs.length = n → P xs := by
    intro n
    induction n with
    | zero => intro xs e; rw [List.length_eq_zero_iff.mp e]; exact h0
    | succ n ih =>
      intro xs e
      have hne : xs ≠ [] := fun z => by rw [z] at e; simp at e
      rw [(List.dropLast_concat_getLast hne).symm]
      exact h1 _ _ (ih _ (by simp [e]))
  exact this _ l rfl
theorem rk_val (n : Nat) (rs : List Nat) : (valV (rk rs) n).isSome = decide (n ∈ rs) := by
  induction rs using snoc_ind with
  | h0 => simp [rk, valV_nil]
  | h1 xs x ih =>
    rw [rk_snoc, valV_put]
    by_cases e : n = x
    · simp [e]
    · rw [if_neg e, ih]; simp [e]
theorem rk_enc (S : Szs L R C) (rs : List Nat) : mkD (rs.map fun n => (iK (sN R C n), V.bl true)) = enc R C (rk rs) := by
  induction rs using snoc_ind with
  | h0 => rfl
  | h1 xs x ih => rw [List.map_append, List.map_singleton, mkD_snoc, ih, rk_snoc]; exact put_enc S _ _ _
theorem small_hash {a : Nat} (h : a < 16) : hashInt (a : Int) = a := by
  have : ∀ a < 16, hashInt ((a : Nat) : Int) = a := by decide +kernel
  exact this a h
theorem hv3_at (l r c : Nat) (hr : r < 16) (hc : c < 16) : hv3 (256 * l + 16 * r + c) = reduceHash (Builtin.Tuple.tupleHashOf [(l : Int), (r : Int), (c : Int)]) := by
  have e1 : (256 * l + 16 * r + c) / 256 = l := by omega
  have e2 : (256 * l + 16 * r + c) / 16 % 16 = r := by omega
  have e3 : (256 * l + 16 * r + c) % 16 = c := by omega
  unfold hv3
  rw [e1, e2, e3]
theorem tk_hash {P : Program} {w : World} (x : List Int) : tupleKeyHash (mixKind P w) (iK x) = reduceHash (Builtin.Tuple.tupleHashOf (x.map hashInt)) := by
  unfold tupleKeyHash iK
  rw [List.map_map]
  rfl
theorem hash3 {P : Program} {w : World} (l r c : Nat) (hl : l < 16) (hr : r < 16) (hc : c < 16) : tupleKeyHash (mixKind P w) (iK [(l : Int), (r : Int), (c : Int)]) = hv3 (256 * l + 16 * r + c) := by
  rw [tk_hash, hv3_at l r c hr hc, List.map_cons, List.map_cons, List.map_cons, List.map_nil, small_hash hl, small_hash hr, small_hash hc]
theorem hash_sN (S : Szs L R C) {n : Nat} (h : (n : Int) < L * R * C) {P : Program} {w : World} : ∃ k : Nat, k < 1024 ∧ tupleKeyHash (mixKind P w) (iK (sN R C n)) = hv3 k ∧ (k : Int) = 256 * ((n : Int) / C / R) + 16 * ((n : Int) / C % R) + (n : Int) % C := by
  obtain ⟨a1, a2, a3, a4, a5, a6⟩ := sN_ins S h
  have := S.l1
  have := S.r1
  have := S.c1
  unfold sN
  revert a1 a2 a3 a4 a5 a6
  generalize (n : Int) / C / R = l
  generalize (n : Int) / C % R = r
  generalize (n : Int) % C = c
  intro a1 a2 a3 a4 a5 a6
  obtain ⟨l, rfl⟩ := Int.eq_ofNat_of_zero_le a1
  obtain ⟨r, rfl⟩ := Int.eq_ofNat_of_zero_le a3
  obtain ⟨c, rfl⟩ := Int.eq_ofNat_of_zero_le a5
  exact ⟨256 * l + 16 * r + c, by omega, hash3 l r c (by omega) (by omega) (by omega), by omega⟩
theorem hash_eq (S : Szs L R C) {P : Program} {w : World} {n m : Nat} (hn : (n : Int) < L * R * C) (hm : (m : Int) < L * R * C) (e : tupleKeyHash (mixKind P w) (iK (sN R C n)) = tupleKeyHash (mixKind P w) (iK (sN R C m))) : n = m := by
  obtain ⟨k, k1, k2, k3⟩ := hash_sN S hn (P := P) (w := w)
  obtain ⟨j, j1, j2, j3⟩ := hash_sN S hm (P := P) (w := w)
  have e := hv3_inj k1 j1 (k2.symm.trans (e.trans j2))
  obtain ⟨a1, a2, a3, a4, a5, a6⟩ := sN_ins S hn
  obtain ⟨b1, b2, b3, b4, b5, b6⟩ := sN_ins S hm
  have := S.r1
  have := S.c1
  refine sN_inj S ?_
  unfold sN
  rw [show (n : Int) / C / R = (m : Int) / C / R by omega, show (n : Int) / C % R = (m : Int) / C % R by omega, show (n : Int) % C = (m : Int) % C by omega]
theorem nd_map {α β : Type} {f : α → β} : ∀ {xs : List α}, xs.Nodup → (∀ a ∈ xs, ∀ b ∈ xs, f a = f b → a = b) → (xs.map f).Nodup
  | [], _, _ => List.nodup_nil
  | x :: xs, nd, h => by
    rw [List.nodup_cons] at nd
    rw [List.map_cons, List.nodup_cons]
    refine ⟨fun z => ?_, nd_map nd.2 fun a ha b hb => h a (List.mem_cons_of_mem _ ha) b (List.mem_cons_of_mem _ hb)⟩
    obtain ⟨y, hy, e⟩ := List.mem_map.mp z
    exact nd.1 ((h y (List.mem_cons_of_mem _ hy) x List.mem_cons_self e) ▸ hy)
theorem hash_list {P : Program} {w : World} (g : List Key → Int) : ∀ ps : List (Nat × V), (enc R C ps).map (fun p => g p.1) = (ps.map (·.1)).map fun n => g (iK (sN R C n))
  | [] => rfl
  | p :: r => by
    have := hash_list (P := P) (w := w) g r
    unfold enc at this ⊢
    rw [List.map_cons, List.map_cons, List.map_cons, List.map_cons, this]
theorem hash_tb (S : Szs L R C) {M : Nat} (hM : (M : Int) = L * R * C) {ps : List (Nat × V)} (h : Tb M ps) {P : Program} {w : World} : HashNd P w (enc R C ps) := by
  have key := hash_list (P := P) (w := w) (R := R) (C := C) (tupleKeyHash (mixKind P w)) ps
  unfold HashNd
  rw [key]
  refine nd_map h.nd fun n hn m hm e => ?_
  obtain ⟨p, hp, rfl⟩ := List.mem_map.mp hn
  obtain ⟨q, hq, rfl⟩ := List.mem_map.mp hm
  have l1 := h.lt p hp
  have l2 := h.lt q hq
  exact hash_eq S (by omega) (by omega) e
theorem enc_keys {ps : List (Nat × V)} : (enc R C ps).map (·.1) = ((ps.map (·.1)).map (sN R C)).map fun c => c.map Sum.inl := by
  unfold enc
  rw [List.map_map, List.map_map, List.map_map]; rfl
theorem enc_len {ps : List (Nat × V)} : (enc R C ps).length = ps.length := by unfold enc; rw [List.length_map]
end
end K05
namespace K05
open PySem L2
theorem same_at {H0 H' : Hp} {D : Addr} {y : HO} (s : Same H0 H') (nD : H0 D = none) : Same H0 (upd H' D y) := fun b u e => by
  rw [upd_ne (ne_of_none e nD)]; exact s _ _ e
section
variable {tc : TT} {t u : TS} {te ta tb td ty : TE} {D : Ends} {σ : St} {H : Hp} {a d : Addr} {y v : V} {o : Option V} {K : PySem.W.Frag}
theorem ev_dnotin (ha : Ev ty σ H y) (hb : Ev td σ H (.ref a)) (g : DGet H a y o) : Ev (tDNotIn ty td) σ H (.bl (!o.isSome)) := fun _ q => ha _ (hb _ ⟨a, o, rfl, g, q⟩)
theorem et_of {b c : Bool} (h : EvT tc σ H b) (e : b = c) : EvT tc σ H c := e ▸ h
theorem ev_of {c : V} (h : Ev te σ H v) (e : v = c) : Ev te σ H c := e ▸ h
theorem te_tup {tl : TA} {vs : List V} {Q : VK} (h : EvA tl σ H vs) (hz : vs.length ≤ sizeLine) (q : ∀ p, H p = none → Q (.ref p) (upd H p (.tup vs))) : tTup tl σ H Q := h _ ⟨hz, q⟩
theorem te_lst {tl : TA} {vs : List V} {Q : VK} (h : EvA tl σ H vs) (hz : vs.length ≤ sizeLine) (q : ∀ p, H p = none → Q (.ref p) (upd H p (.lst vs))) : tLst tl σ H Q := h _ ⟨hz, q⟩
theorem rd_tup {tl : TA} {vs : List V} (h : EvA tl σ H vs) (hz : vs.length ≤ sizeLine) (q : ∀ p, H p = none → D.rt (.ref p) (upd H p (.tup vs))) : tRet (tTup tl) D σ H := h _ ⟨hz, q⟩
theorem te_cal {sp : Sp} {tl : TA} {vs : List V} {Q : VK} (h : EvA tl σ H vs) (q : sp vs H Q E0) : tCall sp [] E0 tl σ H Q := h _ (by rw [List.append_nil]; exact q)
theorem rd_forL {tl : TA} {vs : List V} {g : TG} {tb : TS} (h : EvA tl σ H vs) (hz : vs.length ≤ sizeLine) (q : ∀ p, H p = none → tFor (iList K (fun _ H' Q => Q (.ref p) H')) g tb D σ (upd H p (.lst vs))) : tFor (iList K (tLst tl)) g tb D σ H := h _ ⟨hz, q⟩
theorem ev_getT {kvs : List (List Key × V)} {tz : TE} {z : V} (h1 : Ev td σ H (.ref d)) (h2 : Ev ty σ H y) (h3 : Ev tz σ H z) (hd : H d = some (.dT kvs)) (g : DGet H d y o) : Ev (tBM K "dict" rGetT td (tCons ty (tCons tz tNil))) σ H (o.getD z) :=
  fun _ q => h1 _ ⟨.inr (.inr (.inl ⟨rfl, .inr ⟨_, hd⟩⟩)), h2 _ (h3 _ ⟨_, _, _, _, rfl, rfl, g, q⟩)⟩
end
theorem tups_app {H : Hp} : ∀ {as bs : List Addr} {cs ds : List T3}, Tups H as cs → Tups H bs ds → Tups H (as ++ bs) (cs ++ ds)
  | _, _, _, _, .nil, t => t
  | _, _, _, _, .cons h s, t => .cons h (tups_app s t)
theorem tups_drop {H : Hp} : ∀ {as : List Addr} {cs : List T3}, Tups H as cs → ∀ m, Tups H (as.drop m) (cs.drop m)
  | _, _, .nil, m => by rw [List.drop_nil, List.drop_nil]; exact .nil
  | _, _, .cons h s, 0 => .cons h s
  | _, _, .cons h s, m + 1 => tups_drop s m
theorem tups_take {H : Hp} : ∀ {as : List Addr} {cs : List T3}, Tups H as cs → ∀ m, Tups H (as.take m) (cs.take m)
  | _, _, .nil, m => by rw [List.take_nil, List.take_nil]; exact .nil
  | _, _, .cons h s, 0 => .nil
  | _, _, .cons h s, m + 1 => .cons h (tups_take s m)
theorem te_nest {sp sp2 : Sp} {tl tr : TA} {σ : St} {H : Hp} {Q : VK} (h : tCall sp [] E0 tl σ H (fun v H1 => tr σ H1 fun vs H2 => sp2 ((v :: vs) ++ []) H2 Q E0)) : tCall sp2 [] E0 (tCons (tCall sp [] E0 tl) tr) σ H Q := h
theorem sq_rng1 {ta : TA} {j : Int} {g : TG} {tb u : TS} {D : Ends} {σ : St} {H : Hp} (h : EvA ta σ H [.int j]) (h1 : -(2 ^ 62) ≤ j) (h2 : j < 2 ^ 62) (q : tFor (fun _ H R => R (Itr 0 j.toNat) H) g tb { D with nx := u D } σ H) : tSeq (tFor (iRng1 ta) g tb) u D σ H := h _ ⟨j, rfl, h1, h2, q⟩
theorem sq_rng2 {ta : TA} {i j : Int} {g : TG} {tb u : TS} {D : Ends} {σ : St} {H : Hp} (h : EvA ta σ H [.int i, .int j]) (h1 : -(2 ^ 62) ≤ i ∧ i < 2 ^ 62 ∧ -(2 ^ 62) ≤ j ∧ j < 2 ^ 62) (q : tFor (fun _ H R => R (Itr i (j - i).toNat) H) g tb { D with nx := u D } σ H) : tSeq (tFor (iRng2 ta) g tb) u D σ H := h _ ⟨i, j, rfl, h1, q⟩
theorem ev_notV {ta : TE} {σ : St} {H : Hp} {a : Bool} (ha : Ev ta σ H (.bl a)) : Ev (tNotV ta) σ H (.bl (!a)) := fun _ q => ha _ ⟨a, rfl, q⟩
theorem rd_forC {K : PySem.W.Frag} {sp : Sp} {tl : TA} {vs : List V} {g : TG} {tb : TS} {D : Ends} {σ : St} {H : Hp} (h : EvA tl σ H vs) (q : sp vs H (fun x H1 => ∃ a, x = .ref a ∧ (∃ xs, SqL K H1 a xs) ∧ tFor (fun _ H R => R (Itl K a) H) g tb D σ H1) E0) : tFor (iList K (tCall sp [] E0 tl)) g tb D σ H := h _ (by rw [List.append_nil]; exact q)
theorem ev_cal {sp : Sp} {tl : TA} {vs : List V} {v : V} {σ : St} {H : Hp} (h : EvA tl σ H vs) (q : ∀ Q : VK, Q v H → sp vs H Q E0) : Ev (tCall sp [] E0 tl) σ H v := fun Q z => h _ (by rw [List.append_nil]; exact q Q z)
theorem te_op {r : R2} {ta tb : TE} {σ : St} {H : Hp} {Q : VK} (h : ta σ H fun x H1 => tb σ H1 fun y H2 => r x y H2 Q) : tOp r ta tb σ H Q := h
theorem rd_asg0 {te : TE} {n : Nat} {D : Ends} {σ : St} {H : Hp} (q : te σ H fun v H1 => D.nx (σ.set n (some v)) H1) : tAsg te (gName n) D σ H := q
def Sb (l : Addr) (H H' : Hp) : Prop := ∀ b o, b ≠ l → H b = some o → H' b = some o
theorem Sb.refl (l : Addr) (H : Hp) : Sb l H H := fun _ _ _ h => h
theorem Sb.trans {l : Addr} {H H1 H2 : Hp} (a : Sb l H H1) (b : Sb l H1 H2) : Sb l H H2 := fun c o n h => b c o n (a c o n h)
theorem Sb.of {l : Addr} {H H' : Hp} (s : Same H H') : Sb l H H' := fun b o _ h => s b o h
theorem Sb.set {l : Addr} {H H' : Hp} {y : HO} (s : Sb l H H') : Sb l H (upd H' l y) := fun b o n h => by rw [upd_ne n]; exact s b o n h
theorem int_at {xs : List Int} {i : Nat} {x : V} (h : (xs.map V.int)[i]? = some x) : ∃ j, x = .int j ∧ xs[i]? = some j := by
  rw [List.getElem?_map] at h
  cases e : xs[i]? with
  | none => rw [e] at h; cases h
  | some j => rw [e] at h; exact ⟨j, (Option.some.inj h).symm, rfl⟩
theorem take_one {α : Type} {xs : List α} {i : Nat} {x : α} (h : xs[i]? = some x) : xs.take (i + 1) = xs.take i ++ [x] := by rw [List.take_succ, h]; rfl
theorem pr_app {α β : Type} {F : α → β → Prop} : ∀ {as bs : List α} {cs ds : List β}, Paired F as cs → Paired F bs ds → Paired F (as ++ bs) (cs ++ ds)
  | _, _, _, _, .nil, t => t
  | _, _, _, _, .cons h s, t => .cons h (pr_app s t)
theorem rd_ifof {tc : TT} {t u : TS} {D : Ends} {σ : St} {H : Hp} (q : tc σ H fun b H1 => if b = true then t D σ H1 else u D σ H1) : tIfS tc t u D σ H := q
theorem cut_int (ns : List Int) (lo hi : Option Int) : ∃ cs : List Int, cutV (ns.map V.int) lo hi = cs.map V.int ∧ cs.length ≤ ns.length := by
  have h := cutV_length (ns.map V.int) lo hi
  unfold cutV at h ⊢
  rw [← List.map_drop, ← List.map_take] at h ⊢
  exact ⟨_, rfl, by simp only [List.length_map] at h ⊢; exact h⟩
theorem if_T {t : TT} {ta tb : TE} {σ : St} {H : Hp} {Q : VK} (h : EvT t σ H true) (q : ta σ H Q) : tIf t ta tb σ H Q := h _ (iteT q)
theorem if_F {t : TT} {ta tb : TE} {σ : St} {H : Hp} {Q : VK} (h : EvT t σ H false) (q : tb σ H Q) : tIf t ta tb σ H Q := h _ (iteF q)
theorem same_thaw {H : Hp} {d : Addr} {o : Obj} {u : HO} (e : H d = some u) : Same H (upd (upd H d (.frz o u)) d u) := fun b v z => by
  by_cases hb : b = d
  · subst hb; rw [upd_same, ← e, z]
  · rw [upd_ne hb, upd_ne hb]; exact z
theorem et_notF {tc : TT} {σ : St} {H : Hp} (h : EvT tc σ H true) : EvT (tNot tc) σ H false := fun _ q => h _ q
theorem ev_fldT {ta : TE} {K : PySem.W.Frag} {σ : St} {H : Hp} {p C dx : Addr} {fs : List (Str × V)} {f : Str} {v : V} (h : Ev ta σ H (.ref p)) (e : H p = some (.ins C dx fs)) (c : Cls K C) (n : NoAttr K C f) (l : fs.lookup f = some v) : Ev (tFld K ta f) σ H v := fun _ q => h _ ⟨p, C, dx, fs, v, rfl, e, c, n, l, q⟩
theorem same_make {H : Hp} {p dx C : Addr} (np : H p = none) (ndx : H dx = none) : Same H (upd (upd H dx (.own p)) p (.ins C dx [])) := fun b o e => by
  rw [upd_ne (ne_of_none e np), upd_ne (ne_of_none e ndx)]; exact e
theorem at_ref {as : List Addr} {i : Nat} {x : V} (h : (as.map V.ref)[i]? = some x) : ∃ a, as[i]? = some a ∧ x = .ref a := by
  rw [List.getElem?_map] at h
  obtain ⟨a, e, z⟩ := Option.map_eq_some_iff.mp h
  exact ⟨a, e, z.symm⟩
theorem prs_app {H : Hp} {as bs : List Addr} {cs ds : List (List Key × V)} (h : Prs H as cs) (g : Prs H bs ds) : Prs H (as ++ bs) (cs ++ ds) := by
  induction h with
  | nil => exact g
  | cons r _ ih => exact .cons r ih
theorem Prs.mono {H H' : Hp} {as : List Addr} {cs : List (List Key × V)} (h : Prs H as cs) (s : ∀ b xs, H b = some (.tup xs) → H' b = some (.tup xs)) : Prs H' as cs := Paired.mapP h fun a c ⟨b, e1, e2⟩ => ⟨b, s _ _ e1, s _ _ e2⟩
def ButP (H H' : Hp) (p : Addr) : Prop := ∀ b o, b ≠ p → H b = some o → H' b = some o
theorem ButP.same {H H1 H2 : Hp} {p : Addr} (s : Same H H1) (n : H p = none) (b : ButP H1 H2 p) : Same H H2 := fun a o e => b a o (ne_of_none e n) (s a o e)
theorem ButP.st {H H1 H2 : Hp} {p : Addr} (b : ButP H H1 p) (s : Same H1 H2) : ButP H H2 p := fun a o n e => s _ _ (b a o n e)
theorem ButP.up {H H1 : Hp} {p : Addr} {o : HO} (b : ButP H H1 p) : ButP H (upd H1 p o) p := fun a u n e => by rw [upd_ne n]; exact b a u n e
theorem ButP.of {H H1 : Hp} {p : Addr} (s : Same H H1) : ButP H H1 p := fun a o _ e => s _ _ e
theorem tups_at {H : Hp} {as : List Addr} {cs : List T3} (h : Tups H as cs) : ∀ {i : Nat} {a : Addr}, as[i]? = some a → ∃ c, cs[i]? = some c ∧ H a = some (.tup (c.map V.int)) := by
  induction h with
  | nil => intro i a e; simp at e
  | cons r _ ih =>
    intro i a e
    cases i with
    | zero => simp at e; subst e; exact ⟨_, by simp, r⟩
    | succ i => simp at e; obtain ⟨p, h1, h2⟩ := ih e; exact ⟨p, by simpa using h1, h2⟩
theorem lg3 {x y w : Int} (h1 : -10000000000000 ≤ x ∧ x ≤ 10000000000000) (h2 : -10000000000000 ≤ y ∧ y ≤ 10000000000000) (h3 : -10000000000000 ≤ w ∧ w ≤ 10000000000000) : ∀ i ∈ [x, y, w], i.natAbs.log2 < 1920 := fun i hi => by
  simp only [List.mem_cons, List.not_mem_nil, or_false] at hi
  rcases hi with rfl | rfl | rfl <;> exact lg (by omega) (by omega)
theorem prod_le {x y w a b c : Int} (x0 : 0 ≤ x) (x1 : x ≤ a) (y0 : 0 ≤ y) (y1 : y ≤ b) (w0 : 0 ≤ w) (w1 : w ≤ c) (h : a * b * c ≤ 128) : x * y * w ≤ 128 :=
  Int.le_trans (Int.mul_le_mul (Int.mul_le_mul x1 y1 y0 (by omega)) w1 w0 (Int.mul_nonneg (by omega) (by omega))) h
theorem rd_te {te : TE} {D : Ends} {σ : St} {H : Hp} (h : te σ H D.rt) : tRet te D σ H := h
theorem fresh_of {H H' : Hp} {t : Addr} (s : Same H H') (n : H' t = none) : H t = none := by
  cases e : H t with
  | none => rfl
  | some o => rw [s _ _ e] at n; cases n
section
variable {K : PySem.W.Frag} {σ σ0 : St} {H H1 : Hp} {D a : Addr} {g : TG} {tt : TT} {te t0 : TE} {ta : TA} {n : Nat} {ix : List Nat} {as : List Addr} {cs : List T3}
theorem te_lc1 {Q : VK} {j : Int} (h : EvA ta σ H [.int j]) (h1 : -(2 ^ 62) ≤ j) (h2 : j < 2 ^ 62) (q : ∀ D, H D = none → lcW (inSt n ix σ) g tt te (Itr 0 j.toNat) H D fun H' => Q (.ref D) H') : tLc (iRng1 ta) n ix g tt te σ H Q := h _ ⟨j, rfl, h1, h2, q⟩
theorem keep_lst {H' : Hp} {zs : List V} {t : Addr} {o : HO} {y : List V} (hD : H' D = some (.lst zs)) (nt : H' t = none) : ∀ b xs, H' b = some (.tup xs) → upd (upd H' t o) D (.lst y) b = some (.tup xs) := fun b xs e => by
  rw [upd_ne (ne_of e hD (fun z => nomatch z)), upd_ne (ne_of_none e nt)]; exact e
theorem keep_lst0 {H' : Hp} {zs : List V} {y : List V} (hD : H' D = some (.lst zs)) : ∀ b xs, H' b = some (.tup xs) → upd H' D (.lst y) b = some (.tup xs) := fun b xs e => by
  rw [upd_ne (ne_of e hD (fun z => nomatch z))]; exact e
theorem tups_mono {H H' : Hp} {as : List Addr} {cs : List T3} (h : Tups H as cs) (s : ∀ b xs, H b = some (.tup xs) → H' b = some (.tup xs)) : Tups H' as cs := Paired.mapP h fun a c e => s _ _ e
def PrC (H : Hp) (q : Addr) (x : T3 × Int) : Prop := ∃ b, H q = some (.tup [.ref b, .int x.2]) ∧ H b = some (.tup (x.1.map V.int))
theorem prc_mono {H H' : Hp} {qs : List Addr} {xs : List (T3 × Int)} (h : Paired (PrC H) qs xs) (s : ∀ b ys, H b = some (.tup ys) → H' b = some (.tup ys)) : Paired (PrC H') qs xs := Paired.mapP h fun _ _ ⟨b, e1, e2⟩ => ⟨b, s _ _ e1, s _ _ e2⟩
theorem lc_pickP {tv : TE} {Q : Hp → Prop} (f : T3 → Bool) (v : T3 → Int) (rest : List (Option V)) (nD : H1 D = none) (hm : ∀ H', Same H1 H' → SqL K H' a (as.map V.ref)) (ht : Tups H1 as cs) (hz : as.length ≤ 1000)
    (hc : ∀ b c H', c ∈ cs → H1 b = some (.tup (c.map V.int)) → Same H1 H' → EvT tt (some (.ref b) :: rest) H' (f c) ∧ (f c = true → Ev tv (some (.ref b) :: rest) H' (.int (v c))))
    (q : ∀ H' bs, Same H1 H' → H' D = some (.lst (bs.map V.ref)) → Paired (PrC H') bs ((cs.filter f).map fun c => (c, v c)) → Q H') : lcW (none :: rest) (gName 0) tt (tTup (tCons (tVar 0) (tCons tv tNil))) (Itl K a) H1 D Q := by
  have len : as.length = cs.length := Paired.length ht
  have hsz : sizeLine = 2 ^ 24 := rfl
  refine lc_listG (K := K) (xs := as.map V.ref) (fun i τ H' => ∃ (x0 : Option V) (bs : List Addr), τ = x0 :: rest ∧ Same H1 H' ∧ H' D = some (.lst (bs.map V.ref)) ∧ Paired (PrC H') bs (((cs.take i).filter f).map fun c => (c, v c)) ∧ bs.length ≤ i) ⟨none, [], rfl, (Same.refl H1).upd nD, upd_same, .nil, Nat.le_refl _⟩ (fun i τ H' _ ⟨_, _, _, s, _⟩ => hm _ s) ?_ ?_
  · rintro i x τ H' hx ⟨x0, bs, rfl, s, hD, hbs, hl⟩
    obtain ⟨b, hb, rfl⟩ := at_ref hx
    obtain ⟨c, hc', e⟩ := tups_at ht hb
    have hi : i < as.length := (List.getElem?_eq_some_iff.mp hb).1
    obtain ⟨ev, ev2⟩ := hc b c H' (List.mem_of_getElem? hc') e s
    refine gn (ev _ ?_)
    cases hf : f c with
    | true =>
      refine iteT ?_
      refine te_tup (vs := [.ref b, .int (v c)]) (ea_cons (ev_var rfl) (ea_cons (ev2 hf) ea_nil)) (by show 2 ≤ sizeLine; decide) fun t nt => ?_
      have ntD : t ≠ D := Ne.symm (ne_of_none hD nt)
      refine ⟨bs.map V.ref, by rw [upd_ne (Ne.symm ntD)]; exact hD, by rw [List.length_map]; omega, _, bs ++ [t], rfl, same_at (s.upd nt) nD, by rw [upd_same, List.map_append]; rfl, ?_, by rw [List.length_append]; show bs.length + 1 ≤ _; omega⟩
      rw [take_one hc', List.filter_append, List.filter_cons_of_pos hf, List.map_append]
      exact pr_app (prc_mono hbs (keep_lst hD nt)) (.cons ⟨b, by rw [upd_ne ntD, upd_same], keep_lst hD nt _ _ (s _ _ e)⟩ .nil)
    | false =>
      refine iteF ⟨_, bs, rfl, s, hD, ?_, by omega⟩
      rw [take_one hc', List.filter_append, List.filter_cons_of_neg (by rw [hf]; decide), List.filter_nil, List.append_nil]
      exact hbs
  · rintro τ H' ⟨x0, bs, rfl, s, hD, hbs, hl⟩
    rw [List.length_map, len, List.take_length] at hbs
    exact q H' bs s hD hbs
theorem sq_lc1 {u : TS} {E : Ends} {i : Nat} {j : Int} (h : EvA ta σ H [.int j]) (h1 : -(2 ^ 62) ≤ j) (h2 : j < 2 ^ 62) (q : ∀ D, H D = none → lcW (inSt n ix σ) g tt te (Itr 0 j.toNat) H D fun H' => u E (σ.set i (some (.ref D))) H') : tSeq (tLcSet (iRng1 ta) n ix g tt te i) u E σ H := h _ ⟨j, rfl, h1, h2, q⟩
end
theorem sq_asgQ {te : TE} {n : Nat} {u : TS} {D : Ends} {σ : St} {H : Hp} (P : V → Hp → Prop) (h : ∀ Q : VK, (∀ v H1, P v H1 → Q v H1) → te σ H Q) (q : ∀ v H1, P v H1 → u D (σ.set n (some v)) H1) : tSeq (tAsg te (gName n)) u D σ H := h _ q
theorem rd_dputG {td ty tv : TE} {D : Ends} {σ : St} {H : Hp} (h : tv σ H fun v H1 => td σ H1 fun x H2 => ty σ H2 fun y H3 => ∃ a H4, x = .ref a ∧ DPut H3 a y v H4 ∧ D.nx σ H4) : sDPut td ty tv D σ H := h
theorem te_two {ta tb : TE} {σ : St} {H : Hp} {Q : VK} (h : ta σ H fun x H1 => tb σ H1 fun y H2 => [x, y].length ≤ sizeLine ∧ ∀ p, H2 p = none → Q (.ref p) (upd H2 p (.tup [x, y]))) : tTup (tCons ta (tCons tb tNil)) σ H Q := h
theorem put_val {κ : Type} [DecidableEq κ] {kvs : List (κ × V)} {k : κ} {v : V} {p : κ × V} (h : p ∈ putK kvs k v) : p ∈ kvs ∨ p = (k, v) := by
  cases e : valV kvs k with
  | none => rw [putK_new _ e] at h; exact (List.mem_append.mp h).imp id List.mem_singleton.mp
  | some w =>
    have : (kvs.any fun kv => decide (kv.1 = k)) = true := by rw [valV_any, e]; rfl
    unfold putK at h
    rw [if_pos this] at h
    obtain ⟨q, hq, rfl⟩ := List.mem_map.mp h
    by_cases z : q.1 = k
    · rw [if_pos z]; right; rw [z]
    · rw [if_neg z]; exact .inl hq
def dtC (x : T3 × Int) : PyData := .tuple [.tuple (x.1.map PyData.int), .int x.2]
theorem eqv_same {K : PySem.W.Frag} {H : Hp} {v : V} {d : PyData} (h : Dp K H v d) : (!PyData.eqv d d) = false := by rw [eqv_refl h.lay]; rfl
theorem ev_neS {ta tb : TE} {σ : St} {H : Hp} {x : V} (ha : Ev ta σ H x) (hb : Ev tb σ H x) (s : scal x x = true) : Ev (tOp rNe ta tb) σ H (.bl false) := fun Q q => ha _ (hb _ ⟨s, by rw [decide_eq_true rfl]; exact q⟩)
theorem ta_tup {tl tr : TA} {vs : List V} {σ : St} {H : Hp} {Q : List V → Hp → Prop} (h : EvA tl σ H vs) (hz : vs.length ≤ sizeLine) (q : ∀ p, H p = none → tr σ (upd H p (.tup vs)) fun xs H2 => Q (.ref p :: xs) H2) : tCons (tTup tl) tr σ H Q := h _ ⟨hz, q⟩
theorem rd_lstA {ta : TA} {D : Ends} {σ : St} {H : Hp} (h : ta σ H fun xs H1 => xs.length ≤ sizeLine ∧ ∀ p, H1 p = none → D.rt (.ref p) (upd H1 p (.lst xs))) : tRet (tLst ta) D σ H := h
theorem mn_if (i j : Int) : (if j < i then j else i) = min i j := by simp only [Int.min_def]; split <;> split <;> omega
theorem pair_at {α β : Type} {F : α → β → Prop} {as : List α} {cs : List β} (h : Paired F as cs) : ∀ {i : Nat} {a : α}, as[i]? = some a → ∃ c, cs[i]? = some c ∧ F a c := by
  induction h with
  | nil => intro i a e; simp at e
  | cons r _ ih =>
    intro i a e
    cases i with
    | zero => simp at e; subst e; exact ⟨_, by simp, r⟩
    | succ i => simp at e; obtain ⟨p, h1, h2⟩ := ih e; exact ⟨p, by simpa using h1, h2⟩
theorem abs_if (i : Int) : (if i < 0 then -i else i) = (i.natAbs : Int) := by split <;> omega
end K05
namespace K05
open PySem L2
def top (i : Nat) : Stmt := PySem.Challenge.pw_wirefloor_k05_steps_and_prices.main.body.getD i (.Pass ⟨0, 0, 0, 0⟩)
abbrev sInside : Stmt := top 8
abbrev sCSizes : Stmt := top 12
abbrev sCPrice : Stmt := top 13
abbrev sCPrices : Stmt := top 14
abbrev sCInside : Stmt := top 15
abbrev sNeigh : Stmt := top 16
abbrev sRound : Stmt := top 17
abbrev sFInit : Stmt := inClass (top 18) 0
abbrev sIsRock : Stmt := inClass (top 18) 5
abbrev sIsOpen : Stmt := inClass (top 18) 7
abbrev sIsStep : Stmt := inClass (top 18) 8
abbrev sPriced : Stmt := inClass (top 18) 9
abbrev sSteps : Stmt := inClass (top 18) 10
abbrev sStepP : Stmt := inClass (top 18) 11
abbrev sWayP : Stmt := inClass (top 18) 12
abbrev sCell : Stmt := top 20
abbrev sWhole : Stmt := top 21
abbrev sIsSpot : Stmt := top 22
abbrev sMix : Stmt := top 23
abbrev sPrice : Stmt := top 24
abbrev sSizes : Stmt := top 25
abbrev sSpot : Stmt := top 26
abbrev sGround : Stmt := top 27
abbrev sLIns : Stmt := top 28
abbrev sLBes : Stmt := top 29
abbrev sLDue : Stmt := top 30
abbrev sLNear : Stmt := top 31
abbrev sLTold : Stmt := top 33
abbrev sLSteps : Stmt := top 32
abbrev sLAsk : Stmt := top 34
abbrev sLPDue : Stmt := top 35
abbrev sLPair : Stmt := top 36
abbrev sLSpots : Stmt := top 37
abbrev sLWDue : Stmt := top 38
abbrev sLWAsk : Stmt := top 39
abbrev sLWalk : Stmt := top 40
abbrev slaw : Stmt := top 41
structure Txt (K : PySem.W.Frag) (mg : Str → Option Value) (cFloor cWireError cNotAStep cOutOfFloor cMS : Addr) : Prop where
  len_ : mg "len" = none
  range_ : mg "range" = none
  isinstance_ : mg "isinstance" = none
  int_ : mg "int" = none
  bool_ : mg "bool" = none
  tuple_ : mg "tuple" = none
  list_ : mg "list" = none
  dict_ : mg "dict" = none
  sorted_ : mg "sorted" = none
  zip_ : mg "zip" = none
  min_ : mg "min" = none
  abs_ : mg "abs" = none
  sum_ : mg "sum" = none
  str_ : mg "str" = none
  ValueError_ : mg "ValueError" = none
  cl_Floor : Cls K cFloor
  mg_Floor : mg "Floor" = some (.ref cFloor)
  na_Floor_sizes : NoAttr K cFloor "sizes"
  na_Floor_prices : NoAttr K cFloor "prices"
  na_Floor_vias : NoAttr K cFloor "vias"
  na_Floor_rocks : NoAttr K cFloor "rocks"
  na_Floor_tolls : NoAttr K cFloor "tolls"
  eWireError : mg "WireError" = some (.ref cWireError)
  eNotAStep : ExcN K mg "NotAStep" cNotAStep
  eOutOfFloor : ExcN K mg "OutOfFloor" cOutOfFloor
  g_MOST_PRICE : ∃ u, mg "MOST_PRICE" = some u ∧ RelV (.int 1000000000000) u
  g_MOST_SIZES : ∃ u, mg "MOST_SIZES" = some u ∧ RelV (.ref cMS) u
  t_MOST_SIZES : ∀ H : Hp, SqT K H cMS [.int 4, .int 16, .int 16]
  ii : PySem.W.kitOne K (.type "int") (.type "int") = some true
  ib : PySem.W.kitOne K (.type "int") (.type "bool") = some false
  tt : PySem.W.kitOne K (.type "tuple") (.type "tuple") = some true
  ll : PySem.W.kitOne K (.type "list") (.type "list") = some true
  is : PySem.W.kitOne K (.type "int") (.type "str") = some false
  ss : PySem.W.kitOne K (.type "str") (.type "str") = some true
  oo : PySem.W.kitOne K (.ref cOutOfFloor) (.ref cOutOfFloor) = some true
  no : PySem.W.kitOne K (.ref cNotAStep) (.ref cOutOfFloor) = some false
  nv : PySem.W.kitOne K (.ref cNotAStep) (.type "ValueError") = some true
  ov : PySem.W.kitOne K (.ref cOutOfFloor) (.type "ValueError") = some true
  xnn : PySem.W.exmOne K (.ref cNotAStep) (.ref cNotAStep) = some true
  xon : PySem.W.exmOne K (.ref cOutOfFloor) (.ref cNotAStep) = some false
  xow : PySem.W.exmOne K (.ref cOutOfFloor) (.ref cWireError) = some true
  xoo : PySem.W.exmOne K (.ref cOutOfFloor) (.ref cOutOfFloor) = some true
def toll (ts : List (Nat × V)) (n : Nat) : Int := match valV ts n with
  | some (.int i) => i
  | _ => 0
structure Gd where
  L : Int
  R : Int
  C : Int
  M : Nat
  ps : List T3
  vs : List Int
  rs : List Nat
  ts : List (Nat × V)
def TV (ts : List (Nat × V)) : Prop := ∀ p ∈ ts, ∃ i : Int, p.2 = .int i ∧ 0 ≤ i ∧ i ≤ 1000000000000
def PP (ps : List T3) : Prop := ∀ c ∈ ps, ∃ a b : Int, c = [a, b] ∧ 1 ≤ a ∧ a ≤ 1000000000000 ∧ 1 ≤ b ∧ b ≤ 1000000000000
structure GdOk (g : Gd) : Prop where
  S : Szs g.L g.R g.C
  M : (g.M : Int) = g.L * g.R * g.C
  m : g.M ≤ 128
  pl : (g.ps.length : Int) = g.L
  pp : PP g.ps
  vl : (g.vs.length : Int) = g.L - 1
  vv : ∀ v ∈ g.vs, 1 ≤ v ∧ v ≤ 1000000000000
  rl : g.rs.length ≤ 63
  rr : ∀ n ∈ g.rs, n < g.M
  tt : Tb g.M g.ts
  tv : TV g.ts
def At3 (H : Hp) (b : Addr) (x y w : Int) : Prop := H b = some (.tup [.int x, .int y, .int w])
def AtL (H : Hp) (l : Addr) (cs : List T3) : Prop := ∃ as : List Addr, H l = some (.lst (as.map V.ref)) ∧ Tups H as cs
theorem tups_same {H H' : Hp} {as : List Addr} {cs : List T3} (h : Tups H as cs) (s : ∀ b xs, H b = some (.tup xs) → H' b = some (.tup xs)) : Tups H' as cs := Paired.mapP h fun a c e => s _ _ e
theorem AtL.same {H H' : Hp} {l : Addr} {cs : List T3} (h : AtL H l cs) (s : Same H H') : AtL H' l cs := by
  obtain ⟨as, h1, h2⟩ := h
  exact ⟨as, s _ _ h1, tups_same h2 fun b xs e => s _ _ e⟩
structure GAt (H : Hp) (z pr vi ro td : Addr) (g : Gd) : Prop where
  z : At3 H z g.L g.R g.C
  pr : AtL H pr g.ps
  vi : H vi = some (.lst (g.vs.map V.int))
  ro : AtL H ro (g.rs.map (sN g.R g.C))
  td : H td = some (.dT (enc g.R g.C g.ts))
theorem GAt.same {H H' : Hp} {z pr vi ro td : Addr} {g : Gd} (h : GAt H z pr vi ro td g) (s : Same H H') : GAt H' z pr vi ro td g := ⟨s _ _ h.z, h.pr.same s, s _ _ h.vi, h.ro.same s, s _ _ h.td⟩
def fF (z pr vi rd td : Addr) : List (Str × V) := [("sizes", .ref z), ("prices", .ref pr), ("vias", .ref vi), ("rocks", .ref rd), ("tolls", .ref td)]
section
variable {z pr vi rd td : Addr}
theorem lk1 : (fF z pr vi rd td).lookup ("sizes" : Str) = some (.ref z) := by kernel_rfl
theorem lk2 : (fF z pr vi rd td).lookup ("prices" : Str) = some (.ref pr) := by kernel_rfl
theorem lk3 : (fF z pr vi rd td).lookup ("vias" : Str) = some (.ref vi) := by kernel_rfl
theorem lk4 : (fF z pr vi rd td).lookup ("rocks" : Str) = some (.ref rd) := by kernel_rfl
theorem lk5 : (fF z pr vi rd td).lookup ("tolls" : Str) = some (.ref td) := by kernel_rfl
theorem ln6 : (fF z pr vi rd td).lookup ("is_rock" : Str) = none := by kernel_rfl
theorem ln8 : (fF z pr vi rd td).lookup ("steps" : Str) = none := by kernel_rfl
theorem ln9 : (fF z pr vi rd td).lookup ("is_open" : Str) = none := by kernel_rfl
theorem ln11 : (fF z pr vi rd td).lookup ("is_step" : Str) = none := by kernel_rfl
theorem ln12 : (fF z pr vi rd td).lookup ("step_price" : Str) = none := by kernel_rfl
theorem ln13 : (fF z pr vi rd td).lookup ("way_price" : Str) = none := by kernel_rfl
theorem ln10 : (fF z pr vi rd td).lookup ("priced" : Str) = none := by kernel_rfl
theorem pf1 {v : V} : putF "sizes" v [] = [(("sizes" : Str), v)] := by kernel_rfl
theorem pf2 {u v : V} : putF "prices" v [("sizes", u)] = [(("sizes" : Str), u), ("prices", v)] := by kernel_rfl
theorem pf3 {u v w : V} : putF "vias" w [("sizes", u), ("prices", v)] = [(("sizes" : Str), u), ("prices", v), ("vias", w)] := by kernel_rfl
theorem pf4 {u v w x : V} : putF "rocks" x [("sizes", u), ("prices", v), ("vias", w)] = [(("sizes" : Str), u), ("prices", v), ("vias", w), ("rocks", x)] := by kernel_rfl
theorem pf5 {u v w x y : V} : putF "tolls" y [("sizes", u), ("prices", v), ("vias", w), ("rocks", x)] = [(("sizes" : Str), u), ("prices", v), ("vias", w), ("rocks", x), ("tolls", y)] := by kernel_rfl
end
structure FA (cF : Addr) (H : Hp) (p pr vi rd td : Addr) (g : Gd) : Prop where
  ex : ∃ dx z, H p = some (.ins cF dx (fF z pr vi rd td)) ∧ At3 H z g.L g.R g.C
  pr : AtL H pr g.ps
  vi : H vi = some (.lst (g.vs.map V.int))
  rd : H rd = some (.dT (enc g.R g.C (rk g.rs)))
  td : H td = some (.dT (enc g.R g.C g.ts))
theorem FA.same {cF : Addr} {H H' : Hp} {p pr vi rd td : Addr} {g : Gd} (h : FA cF H p pr vi rd td g) (s : Same H H') : FA cF H' p pr vi rd td g := by
  obtain ⟨dx, z, h1, h2⟩ := h.ex
  exact ⟨⟨dx, z, s _ _ h1, s _ _ h2⟩, h.pr.same s, s _ _ h.vi, s _ _ h.rd, s _ _ h.td⟩
def tollC (R C : Int) (ts : List (Nat × V)) (c : T3) : Int := match valV (enc R C ts) (iK c) with
  | some (.int i) => i
  | _ => 0
def AtP (H : Hp) (l : Addr) (xs : List (T3 × Int)) : Prop := ∃ qs : List Addr, H l = some (.lst (qs.map V.ref)) ∧ Paired (PrC H) qs xs
def Bd (x y w : Int) : Prop := (-10000000000000 ≤ x ∧ x ≤ 10000000000000) ∧ (-10000000000000 ≤ y ∧ y ≤ 10000000000000) ∧ (-10000000000000 ≤ w ∧ w ≤ 10000000000000)
theorem bd_szs {L R C : Int} (S : Szs L R C) : Bd L R C := by
  have := S.l0; have := S.l1; have := S.r0; have := S.r1; have := S.c0; have := S.c1
  exact ⟨⟨by omega, by omega⟩, ⟨by omega, by omega⟩, ⟨by omega, by omega⟩⟩
def spInside : Sp := fun vs H Q _ => ∃ (a b : Addr) (L R C l r c : Int), vs = [.ref a, .ref b] ∧ At3 H a L R C ∧ At3 H b l r c ∧ Q (.bl (decide (Ins L R C l r c))) H
def spCSizes : Sp := fun vs H Q _ => ∃ (z pr vi : Addr) (L R C : Int) (xs ys : List V), vs = [.ref z, .ref pr, .ref vi] ∧ At3 H z L R C ∧ Szs L R C ∧ H pr = some (.lst xs) ∧ (xs.length : Int) = L ∧ H vi = some (.lst ys) ∧ (ys.length : Int) = L - 1 ∧ ∀ H', Same H H' → Q .non H'
def spCPrice : Sp := fun vs H Q _ => ∃ x m : Int, vs = [.int x, .int m] ∧ m ≤ x ∧ x ≤ 1000000000000 ∧ Q .non H
def spCPrices : Sp := fun vs H Q _ => ∃ (pr vi d : Addr) (ps : List T3) (ws : List Int) (kvs : List (List Key × V)), vs = [.ref pr, .ref vi, .ref d] ∧ AtL H pr ps ∧ PP ps ∧ H vi = some (.lst (ws.map V.int)) ∧ (∀ v ∈ ws, 1 ≤ v ∧ v ≤ 1000000000000) ∧ H d = some (.dT kvs) ∧
  (∀ p ∈ kvs, ∃ i : Int, p.2 = .int i ∧ 0 ≤ i ∧ i ≤ 1000000000000) ∧ ∀ H', Same H H' → Q .non H'
def ArgR (H : Hp) (r : V) (g : Gd) : Prop := (r = .non ∧ g.rs = []) ∨ ∃ ro, r = .ref ro ∧ AtL H ro (g.rs.map (sN g.R g.C))
def ArgT (H : Hp) (t : V) (g : Gd) : Prop := (t = .non ∧ g.ts = []) ∨ ∃ td, t = .ref td ∧ H td = some (.dT (enc g.R g.C g.ts))
def spFInit (cF : Addr) : Sp := fun vs H Q _ => ∃ (p dx z pr vi : Addr) (r t : V) (g : Gd), vs = [.ref p, .ref z, .ref pr, .ref vi, r, t] ∧ H p = some (.ins cF dx []) ∧ GdOk g ∧ At3 H z g.L g.R g.C ∧ AtL H pr g.ps ∧ H vi = some (.lst (g.vs.map V.int)) ∧ ArgR H r g ∧ ArgT H t g ∧
  ∀ (H' : Hp) (pr' vi' rd' td' : Addr), ButP H H' p → H pr' = none → H vi' = none → H rd' = none → H td' = none → FA cF H' p pr' vi' rd' td' g → Q .non H'
def spCInside (cO : Addr) : Sp := fun vs H Q E => ∃ (a b : Addr) (L R C l r c : Int), vs = [.ref a, .ref b] ∧ At3 H a L R C ∧ At3 H b l r c ∧ Bd L R C ∧ Bd l r c ∧ (Ins L R C l r c → Q .non H) ∧ (¬ Ins L R C l r c → E (.ref cO) none H)
def rnd (x y w : Int) : List T3 := [[x - 1, y, w], [x, y - 1, w], [x, y, w - 1], [x, y, w + 1], [x, y + 1, w], [x + 1, y, w]]
def insC (g : Gd) (c : T3) : Bool := decide (Ins g.L g.R g.C (c.getD 0 0) (c.getD 1 0) (c.getD 2 0))
def rkC (g : Gd) (c : T3) : Bool := decide (c ∈ g.rs.map (sN g.R g.C))
theorem val_encC {R C : Int} (ps : List (Nat × V)) (c : T3) : (valV (enc R C ps) (iK c)).isSome = decide (c ∈ (ps.map (·.1)).map (sN R C)) := by
  rw [Bool.eq_iff_iff, val_key, enc_keys, decide_eq_true_eq]
  constructor
  · intro h
    obtain ⟨d, hd, e⟩ := List.mem_map.mp h
    exact (iK_inj (show iK d = iK c from e)) ▸ hd
  · intro h
    exact List.mem_map.mpr ⟨c, h, rfl⟩
theorem rk_keys {n : Nat} {rs : List Nat} : n ∈ (rk rs).map (·.1) ↔ n ∈ rs := by
  rw [← val_key, rk_val, decide_eq_true_eq]
theorem rk_in {L R C : Int} (_ : Szs L R C) (rs : List Nat) (c : T3) : (valV (enc R C (rk rs)) (iK c)).isSome = decide (c ∈ rs.map (sN R C)) := by
  rw [val_encC]
  refine decide_eq_decide.mpr ⟨fun h => ?_, fun h => ?_⟩
  · obtain ⟨n, hn, e⟩ := List.mem_map.mp h
    exact List.mem_map.mpr ⟨n, rk_keys.mp hn, e⟩
  · obtain ⟨n, hn, e⟩ := List.mem_map.mp h
    exact List.mem_map.mpr ⟨n, rk_keys.mpr hn, e⟩
theorem toll_getC {R C : Int} {ts : List (Nat × V)} (h : TV ts) (c : T3) : (valV (enc R C ts) (iK c)).getD (.int 0) = .int (tollC R C ts c) := by
  unfold tollC
  cases e : valV (enc R C ts) (iK c) with
  | none => rfl
  | some v =>
    obtain ⟨p, hp, e2⟩ := List.mem_map.mp (val_mem e)
    obtain ⟨i, e3, _⟩ := h p hp
    have e4 : p.2 = v := congrArg Prod.snd e2
    rw [← e4, e3]; rfl
def opn (g : Gd) (c : T3) : Bool := insC g c && !rkC g c
theorem rnd_pw (x y w : Int) : (rnd x y w).Pairwise (fun c d => HT.lexLt d c = false) := by
  have lt : ∀ {c d : T3}, HT.lexLt c d = true → HT.lexLt d c = false := fun h => lex_asymm _ _ h
  have l3 : ∀ {a b c a' b' c' : Int}, (a < a' ∨ a = a' ∧ (b < b' ∨ b = b' ∧ c < c')) → HT.lexLt [a, b, c] [a', b', c'] = true := fun {a b c a' b' c'} h => by
    rw [HT.lexLt_cons]
    by_cases e : a = a'
    · rw [if_pos e, HT.lexLt_cons]
      by_cases e2 : b = b'
      · rw [if_pos e2, HT.lexLt_cons, if_neg (by omega)]; exact decide_eq_true (by omega)
      · rw [if_neg e2]; exact decide_eq_true (by omega)
    · rw [if_neg e]; exact decide_eq_true (by omega)
  unfold rnd
  simp only [List.pairwise_cons, List.mem_cons, List.not_mem_nil, or_false, forall_eq_or_imp, forall_eq, List.Pairwise.nil, and_true, false_implies, implies_true]
  refine ⟨⟨?_, ?_, ?_, ?_, ?_⟩, ⟨?_, ?_, ?_, ?_⟩, ⟨?_, ?_, ?_⟩, ⟨?_, ?_⟩, ?_⟩ <;> exact lt (l3 (by omega))
def bare (g : Gd) (c d : T3) : Int := if c.getD 0 0 ≠ d.getD 0 0 then g.vs.getD (min (c.getD 0 0) (d.getD 0 0)).toNat 0 else if c.getD 1 0 = d.getD 1 0 then (g.ps.getD (c.getD 0 0).toNat []).getD 0 0 else (g.ps.getD (c.getD 0 0).toNat []).getD 1 0
def price (g : Gd) (c d : T3) : Int := tollC g.R g.C g.ts c + tollC g.R g.C g.ts d + bare g c d
def rndC (c : T3) : List T3 := rnd (c.getD 0 0) (c.getD 1 0) (c.getD 2 0)
def stepsL (g : Gd) (c : T3) : List (T3 × Int) := if rkC g c = true then [] else ((rndC c).filter (opn g)).map fun d => (d, price g c d)
def spRound : Sp := fun vs H Q _ => ∃ (b : Addr) (x y w : Int), vs = [.ref b] ∧ At3 H b x y w ∧ ∀ (H' : Hp) (l : Addr), Same H H' → H l = none → AtL H' l (rnd x y w) → Q (.ref l) H'
def spIsRock (cF : Addr) : Sp := fun vs H Q _ => ∃ (p pr vi rd td b : Addr) (g : Gd) (x y w : Int), vs = [.ref p, .ref b] ∧ FA cF H p pr vi rd td g ∧ GdOk g ∧ At3 H b x y w ∧ Ins g.L g.R g.C x y w ∧ Q (.bl (rkC g [x, y, w])) H
def spIsOpen (cF : Addr) : Sp := fun vs H Q _ => ∃ (p pr vi rd td b : Addr) (g : Gd) (x y w : Int), vs = [.ref p, .ref b] ∧ FA cF H p pr vi rd td g ∧ GdOk g ∧ At3 H b x y w ∧ Q (.bl (opn g [x, y, w])) H
def Beside (x y w x' y' w' : Int) : Prop := [x', y', w'] ∈ rnd x y w
def spPriced (cF : Addr) : Sp := fun vs H Q _ => ∃ (p pr vi rd td a b : Addr) (g : Gd) (x y w x' y' w' : Int), vs = [.ref p, .ref a, .ref b] ∧ FA cF H p pr vi rd td g ∧ GdOk g ∧ At3 H a x y w ∧ At3 H b x' y' w' ∧ Ins g.L g.R g.C x y w ∧ Ins g.L g.R g.C x' y' w' ∧ Beside x y w x' y' w' ∧ Q (.int (price g [x, y, w] [x', y', w'])) H
def spSteps (cF : Addr) : Sp := fun vs H Q _ => ∃ (p pr vi rd td b : Addr) (g : Gd) (x y w : Int), vs = [.ref p, .ref b] ∧ FA cF H p pr vi rd td g ∧ GdOk g ∧ At3 H b x y w ∧ Ins g.L g.R g.C x y w ∧ ∀ (H' : Hp) (l : Addr), Same H H' → H l = none → AtP H' l (stepsL g [x, y, w]) → Q (.ref l) H'
def spCell (K : PySem.W.Frag) : Sp := fun vs H Q _ => ∃ (a : Addr) (ns : List Int) (i : Int), vs = [.ref a, .int i] ∧ SqL K H a (ns.map V.int) ∧ 0 ≤ i ∧ ∀ v : Int, Q (.int v) H
def spWhole : Sp := fun vs H Q _ => ∃ i : Int, vs = [.int i] ∧ Q (.bl true) H
def spMix : Sp := fun vs H Q _ => ∃ c k : Int, vs = [.int c, .int k] ∧ 0 ≤ k ∧ k ≤ 100 ∧ ∀ v : Int, 0 ≤ v → v < 2147483647 → Q (.int v) H
def spPrice : Sp := fun vs H Q _ => ∃ c k : Int, vs = [.int c, .int k] ∧ 0 ≤ k ∧ k ≤ 100 ∧ ∀ (v : Int) (H' : Hp), Same H H' → 1 ≤ v → v ≤ 1000000000000 → Q (.int v) H'
def spSizes : Sp := fun vs H Q _ => ∃ n : Int, vs = [.int n] ∧ ∀ z L R C, H z = none → Szs L R C → L * R * C ≤ 128 → Q (.ref z) (upd H z (.tup [.int L, .int R, .int C]))
def spSpot : Sp := fun vs H Q _ => ∃ (z : Addr) (L R C n : Int), vs = [.ref z, .int n] ∧ At3 H z L R C ∧ Szs L R C ∧ ∀ t, H t = none → Q (.ref t) (upd H t (.tup ((sN R C (n % (L * R * C)).toNat).map V.int)))
def spGround (K : PySem.W.Frag) : Sp := fun vs H Q _ => ∃ (a : Addr) (ns : List Int), vs = [.ref a] ∧ SqL K H a (ns.map V.int) ∧ ns.length ≤ 63 ∧ ∀ (H' : Hp) (t z pr vi ro td : Addr) (g : Gd), Same H H' → H' t = some (.tup [.ref z, .ref pr, .ref vi, .ref ro, .ref td]) → GAt H' z pr vi ro td g → GdOk g → Q (.ref t) H'
theorem len_c {α : Type} {n : Nat} : ∀ {us : List α}, us.length = n + 1 → ∃ a r, us = a :: r ∧ r.length = n
  | [], h => nomatch h
  | a :: r, h => ⟨a, r, rfl, Nat.succ.inj h⟩
theorem len_z {α : Type} {us : List α} (h : us.length = 0) : us = [] := List.eq_nil_of_length_eq_zero h
theorem bl1 {α : Type} {us : List α} (h : us.length = 1) : ∃ a0, us = [a0] := by
  obtain ⟨a0, r0, rfl, h0⟩ := len_c h
  cases len_z h0
  exact ⟨a0, rfl⟩
theorem bd1 {K : PySem.W.Frag} {x qual : Str} {st : Stmt} {f : Addr} {fd : FuncData} {p0 : Str} (F : Fun K x qual st f fd) (h : ∀ (kV doc pm : Value) (an : Option Addr) (cdv ct a0 : Value), bindArgs (PySem.W.fnOf x qual (defArgs st) (defBody st) (defScope st) .none kV doc pm an cdv ct) ⟨[a0], []⟩ = pure ([p0].zip [a0])) : Binds K fd [p0] [] := F.binds fun kV doc pm an cdv ct us hl => by
  obtain ⟨a0, rfl⟩ := bl1 (us := us) hl
  exact h kV doc pm an cdv ct a0
theorem bl2 {α : Type} {us : List α} (h : us.length = 2) : ∃ a0 a1, us = [a0, a1] := by
  obtain ⟨a0, r0, rfl, h0⟩ := len_c h
  obtain ⟨a1, r1, rfl, h1⟩ := len_c h0
  cases len_z h1
  exact ⟨a0, a1, rfl⟩
theorem bd2 {K : PySem.W.Frag} {x qual : Str} {st : Stmt} {f : Addr} {fd : FuncData} {p0 p1 : Str} (F : Fun K x qual st f fd) (h : ∀ (kV doc pm : Value) (an : Option Addr) (cdv ct a0 a1 : Value), bindArgs (PySem.W.fnOf x qual (defArgs st) (defBody st) (defScope st) .none kV doc pm an cdv ct) ⟨[a0, a1], []⟩ = pure ([p0, p1].zip [a0, a1])) : Binds K fd [p0, p1] [] := F.binds fun kV doc pm an cdv ct us hl => by
  obtain ⟨a0, a1, rfl⟩ := bl2 (us := us) hl
  exact h kV doc pm an cdv ct a0 a1
theorem bl3 {α : Type} {us : List α} (h : us.length = 3) : ∃ a0 a1 a2, us = [a0, a1, a2] := by
  obtain ⟨a0, r0, rfl, h0⟩ := len_c h
  obtain ⟨a1, r1, rfl, h1⟩ := len_c h0
  obtain ⟨a2, r2, rfl, h2⟩ := len_c h1
  cases len_z h2
  exact ⟨a0, a1, a2, rfl⟩
theorem bd3 {K : PySem.W.Frag} {x qual : Str} {st : Stmt} {f : Addr} {fd : FuncData} {p0 p1 p2 : Str} (F : Fun K x qual st f fd) (h : ∀ (kV doc pm : Value) (an : Option Addr) (cdv ct a0 a1 a2 : Value), bindArgs (PySem.W.fnOf x qual (defArgs st) (defBody st) (defScope st) .none kV doc pm an cdv ct) ⟨[a0, a1, a2], []⟩ = pure ([p0, p1, p2].zip [a0, a1, a2])) : Binds K fd [p0, p1, p2] [] := F.binds fun kV doc pm an cdv ct us hl => by
  obtain ⟨a0, a1, a2, rfl⟩ := bl3 (us := us) hl
  exact h kV doc pm an cdv ct a0 a1 a2
theorem bl4 {α : Type} {us : List α} (h : us.length = 4) : ∃ a0 a1 a2 a3, us = [a0, a1, a2, a3] := by
  obtain ⟨a0, r0, rfl, h0⟩ := len_c h
  obtain ⟨a1, r1, rfl, h1⟩ := len_c h0
  obtain ⟨a2, r2, rfl, h2⟩ := len_c h1
  obtain ⟨a3, r3, rfl, h3⟩ := len_c h2
  cases len_z h3
  exact ⟨a0, a1, a2, a3, rfl⟩
theorem bd4 {K : PySem.W.Frag} {x qual : Str} {st : Stmt} {f : Addr} {fd : FuncData} {p0 p1 p2 p3 : Str} (F : Fun K x qual st f fd) (h : ∀ (kV doc pm : Value) (an : Option Addr) (cdv ct a0 a1 a2 a3 : Value), bindArgs (PySem.W.fnOf x qual (defArgs st) (defBody st) (defScope st) .none kV doc pm an cdv ct) ⟨[a0, a1, a2, a3], []⟩ = pure ([p0, p1, p2, p3].zip [a0, a1, a2, a3])) : Binds K fd [p0, p1, p2, p3] [] := F.binds fun kV doc pm an cdv ct us hl => by
  obtain ⟨a0, a1, a2, a3, rfl⟩ := bl4 (us := us) hl
  exact h kV doc pm an cdv ct a0 a1 a2 a3
theorem bl5 {α : Type} {us : List α} (h : us.length = 5) : ∃ a0 a1 a2 a3 a4, us = [a0, a1, a2, a3, a4] := by
  obtain ⟨a0, r0, rfl, h0⟩ := len_c h
  obtain ⟨a1, r1, rfl, h1⟩ := len_c h0
  obtain ⟨a2, r2, rfl, h2⟩ := len_c h1
  obtain ⟨a3, r3, rfl, h3⟩ := len_c h2
  obtain ⟨a4, r4, rfl, h4⟩ := len_c h3
  cases len_z h4
  exact ⟨a0, a1, a2, a3, a4, rfl⟩
theorem bl6 {α : Type} {us : List α} (h : us.length = 6) : ∃ a0 a1 a2 a3 a4 a5, us = [a0, a1, a2, a3, a4, a5] := by
  obtain ⟨a0, r0, rfl, h0⟩ := len_c h
  obtain ⟨a1, r1, rfl, h1⟩ := len_c h0
  obtain ⟨a2, r2, rfl, h2⟩ := len_c h1
  obtain ⟨a3, r3, rfl, h3⟩ := len_c h2
  obtain ⟨a4, r4, rfl, h4⟩ := len_c h3
  obtain ⟨a5, r5, rfl, h5⟩ := len_c h4
  cases len_z h5
  exact ⟨a0, a1, a2, a3, a4, a5, rfl⟩
theorem bd_ins {L R C x y w : Int} (S : Szs L R C) (h : Ins L R C x y w) : Bd x y w := by
  have := S.l1; have := S.r1; have := S.c1
  obtain ⟨h1, h2, h3, h4, h5, h6⟩ := h
  exact ⟨⟨by omega, by omega⟩, ⟨by omega, by omega⟩, ⟨by omega, by omega⟩⟩
def bes (c d : T3) : Bool := decide (d ∈ rndC c)
theorem bes_abs (x y w x' y' w' : Int) : bes [x, y, w] [x', y', w'] = decide ((x - x').natAbs + (y - y').natAbs + (w - w').natAbs = 1) := by
  unfold bes rndC rnd
  refine decide_eq_decide.mpr ?_
  simp only [List.getD_cons_zero, List.getD_cons_succ, List.mem_cons, List.cons.injEq, and_true, List.not_mem_nil, or_false]
  omega
theorem bes_comm (x y w x' y' w' : Int) : bes [x, y, w] [x', y', w'] = bes [x', y', w'] [x, y, w] := by
  rw [bes_abs, bes_abs]
  refine decide_eq_decide.mpr ?_
  omega
theorem bare_comm (g : Gd) (x y w x' y' w' : Int) : bare g [x, y, w] [x', y', w'] = bare g [x', y', w'] [x, y, w] := by
  unfold bare
  simp only [List.getD_cons_zero, List.getD_cons_succ]
  by_cases e : x = x'
  · subst e
    simp only [ne_eq, not_true_eq_false, if_false]
    by_cases e2 : y = y'
    · rw [if_pos e2, if_pos e2.symm]
    · rw [if_neg e2, if_neg (Ne.symm e2)]
  · rw [if_pos e, if_pos (Ne.symm e), Int.min_comm]
theorem price_comm (g : Gd) (x y w x' y' w' : Int) : price g [x, y, w] [x', y', w'] = price g [x', y', w'] [x, y, w] := by
  unfold price
  rw [bare_comm]
  omega
inductive Told where
  | num (v : Int)
  | out
  | nost
def tv : Told → V
  | .num v => .int v
  | .out => .str "outside"
  | .nost => .str "nostep"
def pd (g : Gd) (c d : T3) : Told := if (insC g c && insC g d) = true then (if (bes c d && (!rkC g c && !rkC g d)) = true then .num (price g c d) else .nost) else .out
theorem pd_comm (g : Gd) (x y w x' y' w' : Int) : pd g [x, y, w] [x', y', w'] = pd g [x', y', w'] [x, y, w] := by
  unfold pd
  rw [bes_comm, price_comm, Bool.and_comm, Bool.and_comm (!rkC g [x, y, w])]
def wdF (g : Gd) : Int → List T3 → Told
  | a, c :: d :: r => match pd g c d with
    | .num v => wdF g (a + v) (d :: r)
    | .out => .out
    | .nost => .nost
  | a, _ => .num a
def wd (g : Gd) (cs : List T3) : Told := wdF g 0 cs
def P3 (cs : List T3) : Prop := ∀ c ∈ cs, ∃ x y w : Int, c = [x, y, w] ∧ Bd x y w
def Good (g : Gd) (cs : List T3) (k : Nat) (v : Int) : Prop := wdF g v (cs.drop k) = wd g cs
theorem Good.zero {g : Gd} {cs : List T3} : Good g cs 0 0 := rfl
theorem drop_two {cs : List T3} {k : Nat} {c d : T3} (h1 : cs[k]? = some c) (h2 : cs[k + 1]? = some d) : cs.drop k = c :: d :: cs.drop (k + 2) := by
  have a := (List.getElem?_eq_some_iff.mp h1)
  have b := (List.getElem?_eq_some_iff.mp h2)
  rw [List.drop_eq_getElem_cons a.1, List.drop_eq_getElem_cons b.1, a.2, b.2]
theorem drop_one {cs : List T3} {k : Nat} {d : T3} (h2 : cs[k + 1]? = some d) : cs.drop (k + 1) = d :: cs.drop (k + 2) := by
  have b := (List.getElem?_eq_some_iff.mp h2)
  rw [List.drop_eq_getElem_cons b.1, b.2]
theorem Good.step {g : Gd} {cs : List T3} {k : Nat} {a v : Int} {c d : T3} (h : Good g cs k a) (h1 : cs[k]? = some c) (h2 : cs[k + 1]? = some d) (e : pd g c d = .num v) : Good g cs (k + 1) (a + v) := by
  unfold Good at h ⊢
  rw [← h, drop_one h2, drop_two h1 h2]
  show _ = match pd g c d with | .num v => wdF g (a + v) (d :: cs.drop (k + 2)) | .out => .out | .nost => .nost
  rw [e]
theorem Good.stop {g : Gd} {cs : List T3} {k : Nat} {a : Int} {c d : T3} (h : Good g cs k a) (h1 : cs[k]? = some c) (h2 : cs[k + 1]? = some d) (e : ∀ v, pd g c d ≠ .num v) : wd g cs = pd g c d := by
  unfold Good at h
  rw [← h, drop_two h1 h2]
  show (match pd g c d with | .num v => wdF g (a + v) (d :: cs.drop (k + 2)) | .out => .out | .nost => .nost) = _
  cases q : pd g c d with
  | num v => exact absurd q (e v)
  | out => rfl
  | nost => rfl
theorem Good.done {g : Gd} {cs : List T3} {k : Nat} {a : Int} (h : Good g cs k a) (hk : cs.length ≤ k + 1) : wd g cs = .num a := by
  unfold Good at h
  rw [← h]
  have hl : (cs.drop k).length ≤ 1 := by rw [List.length_drop]; omega
  generalize cs.drop k = r at hl
  match r, hl with
  | [], _ => rfl
  | [_], _ => rfl
theorem wdF_snoc {g : Gd} : ∀ {cs : List T3} {a v p : Int} {c d : T3}, wdF g a (cs ++ [c]) = .num v → pd g c d = .num p → wdF g a (cs ++ [c] ++ [d]) = .num (v + p)
  | [], a, v, p, c, d, h, e => by
    have h : (Told.num a) = .num v := h
    injection h with h
    show (match pd g c d with | .num v => wdF g (a + v) [d] | .out => .out | .nost => .nost) = _
    rw [e, h]; rfl
  | [x], a, v, p, c, d, h, e => by
    have h : (match pd g x c with | .num v => wdF g (a + v) [c] | .out => .out | .nost => .nost) = .num v := h
    show (match pd g x c with | .num v => wdF g (a + v) ([] ++ [c] ++ [d]) | .out => .out | .nost => .nost) = _
    cases q : pd g x c with
    | num u => rw [q] at h; exact wdF_snoc (cs := []) h e
    | out => rw [q] at h; cases h
    | nost => rw [q] at h; cases h
  | x :: y :: r, a, v, p, c, d, h, e => by
    have h : (match pd g x y with | .num v => wdF g (a + v) (y :: r ++ [c]) | .out => .out | .nost => .nost) = .num v := h
    show (match pd g x y with | .num v => wdF g (a + v) (y :: r ++ [c] ++ [d]) | .out => .out | .nost => .nost) = _
    cases q : pd g x y with
    | num u => rw [q] at h; exact wdF_snoc (cs := y :: r) h e
    | out => rw [q] at h; cases h
    | nost => rw [q] at h; cases h
def nearL (g : Gd) (c : T3) : List T3 := if rkC g c = true then [] else (rndC c).filter (opn g)
theorem steps_near (g : Gd) (c : T3) : stepsL g c = (nearL g c).map fun d => (d, price g c d) := by
  unfold stepsL nearL
  split <;> rfl
theorem near_pd {g : Gd} {x y w : Int} (hi : insC g [x, y, w] = true) {d : T3} (h : d ∈ nearL g [x, y, w]) : pd g [x, y, w] d = .num (price g [x, y, w] d) ∧ bes [x, y, w] d = true ∧ insC g d = true := by
  unfold nearL at h
  split at h
  · cases h
  · rename_i hr
    obtain ⟨h1, h2⟩ := List.mem_filter.mp h
    unfold opn at h2
    rw [Bool.and_eq_true] at h2
    have hb : bes [x, y, w] d = true := decide_eq_true h1
    refine ⟨?_, hb, h2.1⟩
    unfold pd
    rw [hi, h2.1, hb, h2.2]
    rw [show (!rkC g [x, y, w]) = true by simpa using hr]
    rfl
theorem near_three {g : Gd} {x y w : Int} {d : T3} (h : d ∈ nearL g [x, y, w]) : ∃ x' y' w' : Int, d = [x', y', w'] := by
  unfold nearL at h
  split at h
  · cases h
  · have h1 := (List.mem_filter.mp h).1
    unfold rndC rnd at h1
    simp only [List.mem_cons, List.not_mem_nil, or_false] at h1
    rcases h1 with rfl | rfl | rfl | rfl | rfl | rfl <;> exact ⟨_, _, _, rfl⟩
theorem near_len {g : Gd} {c : T3} : (nearL g c).length ≤ 6 := by
  unfold nearL
  split
  · exact Nat.zero_le _
  · exact Nat.le_trans (List.length_filter_le _ _) (Nat.le_refl 6)
def way2 (x y w : Int) : List T3 := [[x - 1, y, w], [x + 1, y, w], [x, y - 1, w], [x, y + 1, w], [x, y, w - 1], [x, y, w + 1]]
theorem six_perm2 {α : Type} [DecidableEq α] (a b c d e f : α) : [a, b, c, d, e, f].Perm [a, c, e, f, d, b] := List.perm_iff_count.mpr fun x => by
  simp only [List.count_cons, List.count_nil]
  ac_rfl
theorem way2_sorted {x y w : Int} {f : T3 → Bool} {ds : List T3} (p : ds.Perm ((way2 x y w).filter f)) (o : ds.Pairwise (fun c d => HT.lexLt d c = false)) : ds = (rnd x y w).filter f :=
  List.Perm.eq_of_pairwise (le := fun c d => HT.lexLt d c = false) (fun a b _ _ h1 h2 => lex_total a b h2 h1) o ((rnd_pw x y w).filter f) (p.trans ((six_perm2 _ _ _ _ _ _).filter f))
def spNeigh : Sp := fun vs H Q _ => ∃ (a b : Addr) (x y w x' y' w' : Int), vs = [.ref a, .ref b] ∧ At3 H a x y w ∧ At3 H b x' y' w' ∧ Q (.bl (bes [x, y, w] [x', y', w'])) H
def spIsStep (cF : Addr) : Sp := fun vs H Q _ => ∃ (p pr vi rd td a b : Addr) (g : Gd) (x y w x' y' w' : Int), vs = [.ref p, .ref a, .ref b] ∧ FA cF H p pr vi rd td g ∧ GdOk g ∧ At3 H a x y w ∧ At3 H b x' y' w' ∧ Q (.bl (bes [x, y, w] [x', y', w'] && (opn g [x, y, w] && opn g [x', y', w']))) H
def tEnd (cO cN : Addr) (t : Told) (Q : Int → Prop) (E : Value → Prop) : Prop := match t with
  | .num v => Q v
  | .out => E (.ref cO)
  | .nost => E (.ref cN)
def spStepP (cF cO cN : Addr) : Sp := fun vs H Q E => ∃ (p pr vi rd td a b : Addr) (g : Gd) (x y w x' y' w' : Int), vs = [.ref p, .ref a, .ref b] ∧ FA cF H p pr vi rd td g ∧ GdOk g ∧ At3 H a x y w ∧ At3 H b x' y' w' ∧ Bd x y w ∧ Bd x' y' w' ∧ tEnd cO cN (pd g [x, y, w] [x', y', w']) (fun v => Q (.int v) H) (fun C => E C none H)
def spWayP (cF cO cN : Addr) : Sp := fun vs H Q E => ∃ (p pr vi rd td l : Addr) (g : Gd) (cs : List T3), vs = [.ref p, .ref l] ∧ FA cF H p pr vi rd td g ∧ GdOk g ∧ AtL H l cs ∧ P3 cs ∧ cs.length ≤ 100 ∧ ∀ H', Same H H' → tEnd cO cN (wd g cs) (fun v => Q (.int v) H') (fun C => E C none H')
def spIsSpot : Sp := fun vs H Q _ => ∃ (a : Addr) (x y w : Int), vs = [.ref a] ∧ At3 H a x y w ∧ Q (.bl true) H
def spLIns : Sp := fun vs H Q _ => ∃ (z b : Addr) (L R C x y w : Int), vs = [.ref z, .ref b] ∧ At3 H z L R C ∧ At3 H b x y w ∧ Q (.bl (decide (Ins L R C x y w))) H
def spLBes : Sp := fun vs H Q _ => ∃ (a b : Addr) (x y w x' y' w' : Int), vs = [.ref a, .ref b] ∧ At3 H a x y w ∧ At3 H b x' y' w' ∧ ∀ H', Same H H' → Q (.bl (bes [x, y, w] [x', y', w'])) H'
structure GT (H : Hp) (t : Addr) (g : Gd) : Prop where
  ex : ∃ z pr vi ro td, H t = some (.tup [.ref z, .ref pr, .ref vi, .ref ro, .ref td]) ∧ GAt H z pr vi ro td g
  ok : GdOk g
theorem GT.same {H H' : Hp} {t : Addr} {g : Gd} (h : GT H t g) (s : Same H H') : GT H' t g := by
  obtain ⟨z, pr, vi, ro, td, h1, h2⟩ := h.ex
  exact ⟨⟨z, pr, vi, ro, td, s _ _ h1, h2.same s⟩, h.ok⟩
structure FT (cF : Addr) (H : Hp) (p : Addr) (g : Gd) : Prop where
  ex : ∃ pr vi rd td, FA cF H p pr vi rd td g
theorem FT.same {cF : Addr} {H H' : Hp} {p : Addr} {g : Gd} (h : FT cF H p g) (s : Same H H') : FT cF H' p g := by
  obtain ⟨pr, vi, rd, td, h⟩ := h.ex
  exact ⟨pr, vi, rd, td, h.same s⟩
def spLDue : Sp := fun vs H Q _ => ∃ (t a b : Addr) (g : Gd) (x y w x' y' w' : Int), vs = [.ref t, .ref a, .ref b] ∧ GT H t g ∧ At3 H a x y w ∧ At3 H b x' y' w' ∧ Ins g.L g.R g.C x y w ∧ Ins g.L g.R g.C x' y' w' ∧ Beside x y w x' y' w' ∧ Q (.int (price g [x, y, w] [x', y', w'])) H
def spLNear : Sp := fun vs H Q _ => ∃ (t b : Addr) (g : Gd) (x y w : Int), vs = [.ref t, .ref b] ∧ GT H t g ∧ At3 H b x y w ∧ ∀ (H' : Hp) (l : Addr), Same H H' → H l = none → AtL H' l (nearL g [x, y, w]) → Q (.ref l) H'
def spLTold : Sp := fun vs H Q _ => ∃ (t b n l : Addr) (g : Gd) (x y w : Int), vs = [.ref t, .ref b, .ref n, .ref l] ∧ GT H t g ∧ At3 H b x y w ∧ Ins g.L g.R g.C x y w ∧ AtL H n (nearL g [x, y, w]) ∧ AtP H l (stepsL g [x, y, w]) ∧ ∀ H', Same H H' → Q (.bl true) H'
def spLSteps (cF : Addr) : Sp := fun vs H Q _ => ∃ (p t b : Addr) (g : Gd) (x y w : Int), vs = [.ref p, .ref t, .ref b] ∧ FT cF H p g ∧ GT H t g ∧ At3 H b x y w ∧ Ins g.L g.R g.C x y w ∧ ∀ H', Same H H' → Q (.bl true) H'
def spLAsk (cF : Addr) : Sp := fun vs H Q _ => ∃ (p a b : Addr) (g : Gd) (x y w x' y' w' : Int), vs = [.ref p, .ref a, .ref b] ∧ FT cF H p g ∧ GdOk g ∧ At3 H a x y w ∧ At3 H b x' y' w' ∧ Bd x y w ∧ Bd x' y' w' ∧ ∀ H', Same H H' → Q (tv (pd g [x, y, w] [x', y', w'])) H'
def spLPDue : Sp := fun vs H Q _ => ∃ (t a b : Addr) (g : Gd) (x y w x' y' w' : Int), vs = [.ref t, .ref a, .ref b] ∧ GT H t g ∧ At3 H a x y w ∧ At3 H b x' y' w' ∧ ∀ H', Same H H' → Q (tv (pd g [x, y, w] [x', y', w'])) H'
def spLPair (cF : Addr) : Sp := fun vs H Q _ => ∃ (p t a b : Addr) (g : Gd) (x y w x' y' w' : Int), vs = [.ref p, .ref t, .ref a, .ref b] ∧ FT cF H p g ∧ GT H t g ∧ At3 H a x y w ∧ At3 H b x' y' w' ∧ Bd x y w ∧ Bd x' y' w' ∧ ∀ H', Same H H' → Q (.bl true) H'
def spLSpots (cF : Addr) : Sp := fun vs H Q _ => ∃ (p t : Addr) (g : Gd), vs = [.ref p, .ref t] ∧ FT cF H p g ∧ GT H t g ∧ ∀ H', Same H H' → Q (.bl true) H'
def spLWDue : Sp := fun vs H Q _ => ∃ (t l : Addr) (g : Gd) (cs : List T3), vs = [.ref t, .ref l] ∧ GT H t g ∧ AtL H l cs ∧ P3 cs ∧ cs.length ≤ 100 ∧ ∀ H', Same H H' → Q (tv (wd g cs)) H'
def spLWAsk (cF : Addr) : Sp := fun vs H Q _ => ∃ (p l : Addr) (g : Gd) (cs : List T3), vs = [.ref p, .ref l] ∧ FT cF H p g ∧ GdOk g ∧ AtL H l cs ∧ P3 cs ∧ cs.length ≤ 100 ∧ ∀ H', Same H H' → Q (tv (wd g cs)) H'
def spLWalk (K : PySem.W.Frag) (cF : Addr) : Sp := fun vs H Q _ => ∃ (p t a : Addr) (g : Gd) (ns : List Int), vs = [.ref p, .ref t, .ref a] ∧ FT cF H p g ∧ GT H t g ∧ SqL K H a (ns.map V.int) ∧ ns.length ≤ 63 ∧ ∀ H', Same H H' → Q (.bl true) H'
def spLaw (K : PySem.W.Frag) : Sp := fun vs H Q _ => ∃ (a : Addr) (ns : List Int), vs = [.ref a] ∧ SqL K H a (ns.map V.int) ∧ ns.length ≤ 63 ∧ ∀ H', Q (.bl true) H'
section
variable {P : Program} {w : World} {K : PySem.W.Frag} {mg : Str → Option Value} {base : Heap}
set_option maxHeartbeats 1000000
theorem ok_Inside {cFloor cWireError cNotAStep cOutOfFloor cMS : Addr} {f : Addr} {fd : FuncData} (F : Fun K "inside" "inside" sInside f fd) (T : Txt K mg cFloor cWireError cNotAStep cOutOfFloor cMS) : FnOk P w K mg base CX0 1 f fd ["sizes", "spot"] spInside := by
  have sc : FnScope ["sizes", "spot", "layers", "rows", "columns", "layer", "row", "column"] ["sizes", "spot"] (defScope sInside) := ⟨rfl, rfl, rfl, by decide +kernel, rfl, by decide +kernel, by decide +kernel⟩
  refine F.ok sc (fun vs H Q E h => by repeat (first | (obtain ⟨rfl, _⟩ := h; rfl) | (obtain ⟨_, h⟩ := h))) (fun cdv A outer s H vs Q E hr h => ?_)
  obtain ⟨a, b, L, R, C, l, r, c, rfl, ha, hb, q⟩ := h
  refine ⟨_, (pss_cons (ps_asg (pv 0) (pg_tup rfl (pgs_cons (pg_name (i := 2) sc.nd rfl (Or.inl rfl)) (pgs_cons (pg_name (i := 3) sc.nd rfl (Or.inl rfl)) (pgs_cons (pg_name (i := 4) sc.nd rfl (Or.inl rfl)) pgs_nil)))))
  (pss_cons (ps_asg (pv 1) (pg_tup rfl (pgs_cons (pg_name (i := 5) sc.nd rfl (Or.inl rfl)) (pgs_cons (pg_name (i := 6) sc.nd rfl (Or.inl rfl)) (pgs_cons (pg_name (i := 7) sc.nd rfl (Or.inl rfl)) pgs_nil)))))
  (pss_one (ps_ret (pe_and (pe_chain op_le op_lt pe_int (pv 5) (pv 2)) (pe_and (pe_chain op_le op_lt pe_int (pv 6) (pv 3)) (pe_one (pe_chain op_le op_lt pe_int (pv 7) (pv 4))))))))), ?_⟩
  refine sq_un3 (ev_var rfl) (SqT.of ha) ?_
  refine sq_un3 (ev_var rfl) (SqT.of hb) ?_
  exact rd_ret (ev_of (ev_and (ev_chain ev_c (ev_var rfl) (ev_var rfl)) fun _ => ev_and (ev_chain ev_c (ev_var rfl) (ev_var rfl)) fun _ => ev_chain ev_c (ev_var rfl) (ev_var rfl)) (congrArg V.bl ins_b)) q
theorem ok_CSizes {cFloor cWireError cNotAStep cOutOfFloor cMS : Addr} {f : Addr} {fd : FuncData} (F : Fun K "check_sizes" "check_sizes" sCSizes f fd) (hB : K.In base) (T : Txt K mg cFloor cWireError cNotAStep cOutOfFloor cMS) : FnOk P w K mg base CX0 1 f fd ["sizes", "prices", "vias"] spCSizes := by
  have sc : FnScope ["sizes", "prices", "vias", "size", "most"] ["sizes", "prices", "vias"] (defScope sCSizes) := ⟨rfl, rfl, rfl, by decide +kernel, rfl, by decide +kernel, by decide +kernel⟩
  refine F.ok sc (fun vs H Q E h => by repeat (first | (obtain ⟨rfl, _⟩ := h; rfl) | (obtain ⟨_, h⟩ := h))) (fun cdv A outer s H vs Q E hr h => ?_)
  obtain ⟨z, pr, vi, L, R, C, xs, ys, rfl, hz, sz, hp, hpl, hv, hvl, q⟩ := h
  refine ⟨_, (pss_cons (ps_for PassesOwn.never rfl (pi_zipT (by rfl) T.zip_ (pa_cons (pv 0) (pa_cons (pe_const (by rfl) (by exact T.g_MOST_SIZES)) pa_nil))) (pg_tup rfl (pgs_cons (pg_name (i := 3) sc.nd rfl (Or.inl rfl)) (pgs_cons (pg_name (i := 4) sc.nd rfl (Or.inl rfl)) pgs_nil)))
  (pss_one (ps_if (pt_not (pt_chain op_le op_le pe_int (pv 3) (pv 4)))
  (pss_one ps_never)
  pss_nil)))
  (pss_cons (ps_if (pt_cmpR op_ne (pe_callB call_len (by rfl) T.len_ bt_len (pa_cons (pv 1) pa_nil)) (pe_ix ix_tup (pv 0) pe_int (fun _ _ => rfl)) (nomark _))
  (pss_one ps_never)
  pss_nil)
  (pss_one (ps_if (pt_cmpR op_ne (pe_callB call_len (by rfl) T.len_ bt_len (pa_cons (pv 2) pa_nil)) (pe_op op_sub (pe_ix ix_tup (pv 0) pe_int (fun _ _ => rfl)) pe_int) (nomark _))
  (pss_one ps_never)
  pss_nil)))), ?_⟩
  refine ⟨_, rfl, z, cMS, rfl, ⟨_, SqT.of hz⟩, ⟨_, T.t_MOST_SIZES _⟩, ?_⟩
  refine for_zipT (K := K) (xs := [.int L, .int R, .int C]) (ys := [.int 4, .int 16, .int 16]) rfl (fun i σ H' => ∃ x3 x4 : Option V, σ = [some (.ref z), some (.ref pr), some (.ref vi), x3, x4] ∧ Same H H') ⟨none, none, rfl, Same.refl H⟩ (fun i σ H' _ ⟨_, _, _, s⟩ => ⟨SqT.of (s _ _ hz), T.t_MOST_SIZES _⟩) ?_ ?_
  · rintro i x y p σ H2 hx hy np ⟨x3, x4, rfl, s2⟩
    obtain ⟨n, m, rfl, rfl, n1, n2⟩ : ∃ n m : Int, x = .int n ∧ y = .int m ∧ 1 ≤ n ∧ n ≤ m := by
      match i, hx, hy with
      | 0, hx, hy => exact ⟨L, 4, (Option.some.inj hx).symm, (Option.some.inj hy).symm, sz.l0, sz.l1⟩
      | 1, hx, hy => exact ⟨R, 16, (Option.some.inj hx).symm, (Option.some.inj hy).symm, sz.r0, sz.r1⟩
      | 2, hx, hy => exact ⟨C, 16, (Option.some.inj hx).symm, (Option.some.inj hy).symm, sz.c0, sz.c1⟩
    refine ⟨p, _, rfl, SqT.of upd_same, rfl, _, _, rfl, _, _, rfl, rfl, ?_⟩
    exact rd_ifF (et_notF (et_of (et_test (ev_chain ev_c (ev_var rfl) (ev_var rfl))) (by rw [decide_eq_true n1, decide_eq_true n2]; rfl))) rfl ⟨_, _, rfl, s2.upd np⟩
  · rintro σ H2 ⟨x3, x4, rfl, s2⟩
    have hz2 := s2 _ _ hz
    refine st ?_
    refine sq_ifF (et_of (et_test (ev_neI (ev_cb (ea_cons (ev_var rfl) ea_nil) fun Q' q' => ⟨_, _, rfl, .inl ⟨_, SqL.of (s2 _ _ hp), rfl⟩, q'⟩) (ev_ixT (v := .int L) (ev_var rfl) ev_c (SqT.of hz2) rfl))) (by rw [decide_eq_true hpl]; rfl)) rfl ?_
    exact rd_ifF (et_of (et_test (ev_neI (ev_cb (ea_cons (ev_var rfl) ea_nil) fun Q' q' => ⟨_, _, rfl, .inl ⟨_, SqL.of (s2 _ _ hv), rfl⟩, q'⟩) (ev_I0 (ev_ixT (v := .int L) (ev_var rfl) ev_c (SqT.of hz2) rfl) ev_c))) (by rw [decide_eq_true hvl]; rfl)) rfl (q _ s2)
theorem ok_CPrice {cFloor cWireError cNotAStep cOutOfFloor cMS : Addr} {f : Addr} {fd : FuncData} (F : Fun K "check_price" "check_price" sCPrice f fd) (hB : K.In base) (T : Txt K mg cFloor cWireError cNotAStep cOutOfFloor cMS) : FnOk P w K mg base CX0 1 f fd ["price", "least"] spCPrice := by
  have sc : FnScope ["price", "least"] ["price", "least"] (defScope sCPrice) := ⟨rfl, rfl, rfl, by decide +kernel, rfl, by decide +kernel, by decide +kernel⟩
  refine F.ok sc (fun vs H Q E h => by repeat (first | (obtain ⟨rfl, _⟩ := h; rfl) | (obtain ⟨_, h⟩ := h))) (fun cdv A outer s H vs Q E hr h => ?_)
  obtain ⟨x, m, rfl, h1, h2, q⟩ := h
  refine ⟨_, (pss_one (ps_if (pt_not (pt_chain op_le op_le (pv 1) (pv 0) (pe_const (by rfl) (by exact T.g_MOST_PRICE))))
  (pss_one ps_never)
  pss_nil)), ?_⟩
  exact rd_ifF (et_notF (et_of (et_test (ev_chain (ev_var rfl) (ev_var rfl) ev_c)) (by rw [decide_eq_true h1, decide_eq_true h2]; rfl))) rfl q
theorem ok_CPrices {cFloor cWireError cNotAStep cOutOfFloor cMS : Addr} {f : Addr} {fd : FuncData} (F : Fun K "check_prices" "check_prices" sCPrices f fd) (T : Txt K mg cFloor cWireError cNotAStep cOutOfFloor cMS) (gCPrice : Callee P w K mg base "check_price" 1 ["price", "least"] spCPrice) : FnOk P w K mg base CX0 2 f fd ["prices", "vias", "tolls"] spCPrices := by
  have sc : FnScope ["prices", "vias", "tolls", "ahead", "across", "price", "toll"] ["prices", "vias", "tolls"] (defScope sCPrices) := ⟨rfl, rfl, rfl, by decide +kernel, rfl, by decide +kernel, by decide +kernel⟩
  refine F.ok sc (fun vs H Q E h => by repeat (first | (obtain ⟨rfl, _⟩ := h; rfl) | (obtain ⟨_, h⟩ := h))) (fun cdv A outer s H vs Q E hr h => ?_)
  obtain ⟨pr, vi, d, ps, ws, kvs, rfl, ⟨as, hp, ht⟩, hpp, hv, hvv, hd, hdv, q⟩ := h
  refine ⟨_, (pss_cons (ps_for PassesOwn.never rfl (pi_list (pv 0)) (pg_tup rfl (pgs_cons (pg_name (i := 3) sc.nd rfl (Or.inl rfl)) (pgs_cons (pg_name (i := 4) sc.nd rfl (Or.inl rfl)) pgs_nil)))
  (pss_cons (ps_expr (pe_cal gCPrice (hr.mono (by decide)) (by rfl) (pa_cons (pv 3) (pa_cons pe_int pa_nil))))
  (pss_one (ps_expr (pe_cal gCPrice (hr.mono (by decide)) (by rfl) (pa_cons (pv 4) (pa_cons pe_int pa_nil)))))))
  (pss_cons (ps_for PassesOwn.never rfl (pi_list (pv 1)) (pg_name (i := 5) sc.nd rfl (Or.inl rfl))
  (pss_one (ps_expr (pe_cal gCPrice (hr.mono (by decide)) (by rfl) (pa_cons (pv 5) (pa_cons pe_int pa_nil))))))
  (pss_one (ps_frz (ps_for PassesOwn.never rfl (pi_values (pv 2)) (pg_name (i := 6) sc.nd rfl (Or.inl rfl))
  (pss_one (ps_expr (pe_cal gCPrice (hr.mono (by decide)) (by rfl) (pa_cons (pv 6) (pa_cons pe_int pa_nil)))))))))), ?_⟩
  refine ⟨_, rfl, pr, rfl, ⟨_, SqL.of hp⟩, ?_⟩
  refine for_list (K := K) (xs := as.map V.ref) (fun i σ H' => ∃ x3 x4 : Option V, σ = [some (.ref pr), some (.ref vi), some (.ref d), x3, x4, none, none] ∧ Same H H') ⟨none, none, rfl, Same.refl H⟩ (fun i σ H' _ ⟨_, _, _, s⟩ => SqL.of (s _ _ hp)) ?_ ?_
  · rintro i x σ H2 hx ⟨x3, x4, rfl, s2⟩
    obtain ⟨a, ha, rfl⟩ := at_ref hx
    obtain ⟨c, hc, e⟩ := tups_at ht ha
    obtain ⟨u, v, rfl, u1, u2, v1, v2⟩ := hpp c (List.mem_of_getElem? hc)
    refine ⟨a, _, rfl, SqT.of (s2 _ _ e), rfl, _, _, rfl, _, _, rfl, rfl, ?_⟩
    refine ⟨_, rfl, u, 1, rfl, u1, u2, ?_⟩
    exact ⟨_, rfl, v, 1, rfl, v1, v2, _, _, rfl, s2⟩
  · rintro σ H2 ⟨x3, x4, rfl, s2⟩
    refine st ?_
    refine ⟨_, rfl, vi, rfl, ⟨_, SqL.of (s2 _ _ hv)⟩, ?_⟩
    refine for_list (K := K) (xs := ws.map V.int) (fun i σ H' => ∃ x5 : Option V, σ = [some (.ref pr), some (.ref vi), some (.ref d), x3, x4, x5, none] ∧ Same H H') ⟨none, rfl, s2⟩ (fun i σ H' _ ⟨_, _, s⟩ => SqL.of (s _ _ hv)) ?_ ?_
    · rintro i x σ H3 hx ⟨x5, rfl, s3⟩
      obtain ⟨j, rfl, hj⟩ := int_at hx
      obtain ⟨j1, j2⟩ := hvv j (List.mem_of_getElem? hj)
      refine gn ?_
      exact ⟨_, rfl, j, 1, rfl, j1, j2, _, rfl, s3⟩
    · rintro σ H3 ⟨x5, rfl, s3⟩
      have hd3 := s3 _ _ hd
      refine ⟨d, .dT kvs, hd3, trivial, fun o => ?_⟩
      refine ⟨_, rfl, d, o, .dT kvs, rfl, upd_same, trivial, ?_⟩
      refine for_vals (fun i σ H' => ∃ x6 : Option V, σ = [some (.ref pr), some (.ref vi), some (.ref d), x3, x4, x5, x6] ∧ H' = upd H3 d (.frz o (.dT kvs))) ⟨none, rfl, rfl⟩ (fun i σ H' _ ⟨_, _, e⟩ => e ▸ upd_same) ?_ ?_
      · rintro i x v σ H' ⟨k, b, hk, rfl, _⟩ hi ⟨x6, rfl, rfl⟩
        obtain ⟨j, e, j1, j2⟩ := hdv _ (List.mem_of_getElem? hk)
        have e : v = .int j := e
        subst e
        refine gn ?_
        exact ⟨_, rfl, j, 0, rfl, j1, j2, _, rfl, rfl⟩
      · rintro σ H' ⟨x6, rfl, rfl⟩
        exact ⟨upd_same, q _ (s3.trans (same_thaw hd3))⟩
theorem ok_CInside {cFloor cWireError cNotAStep cOutOfFloor cMS : Addr} {f : Addr} {fd : FuncData} (F : Fun K "check_inside" "check_inside" sCInside f fd) (hB : K.In base) (T : Txt K mg cFloor cWireError cNotAStep cOutOfFloor cMS) (gInside : Callee P w K mg base "inside" 1 ["sizes", "spot"] spInside) : FnOk P w K mg base (CX1 P w) 2 f fd ["sizes", "spot"] (spCInside cOutOfFloor) := by
  have sc : FnScope ["sizes", "spot"] ["sizes", "spot"] (defScope sCInside) := ⟨rfl, rfl, rfl, by decide +kernel, rfl, by decide +kernel, by decide +kernel⟩
  refine F.okX sc (fun vs H Q E h => by repeat (first | (obtain ⟨rfl, _⟩ := h; rfl) | (obtain ⟨_, h⟩ := h))) (fun cdv A outer s H vs Q E hr h => ?_)
  obtain ⟨a, b, L, R, C, l, r, c, rfl, ha, hb, ⟨b1, b2, b3⟩, ⟨b4, b5, b6⟩, q, qe⟩ := h
  refine ⟨_, (pss_one (ps_if (pt_not (pt_val (pe_cal gInside (hr.mono (by decide)) (by rfl) (pa_cons (pv 0) (pa_cons (pv 1) pa_nil)))))
  (pss_one (ps_raise (own_of hB T.eOutOfFloor.bd T.eOutOfFloor.ex) PySem.F.excBase_ValueError rfl (by rfl) raises1 (pa_cons (pe_join (FPs.cons (fp_val hr (pv 1)) (FPs.cons (fp_str pe_str) (FPs.cons (fp_val hr (pv 0)) FPs.nil)))) pa_nil)))
  pss_nil)), ?_⟩
  refine if_of ⟨_, rfl, _, rfl, a, b, L, R, C, l, r, c, rfl, ha, hb, _, rfl, ?_⟩
  by_cases hi : Ins L R C l r c
  · rw [decide_eq_true hi]
    exact iteF (q hi)
  · rw [decide_eq_false hi]
    refine iteT ?_
    exact rd_raise (t := tNil) ⟨⟨_, rfl, rfl, .tup b [l, r, c] (SqT.of hb) (Nat.le_refl 3) (lg3 b4 b5 b6)⟩, trivial, ⟨_, rfl, rfl, .tup a [L, R, C] (SqT.of ha) (Nat.le_refl 3) (lg3 b1 b2 b3)⟩, trivial⟩ (qe hi)
theorem ok_Round {cFloor cWireError cNotAStep cOutOfFloor cMS : Addr} {f : Addr} {fd : FuncData} (F : Fun K "spots_round" "spots_round" sRound f fd) (T : Txt K mg cFloor cWireError cNotAStep cOutOfFloor cMS) : FnOk P w K mg base CX0 1 f fd ["spot"] spRound := by
  have sc : FnScope ["spot", "layer", "row", "column"] ["spot"] (defScope sRound) := ⟨rfl, rfl, rfl, by decide +kernel, rfl, by decide +kernel, by decide +kernel⟩
  refine F.ok sc (fun vs H Q E h => by repeat (first | (obtain ⟨rfl, _⟩ := h; rfl) | (obtain ⟨_, h⟩ := h))) (fun cdv A outer s H vs Q E hr h => ?_)
  obtain ⟨b, x, y, w, rfl, hb, q⟩ := h
  refine ⟨_, (pss_cons (ps_asg (pv 0) (pg_tup rfl (pgs_cons (pg_name (i := 1) sc.nd rfl (Or.inl rfl)) (pgs_cons (pg_name (i := 2) sc.nd rfl (Or.inl rfl)) (pgs_cons (pg_name (i := 3) sc.nd rfl (Or.inl rfl)) pgs_nil)))))
  (pss_one (ps_ret (pe_lst (pa_cons (pe_tup (pa_cons (pe_op op_sub (pv 1) pe_int) (pa_cons (pv 2) (pa_cons (pv 3) pa_nil)))) (pa_cons (pe_tup (pa_cons (pv 1) (pa_cons (pe_op op_sub (pv 2) pe_int) (pa_cons (pv 3) pa_nil)))) (pa_cons (pe_tup (pa_cons (pv 1) (pa_cons (pv 2) (pa_cons (pe_op op_sub (pv 3) pe_int) pa_nil)))) (pa_cons (pe_tup (pa_cons (pv 1) (pa_cons (pv 2) (pa_cons (pe_op op_add (pv 3) pe_int) pa_nil)))) (pa_cons (pe_tup (pa_cons (pv 1) (pa_cons (pe_op op_add (pv 2) pe_int) (pa_cons (pv 3) pa_nil)))) (pa_cons (pe_tup (pa_cons (pe_op op_add (pv 1) pe_int) (pa_cons (pv 2) (pa_cons (pv 3) pa_nil)))) pa_nil)))))))))), ?_⟩
  refine sq_un3 (ev_var rfl) (SqT.of hb) ?_
  refine rd_lstA ?_
  have s0 : Same H H := Same.refl H
  refine ta_tup (vs := [.int (x - 1), .int y, .int w]) ?_ (by show 3 ≤ sizeLine; decide) fun p1 n1 => ?_
  · exact ea_cons (ev_I0 (ev_var rfl) ev_c) (ea_cons (ev_var rfl) (ea_cons (ev_var rfl) ea_nil))
  have s1 : Same H (upd H p1 (.tup [.int (x - 1), .int y, .int w])) := (Same.refl H).upd n1
  have e1 : upd H p1 (.tup [.int (x - 1), .int y, .int w]) p1 = some (.tup [.int (x - 1), .int y, .int w]) := upd_same
  revert s1 e1
  generalize upd H p1 (.tup [.int (x - 1), .int y, .int w]) = H1
  intro s1 e1
  refine ta_tup (vs := [.int x, .int (y - 1), .int w]) ?_ (by show 3 ≤ sizeLine; decide) fun p2 n2 => ?_
  · exact ea_cons (ev_var rfl) (ea_cons (ev_I0 (ev_var rfl) ev_c) (ea_cons (ev_var rfl) ea_nil))
  have s2 : Same H1 (upd H1 p2 (.tup [.int x, .int (y - 1), .int w])) := (Same.refl H1).upd n2
  have e2 : upd H1 p2 (.tup [.int x, .int (y - 1), .int w]) p2 = some (.tup [.int x, .int (y - 1), .int w]) := upd_same
  revert s2 e2
  generalize upd H1 p2 (.tup [.int x, .int (y - 1), .int w]) = H2
  intro s2 e2
  refine ta_tup (vs := [.int x, .int y, .int (w - 1)]) ?_ (by show 3 ≤ sizeLine; decide) fun p3 n3 => ?_
  · exact ea_cons (ev_var rfl) (ea_cons (ev_var rfl) (ea_cons (ev_I0 (ev_var rfl) ev_c) ea_nil))
  have s3 : Same H2 (upd H2 p3 (.tup [.int x, .int y, .int (w - 1)])) := (Same.refl H2).upd n3
  have e3 : upd H2 p3 (.tup [.int x, .int y, .int (w - 1)]) p3 = some (.tup [.int x, .int y, .int (w - 1)]) := upd_same
  revert s3 e3
  generalize upd H2 p3 (.tup [.int x, .int y, .int (w - 1)]) = H3
  intro s3 e3
  refine ta_tup (vs := [.int x, .int y, .int (w + 1)]) ?_ (by show 3 ≤ sizeLine; decide) fun p4 n4 => ?_
  · exact ea_cons (ev_var rfl) (ea_cons (ev_var rfl) (ea_cons (ev_I0 (ev_var rfl) ev_c) ea_nil))
  have s4 : Same H3 (upd H3 p4 (.tup [.int x, .int y, .int (w + 1)])) := (Same.refl H3).upd n4
  have e4 : upd H3 p4 (.tup [.int x, .int y, .int (w + 1)]) p4 = some (.tup [.int x, .int y, .int (w + 1)]) := upd_same
  revert s4 e4
  generalize upd H3 p4 (.tup [.int x, .int y, .int (w + 1)]) = H4
  intro s4 e4
  refine ta_tup (vs := [.int x, .int (y + 1), .int w]) ?_ (by show 3 ≤ sizeLine; decide) fun p5 n5 => ?_
  · exact ea_cons (ev_var rfl) (ea_cons (ev_I0 (ev_var rfl) ev_c) (ea_cons (ev_var rfl) ea_nil))
  have s5 : Same H4 (upd H4 p5 (.tup [.int x, .int (y + 1), .int w])) := (Same.refl H4).upd n5
  have e5 : upd H4 p5 (.tup [.int x, .int (y + 1), .int w]) p5 = some (.tup [.int x, .int (y + 1), .int w]) := upd_same
  revert s5 e5
  generalize upd H4 p5 (.tup [.int x, .int (y + 1), .int w]) = H5
  intro s5 e5
  refine ta_tup (vs := [.int (x + 1), .int y, .int w]) ?_ (by show 3 ≤ sizeLine; decide) fun p6 n6 => ?_
  · exact ea_cons (ev_I0 (ev_var rfl) ev_c) (ea_cons (ev_var rfl) (ea_cons (ev_var rfl) ea_nil))
  have s6 : Same H5 (upd H5 p6 (.tup [.int (x + 1), .int y, .int w])) := (Same.refl H5).upd n6
  have e6 : upd H5 p6 (.tup [.int (x + 1), .int y, .int w]) p6 = some (.tup [.int (x + 1), .int y, .int w]) := upd_same
  revert s6 e6
  generalize upd H5 p6 (.tup [.int (x + 1), .int y, .int w]) = H6
  intro s6 e6
  refine ⟨by show 6 ≤ sizeLine; decide, fun l nl => ?_⟩
  have s7 : Same H6 (upd H6 l (.lst [.ref p1, .ref p2, .ref p3, .ref p4, .ref p5, .ref p6])) := (Same.refl H6).upd nl
  have t16 := ((((s2.trans s3).trans s4).trans s5).trans s6).trans s7
  have t26 := (((s3.trans s4).trans s5).trans s6).trans s7
  have t36 := ((s4.trans s5).trans s6).trans s7
  have t46 := (s5.trans s6).trans s7
  have t56 := s6.trans s7
  refine q _ l (s1.trans t16) (fresh_of (((((s1.trans s2).trans s3).trans s4).trans s5).trans s6) nl) ⟨[p1, p2, p3, p4, p5, p6], upd_same, ?_⟩
  exact .cons (t16 _ _ e1) (.cons (t26 _ _ e2) (.cons (t36 _ _ e3) (.cons (t46 _ _ e4) (.cons (t56 _ _ e5) (.cons (s7 _ _ e6) .nil)))))
theorem ok_FInit {cFloor cWireError cNotAStep cOutOfFloor cMS : Addr} {f : Addr} {fd : FuncData} (F : FunD K "__init__" "Floor.__init__" sFInit f fd) (T : Txt K mg cFloor cWireError cNotAStep cOutOfFloor cMS) (gCSizes : Callee P w K mg base "check_sizes" 1 ["sizes", "prices", "vias"] spCSizes) (gCPrices : Callee P w K mg base "check_prices" 2 ["prices", "vias", "tolls"] spCPrices) (gCInside : CalleeX P w K mg base "check_inside" 2 ["sizes", "spot"] (spCInside cOutOfFloor)) : FnOk P w K mg base CX0 3 f fd ["self", "sizes", "prices", "vias", "rocks", "tolls"] (spFInit cFloor) := by
  have sc : FnScope ["self", "sizes", "prices", "vias", "rocks", "tolls", "told_rocks", "told_tolls", "spot"] ["self", "sizes", "prices", "vias", "rocks", "tolls"] (defScope sFInit) := ⟨rfl, rfl, rfl, by decide +kernel, rfl, by decide +kernel, by decide +kernel⟩
  refine F.ok sc (fun vs H Q E h => by repeat (first | (obtain ⟨rfl, _⟩ := h; rfl) | (obtain ⟨_, h⟩ := h))) (fun cdv A outer s H vs Q E hr h => ?_)
  obtain ⟨p, dx, z, pr, vi, r, t, g, rfl, hp, hg, hz, hpr, hvi, hR, hT, q⟩ := h
  refine ⟨_, (pss_cons (ps_set (i := 6) sc.nd rfl (Or.inl rfl) (pe_ifExp (pt_cmpR op_isN (pv 4) pe_non (nomark _)) (pe_lst pa_nil) (pv 4)))
  (pss_cons (ps_set (i := 7) sc.nd rfl (Or.inl rfl) (pe_ifExp (pt_cmpR op_isN (pv 5) pe_non (nomark _)) pe_dnewT (pv 5)))
  (pss_cons (ps_expr (pe_cal gCSizes (hr.mono (by decide)) (by rfl) (pa_cons (pv 1) (pa_cons (pv 2) (pa_cons (pv 3) pa_nil)))))
  (pss_cons (ps_expr (pe_cal gCPrices (hr.mono (by decide)) (by rfl) (pa_cons (pv 2) (pa_cons (pv 3) (pa_cons (pv 7) pa_nil)))))
  (pss_cons (ps_for PassesOwn.never rfl (pi_list (pv 6)) (pg_name (i := 8) sc.nd rfl (Or.inl rfl))
  (pss_one (ps_expr (pe_calX gCInside (hr.mono (by decide)) (by rfl) comesF (pa_cons (pv 1) (pa_cons (pv 8) pa_nil))))))
  (pss_cons (ps_frz (ps_for PassesOwn.never rfl (pi_keys (pv 7)) (pg_name (i := 8) sc.nd rfl (Or.inl rfl))
  (pss_one (ps_expr (pe_calX gCInside (hr.mono (by decide)) (by rfl) comesF (pa_cons (pv 1) (pa_cons (pv 8) pa_nil)))))))
  (pss_cons (ps_fld (pv 0) (pv 1) rfl)
  (pss_cons (ps_fld (pv 0) (pe_lc (ls := ["ahead", "across"]) (ys := []) (ix := []) rfl ⟨rfl, by rfl, by rfl, by rfl, by rfl, rfl⟩ (pi_list (pv 2)) (fun _ _ _ _ _ => (pg_tupK (K := K) (n := 2) rfl rfl (pgs_cons (pg_name (i := 0) (show (["ahead", "across"] : List Str).Nodup by decide +kernel) rfl (Or.inl rfl) (hf := .inr rfl)) (pgs_cons (pg_name (i := 1) (show (["ahead", "across"] : List Str).Nodup by decide +kernel) rfl (Or.inl rfl) (hf := .inr rfl)) pgs_nil)) rfl rfl)) (fun _ _ _ _ _ => pf_nil) (fun _ _ _ _ _ => (pe_tup (pa_cons (pv 0) (pa_cons (pv 1) pa_nil))))) rfl)
  (pss_cons (ps_fld (pv 0) (pe_callTy call_list_of (by rfl) T.list_ bt_list (pa_cons (pv 3) pa_nil)) rfl)
  (pss_cons (ps_fld (pv 0) (pe_callTy (call_dictPairs rfl hr) (by rfl) T.dict_ bt_dict (pa_cons (pe_lc (ls := ["spot"]) (ys := []) (ix := []) rfl ⟨rfl, by rfl, by rfl, by rfl, by rfl, rfl⟩ (pi_list (pv 6)) (fun _ _ _ _ _ => (pg_name (i := 0) (show (["spot"] : List Str).Nodup by decide +kernel) rfl (Or.inl rfl))) (fun _ _ _ _ _ => pf_nil) (fun _ _ _ _ _ => (pe_tup (pa_cons (pv 0) (pa_cons pe_bl pa_nil))))) pa_nil)) rfl)
  (pss_one (ps_fld (pv 0) (pe_callTy call_dict (by rfl) T.dict_ bt_dict (pa_cons (pv 7) pa_nil)) rfl)))))))))))), ?_⟩
  have hsz : sizeLine = 2 ^ 24 := rfl
  have S := hg.S
  have hm := hg.m
  have hrl := hg.rl
  have few := hg.tt.few
  refine sq_asgQ (fun v H1 => ∃ ro, v = .ref ro ∧ Same H H1 ∧ AtL H1 ro (g.rs.map (sN g.R g.C))) (fun Q' hQ => ?_) ?_
  · rcases hR with ⟨rfl, e⟩ | ⟨ro, rfl, h⟩
    · refine if_T (et_of (et_test (ev_isN (ev_var rfl) ev_c)) (by rfl)) ⟨Nat.zero_le _, fun d nd => ?_⟩
      exact hQ _ _ ⟨d, rfl, (Same.refl H).upd nd, [], upd_same, by rw [e]; exact .nil⟩
    · refine if_F (et_of (et_test (ev_isN (ev_var rfl) ev_c)) (by rfl)) ⟨_, rfl, ?_⟩
      exact hQ _ _ ⟨ro, rfl, Same.refl H, h⟩
  rintro v1 H1 ⟨ro, rfl, s1, hro⟩
  refine sq_asgQ (fun v H2 => ∃ td, v = .ref td ∧ Same H1 H2 ∧ H2 td = some (.dT (enc g.R g.C g.ts))) (fun Q' hQ => ?_) ?_
  · rcases hT with ⟨rfl, e⟩ | ⟨td, rfl, h⟩
    · refine if_T (et_of (et_test (ev_isN (ev_var rfl) ev_c)) (by rfl)) fun d nd => ?_
      exact hQ _ _ ⟨d, rfl, (Same.refl H1).upd nd, by rw [e]; exact upd_same⟩
    · refine if_F (et_of (et_test (ev_isN (ev_var rfl) ev_c)) (by rfl)) ⟨_, rfl, ?_⟩
      exact hQ _ _ ⟨td, rfl, Same.refl H1, s1 _ _ h⟩
  rintro v2 H2 ⟨d, rfl, s2', hd2⟩
  have s2 := s1.trans s2'
  obtain ⟨ps, h3, h4⟩ := hpr.same s2
  have hpl : ps.length = g.ps.length := Paired.length h4
  have hl4 := S.l1
  have hpl2 := hg.pl
  refine ⟨_, rfl, _, rfl, _, rfl, z, pr, vi, g.L, g.R, g.C, _, _, rfl, s2 _ _ hz, S, h3, by rw [List.length_map, hpl]; exact hg.pl, s2 _ _ hvi, by rw [List.length_map]; exact hg.vl, fun H3 s3' => ?_⟩
  have s3 := s2.trans s3'
  refine ⟨_, rfl, _, rfl, _, rfl, pr, vi, d, g.ps, g.vs, _, rfl, hpr.same s3, hg.pp, s3 _ _ hvi, hg.vv, s3' _ _ hd2, ?_, fun H4 s4' => ?_⟩
  · intro x hx
    obtain ⟨y, hy, rfl⟩ := List.mem_map.mp hx
    exact hg.tv y hy
  have s4 := s3.trans s4'
  have hd4 := s4' _ _ (s3' _ _ hd2)
  obtain ⟨as, hro4, hrt⟩ := ((hro.same s2').same s3').same s4'
  have has : as.length = g.rs.length := by rw [Paired.length hrt, List.length_map]
  have bd : ∀ n, n < g.M → ∃ x y w : Int, sN g.R g.C n = [x, y, w] ∧ Ins g.L g.R g.C x y w ∧ Bd x y w := fun n hn => by
    have i := sN_ins S (n := n) (by have := hg.M; omega)
    refine ⟨_, _, _, rfl, i, ?_⟩
    obtain ⟨a1, a2, a3, a4, a5, a6⟩ := i
    have := S.r1; have := S.c1
    exact ⟨⟨by omega, by omega⟩, ⟨by omega, by omega⟩, ⟨by omega, by omega⟩⟩
  refine ⟨_, rfl, ro, rfl, ⟨_, SqL.of hro4⟩, ?_⟩
  refine for_list (K := K) (xs := as.map V.ref) (fun i σ H' => ∃ x8 : Option V, σ = [some (.ref p), some (.ref z), some (.ref pr), some (.ref vi), some r, some t, some (.ref ro), some (.ref d), x8] ∧ H4 = H') ⟨none, rfl, rfl⟩ (fun i σ H' _ ⟨_, _, e⟩ => e ▸ SqL.of hro4) ?_ ?_
  · rintro i x σ H' hx ⟨x8, rfl, rfl⟩
    obtain ⟨a, ha, rfl⟩ := at_ref hx
    obtain ⟨c, hc, hac⟩ := tups_at hrt ha
    obtain ⟨n, hn, rfl⟩ := List.mem_map.mp (List.mem_of_getElem? hc)
    obtain ⟨x, y, w, e, hi, hb⟩ := bd n (hg.rr n hn)
    rw [e] at hac
    refine gn ?_
    exact ⟨_, rfl, _, rfl, z, a, g.L, g.R, g.C, x, y, w, rfl, s4 _ _ hz, hac, bd_szs S, hb, fun _ => ⟨_, rfl, rfl⟩, fun ni => absurd hi ni⟩
  rintro σ H' ⟨x8, rfl, rfl⟩
  refine ⟨d, .dT (enc g.R g.C g.ts), hd4, trivial, fun o => ?_⟩
  refine ⟨_, rfl, d, o, .dT (enc g.R g.C g.ts), rfl, upd_same, trivial, ?_⟩
  have hzd : z ≠ d := ne_of (s4 _ _ hz) hd4 (fun z => nomatch z)
  refine for_keys (fun i σ H' => ∃ x8 : Option V, σ = [some (.ref p), some (.ref z), some (.ref pr), some (.ref vi), some r, some t, some (.ref ro), some (.ref d), x8] ∧ H' = upd H4 d (.frz o (.dT (enc g.R g.C g.ts)))) ⟨x8, rfl, rfl⟩ (fun i σ H' _ ⟨_, _, e⟩ => e ▸ upd_same) ?_ ?_
  · rintro i x v σ H' ⟨k, b, hk, rfl, hb⟩ hi ⟨x8, rfl, rfl⟩
    obtain ⟨y, hy, e⟩ := List.mem_map.mp (List.mem_of_getElem? hk)
    have e : (iK (sN g.R g.C y.1), y.2) = (k, v) := e
    cases e
    obtain ⟨x, y', w, e, hi, hbd⟩ := bd y.1 (hg.tt.lt y hy)
    have hb : upd H4 d (.frz o (.dT (enc g.R g.C g.ts))) b = some (.tup ((sN g.R g.C y.1).map V.int)) := by
      have := hb
      unfold iK at this
      rw [kV_ints] at this
      exact this
    rw [e] at hb
    refine gn ?_
    exact ⟨_, rfl, _, rfl, z, b, g.L, g.R, g.C, x, y', w, rfl, (by show upd H4 d _ z = _; rw [upd_ne hzd]; exact s4 _ _ hz), hb, bd_szs S, hbd, fun _ => ⟨_, rfl, rfl⟩, fun ni => absurd hi ni⟩
  rintro σ H5 ⟨x8, rfl, rfl⟩
  refine ⟨upd_same, ?_⟩
  have s5' : Same H4 (upd (upd H4 d (.frz o (.dT (enc g.R g.C g.ts)))) d (.dT (enc g.R g.C g.ts))) := same_thaw hd4
  revert s5'
  generalize upd (upd H4 d (.frz o (.dT (enc g.R g.C g.ts)))) d (.dT (enc g.R g.C g.ts)) = H5
  intro s5'
  have s5 := s4.trans s5'
  have hd5 := s5' _ _ hd4
  have hp5 := s5 _ _ hp
  have ndp : d ≠ p := ne_of hd5 hp5 (fun z => nomatch z)
  have nzp : z ≠ p := ne_of (s5 _ _ hz) hp5 (fun z => nomatch z)
  have nrp : ro ≠ p := ne_of (s5' _ _ hro4) hp5 (fun z => nomatch z)
  have nvp : vi ≠ p := ne_of (s5 _ _ hvi) hp5 (fun z => nomatch z)
  have npp : pr ≠ p := ne_of (hpr.same s5).choose_spec.1 hp5 (fun z => nomatch z)
  refine ⟨_, rfl, _, rfl, p, cFloor, dx, [], rfl, hp5, T.cl_Floor, T.na_Floor_sizes, (by decide), ?_⟩
  rw [pf1]
  have b6 : ButP H (upd H5 p (.ins cFloor dx [("sizes", .ref z)])) p := (ButP.of s5).up
  have hp6 : upd H5 p (.ins cFloor dx [("sizes", .ref z)]) p = some (.ins cFloor dx [("sizes", .ref z)]) := upd_same
  have hd6 : upd H5 p (.ins cFloor dx [("sizes", .ref z)]) d = some (.dT (enc g.R g.C g.ts)) := by rw [upd_ne ndp]; exact hd5
  have hr6 : AtL (upd H5 p (.ins cFloor dx [("sizes", .ref z)])) ro (g.rs.map (sN g.R g.C)) := ⟨as, by rw [upd_ne nrp]; exact s5' _ _ hro4, tups_mono hrt fun b xs e => by rw [upd_ne (ne_of (s5' _ _ e) hp5 (fun z => nomatch z))]; exact s5' _ _ e⟩
  have hv6 : upd H5 p (.ins cFloor dx [("sizes", .ref z)]) vi = some (.lst (g.vs.map V.int)) := b6 _ _ nvp hvi
  have hpr6 : AtL (upd H5 p (.ins cFloor dx [("sizes", .ref z)])) pr g.ps := by
    obtain ⟨as', e1, e2⟩ := hpr.same s5
    exact ⟨as', by rw [upd_ne npp]; exact e1, tups_mono e2 fun b xs e => by rw [upd_ne (ne_of e hp5 (fun z => nomatch z))]; exact e⟩
  revert b6 hp6 hd6 hr6 hv6 hpr6
  generalize upd H5 p (.ins cFloor dx [("sizes", .ref z)]) = H6
  intro b6 hp6 hd6 hr6 hv6 hpr6
  obtain ⟨ps6, e6, t6⟩ := hpr6
  refine ⟨_, rfl, pr, rfl, ⟨_, SqL.of e6⟩, fun D nD => ?_⟩
  refine lc_listG (K := K) (xs := ps6.map V.ref) (fun i τ H' => ∃ (x0 x1 : Option V) (us : List Addr), τ = [x0, x1] ∧ Same H6 H' ∧ H' D = some (.lst (us.map V.ref)) ∧ Tups H' us (g.ps.take i) ∧ us.length = i) ⟨none, none, [], rfl, (Same.refl H6).upd nD, upd_same, .nil, rfl⟩ (fun i τ H' _ ⟨_, _, _, _, s, _⟩ => SqL.of (s _ _ e6)) ?_ ?_
  · rintro i x τ H' hx ⟨x0, x1, us, rfl, s, hD, hut, hul⟩
    obtain ⟨a, ha, rfl⟩ := at_ref hx
    obtain ⟨c, hc, hac⟩ := tups_at t6 ha
    obtain ⟨u, v, rfl, _⟩ := hg.pp c (List.mem_of_getElem? hc)
    have hi : i < ps6.length := (List.getElem?_eq_some_iff.mp ha).1
    have := Paired.length t6
    refine ⟨a, _, rfl, SqT.of (s _ _ hac), rfl, ?_⟩
    refine ⟨_, _, rfl, gn ?_⟩
    refine ⟨_, _, rfl, gn ?_⟩
    refine ⟨rfl, ?_⟩
    refine lc_el ?_
    refine ⟨_, rfl, _, rfl, (by show 2 ≤ sizeLine; decide), fun t nt => ?_⟩
    have ntD : t ≠ D := Ne.symm (ne_of_none hD nt)
    refine ⟨us.map V.ref, (by rw [upd_ne (Ne.symm ntD)]; exact hD), by rw [List.length_map]; omega, _, _, us ++ [t], rfl, same_at (s.upd nt) nD, by rw [upd_same, List.map_append]; rfl, ?_, by simp [hul]⟩
    rw [take_one hc]
    exact tups_app (tups_mono hut (keep_lst hD nt)) (.cons (by rw [upd_ne ntD, upd_same]; rfl) .nil)
  rintro τ H7 ⟨x0, x1, us, rfl, s7, hD7, ht7, _⟩
  rw [List.length_map, Paired.length t6, List.take_length] at ht7
  have nDp : D ≠ p := Ne.symm (ne_of_none hp6 nD)
  refine ⟨_, rfl, p, cFloor, dx, _, rfl, s7 _ _ hp6, T.cl_Floor, T.na_Floor_prices, (by simp), ?_⟩
  rw [pf2]
  have n6 : ∀ a, H6 a = none → H a = none := fun a n => by
    cases e : H a with
    | none => rfl
    | some o =>
      by_cases ap : a = p
      · subst ap; rw [hp6] at n; cases n
      · rw [b6 a o ap e] at n; cases n
  have b8 : ButP H (upd H7 p (.ins cFloor dx [("sizes", .ref z), ("prices", .ref D)])) p := (b6.st s7).up
  have hp8 : upd H7 p (.ins cFloor dx [("sizes", .ref z), ("prices", .ref D)]) p = some (.ins cFloor dx [("sizes", .ref z), ("prices", .ref D)]) := upd_same
  have kp : ∀ a o, a ≠ p → H7 a = some o → upd H7 p (.ins cFloor dx [("sizes", .ref z), ("prices", .ref D)]) a = some o := fun a o n e => by rw [upd_ne n]; exact e
  have hpr8 : AtL (upd H7 p (.ins cFloor dx [("sizes", .ref z), ("prices", .ref D)])) D g.ps := ⟨us, kp _ _ nDp hD7, tups_mono ht7 fun b xs e => kp _ _ (ne_of e (s7 _ _ hp6) (fun z => nomatch z)) e⟩
  have hr8 : AtL (upd H7 p (.ins cFloor dx [("sizes", .ref z), ("prices", .ref D)])) ro (g.rs.map (sN g.R g.C)) := by
    obtain ⟨as', e1, e2⟩ := hr6.same s7
    exact ⟨as', kp _ _ nrp e1, tups_mono e2 fun b xs e => kp _ _ (ne_of e (s7 _ _ hp6) (fun z => nomatch z)) e⟩
  have hd8 := kp _ _ ndp (s7 _ _ hd6)
  have hv8 := kp _ _ nvp (s7 _ _ hv6)
  have n8 : ∀ a, upd H7 p (.ins cFloor dx [("sizes", .ref z), ("prices", .ref D)]) a = none → H a = none := fun a n => n6 a (by
    cases e : H6 a with
    | none => rfl
    | some o =>
      by_cases ap : a = p
      · subst ap; rw [upd_same] at n; cases n
      · rw [kp _ _ ap (s7 _ _ e)] at n; cases n)
  revert b8 hp8 hpr8 hr8 hd8 hv8 n8
  clear kp
  generalize upd H7 p (.ins cFloor dx [("sizes", .ref z), ("prices", .ref D)]) = H8
  intro b8 hp8 hpr8 hr8 hd8 hv8 n8
  have nD0 : H D = none := n6 D nD
  refine ⟨_, rfl, vi, _, rfl, .inl (SqL.of hv8), fun l nl => ?_⟩
  have nl0 := n8 l nl
  have s9 : Same H8 (upd H8 l (.lst (g.vs.map V.int))) := (Same.refl H8).upd nl
  have hl9 : upd H8 l (.lst (g.vs.map V.int)) l = some (.lst (g.vs.map V.int)) := upd_same
  revert s9 hl9
  generalize upd H8 l (.lst (g.vs.map V.int)) = H9
  intro s9 hl9
  have nlp : l ≠ p := Ne.symm (ne_of_none hp8 nl)
  refine ⟨_, rfl, p, cFloor, dx, _, rfl, s9 _ _ hp8, T.cl_Floor, T.na_Floor_vias, (by simp), ?_⟩
  rw [pf3]
  have kp : ∀ a o, a ≠ p → H9 a = some o → upd H9 p (.ins cFloor dx [("sizes", .ref z), ("prices", .ref D), ("vias", .ref l)]) a = some o := fun a o n e => by rw [upd_ne n]; exact e
  have kt : ∀ b xs, H8 b = some (.tup xs) → upd H9 p (.ins cFloor dx [("sizes", .ref z), ("prices", .ref D), ("vias", .ref l)]) b = some (.tup xs) := fun b xs e => kp _ _ (ne_of e hp8 (fun z => nomatch z)) (s9 _ _ e)
  have bA : ButP H (upd H9 p (.ins cFloor dx [("sizes", .ref z), ("prices", .ref D), ("vias", .ref l)])) p := (b8.st s9).up
  have hpA : upd H9 p (.ins cFloor dx [("sizes", .ref z), ("prices", .ref D), ("vias", .ref l)]) p = some (.ins cFloor dx [("sizes", .ref z), ("prices", .ref D), ("vias", .ref l)]) := upd_same
  have hprA : AtL (upd H9 p (.ins cFloor dx [("sizes", .ref z), ("prices", .ref D), ("vias", .ref l)])) D g.ps := by
    obtain ⟨as', e1, e2⟩ := hpr8
    exact ⟨as', kp _ _ nDp (s9 _ _ e1), tups_mono e2 kt⟩
  have hrA : AtL (upd H9 p (.ins cFloor dx [("sizes", .ref z), ("prices", .ref D), ("vias", .ref l)])) ro (g.rs.map (sN g.R g.C)) := by
    obtain ⟨as', e1, e2⟩ := hr8
    exact ⟨as', kp _ _ nrp (s9 _ _ e1), tups_mono e2 kt⟩
  have hdA := kp _ _ ndp (s9 _ _ hd8)
  have hlA := kp _ _ nlp hl9
  have nA : ∀ a, upd H9 p (.ins cFloor dx [("sizes", .ref z), ("prices", .ref D), ("vias", .ref l)]) a = none → H a = none := fun a n => n8 a (by
    cases e : H8 a with
    | none => rfl
    | some o =>
      by_cases ap : a = p
      · subst ap; rw [upd_same] at n; cases n
      · rw [kp _ _ ap (s9 _ _ e)] at n; cases n)
  revert bA hpA hprA hrA hdA hlA nA
  clear kp kt
  generalize upd H9 p (.ins cFloor dx [("sizes", .ref z), ("prices", .ref D), ("vias", .ref l)]) = HA
  intro bA hpA hprA hrA hdA hlA nA
  obtain ⟨rsA, eA, tA⟩ := hrA
  have lenA : rsA.length = g.rs.length := by rw [Paired.length tA, List.length_map]
  refine ⟨_, rfl, ro, rfl, ⟨_, SqL.of eA⟩, fun D2 nD2 => ?_⟩
  refine lc_listG (K := K) (xs := rsA.map V.ref) (fun i τ H' => ∃ (x0 : Option V) (es : List Addr), τ = [x0] ∧ Same HA H' ∧ H' D2 = some (.lst (es.map V.ref)) ∧ Prs H' es ((g.rs.take i).map fun n => (iK (sN g.R g.C n), V.bl true)) ∧ es.length = i) ⟨none, [], rfl, (Same.refl HA).upd nD2, upd_same, .nil, rfl⟩ (fun i τ H' _ ⟨_, _, _, s, _⟩ => SqL.of (s _ _ eA)) ?_ ?_
  · rintro i x τ H' hx ⟨x0, es, rfl, s, hD, hes, hel⟩
    obtain ⟨a, ha, rfl⟩ := at_ref hx
    obtain ⟨c, hc, hac⟩ := tups_at tA ha
    rw [List.getElem?_map] at hc
    obtain ⟨n, hn, rfl⟩ := Option.map_eq_some_iff.mp hc
    have hi : i < rsA.length := (List.getElem?_eq_some_iff.mp ha).1
    refine gn (lc_el ?_)
    refine ⟨_, rfl, (by show 2 ≤ sizeLine; decide), fun t nt => ?_⟩
    have ntD : t ≠ D2 := Ne.symm (ne_of_none hD nt)
    refine ⟨es.map V.ref, (by rw [upd_ne (Ne.symm ntD)]; exact hD), by rw [List.length_map]; omega, _, es ++ [t], rfl, same_at (s.upd nt) nD2, by rw [upd_same, List.map_append]; rfl, ?_, by simp [hel]⟩
    rw [take_one hn, List.map_append]
    exact prs_app (Prs.mono hes (keep_lst hD nt)) (.cons ⟨a, by rw [upd_ne ntD, upd_same], keep_lst hD nt _ _ (iK_at (s _ _ hac))⟩ .nil)
  rintro τ HB ⟨x0', es, rfl, sB, hDB, hes, hel⟩
  rw [List.length_map, lenA, List.take_length] at hes
  refine ⟨D2, es, g.rs.map fun n => (iK (sN g.R g.C n), V.bl true), rfl, hDB, hes, fun rd nrd => ?_⟩
  rw [rk_enc S]
  have nrd0 : H rd = none := nA rd (fresh_of sB nrd)
  have sC : Same HB (upd HB rd (.dT (enc g.R g.C (rk g.rs)))) := (Same.refl HB).upd nrd
  have hrC : upd HB rd (.dT (enc g.R g.C (rk g.rs))) rd = some (.dT (enc g.R g.C (rk g.rs))) := upd_same
  have nrdp : rd ≠ p := Ne.symm (ne_of_none (sB _ _ hpA) nrd)
  revert sC hrC
  generalize upd HB rd (.dT (enc g.R g.C (rk g.rs))) = HC
  intro sC hrC
  have sAC := sB.trans sC
  refine ⟨_, rfl, p, cFloor, dx, _, rfl, sAC _ _ hpA, T.cl_Floor, T.na_Floor_rocks, (by simp), ?_⟩
  rw [pf4]
  have kp : ∀ a o, a ≠ p → HC a = some o → upd HC p (.ins cFloor dx [("sizes", .ref z), ("prices", .ref D), ("vias", .ref l), ("rocks", .ref rd)]) a = some o := fun a o n e => by rw [upd_ne n]; exact e
  have kt : ∀ b xs, HA b = some (.tup xs) → upd HC p (.ins cFloor dx [("sizes", .ref z), ("prices", .ref D), ("vias", .ref l), ("rocks", .ref rd)]) b = some (.tup xs) := fun b xs e => kp _ _ (ne_of e hpA (fun z => nomatch z)) (sAC _ _ e)
  have bD : ButP H (upd HC p (.ins cFloor dx [("sizes", .ref z), ("prices", .ref D), ("vias", .ref l), ("rocks", .ref rd)])) p := (bA.st sAC).up
  have hpD : upd HC p (.ins cFloor dx [("sizes", .ref z), ("prices", .ref D), ("vias", .ref l), ("rocks", .ref rd)]) p = some (.ins cFloor dx [("sizes", .ref z), ("prices", .ref D), ("vias", .ref l), ("rocks", .ref rd)]) := upd_same
  have hprD : AtL (upd HC p (.ins cFloor dx [("sizes", .ref z), ("prices", .ref D), ("vias", .ref l), ("rocks", .ref rd)])) D g.ps := by
    obtain ⟨as', e1, e2⟩ := hprA
    exact ⟨as', kp _ _ nDp (sAC _ _ e1), tups_mono e2 kt⟩
  have hdD := kp _ _ ndp (sAC _ _ hdA)
  have hlD := kp _ _ nlp (sAC _ _ hlA)
  have hrD := kp _ _ nrdp hrC
  have nDD : ∀ a, upd HC p (.ins cFloor dx [("sizes", .ref z), ("prices", .ref D), ("vias", .ref l), ("rocks", .ref rd)]) a = none → H a = none := fun a n => nA a (by
    cases e : HA a with
    | none => rfl
    | some o =>
      by_cases ap : a = p
      · subst ap; rw [upd_same] at n; cases n
      · rw [kp _ _ ap (sAC _ _ e)] at n; cases n)
  revert bD hpD hprD hdD hlD hrD nDD
  clear kp kt
  generalize upd HC p (.ins cFloor dx [("sizes", .ref z), ("prices", .ref D), ("vias", .ref l), ("rocks", .ref rd)]) = HD
  intro bD hpD hprD hdD hlD hrD nDD
  refine ⟨_, rfl, d, rfl, .inr ⟨_, .inl hdD, hash_tb S hg.M hg.tt, fun t nt => ?_⟩⟩
  have nt0 := nDD t nt
  have sE : Same HD (upd HD t (.dT (enc g.R g.C g.ts))) := (Same.refl HD).upd nt
  have htE : upd HD t (.dT (enc g.R g.C g.ts)) t = some (.dT (enc g.R g.C g.ts)) := upd_same
  have ntp : t ≠ p := Ne.symm (ne_of_none hpD nt)
  revert sE htE
  generalize upd HD t (.dT (enc g.R g.C g.ts)) = HE
  intro sE htE
  refine ⟨_, rfl, p, cFloor, dx, _, rfl, sE _ _ hpD, T.cl_Floor, T.na_Floor_tolls, (by simp), ?_⟩
  rw [pf5]
  refine q _ D l rd t (bD.st sE).up nD0 nl0 nrd0 nt0 ⟨⟨dx, z, upd_same, ?_⟩, ?_, ?_, ?_, ?_⟩
  · show upd HE p _ z = _
    rw [upd_ne nzp]; exact sE _ _ (bD _ _ nzp hz)
  · obtain ⟨as', e1, e2⟩ := hprD
    exact ⟨as', by rw [upd_ne nDp]; exact sE _ _ e1, tups_mono e2 fun b xs e => by rw [upd_ne (ne_of e hpD (fun z => nomatch z))]; exact sE _ _ e⟩
  · rw [upd_ne nlp]; exact sE _ _ hlD
  · rw [upd_ne nrdp]; exact sE _ _ hrD
  · rw [upd_ne ntp]; exact htE
theorem ok_IsRock {cFloor cWireError cNotAStep cOutOfFloor cMS : Addr} {f : Addr} {fd : FuncData} (F : Fun K "is_rock" "Floor.is_rock" sIsRock f fd) (T : Txt K mg cFloor cWireError cNotAStep cOutOfFloor cMS) (gCInside : CalleeX P w K mg base "check_inside" 2 ["sizes", "spot"] (spCInside cOutOfFloor)) : FnOk P w K mg base CX0 3 f fd ["self", "spot"] (spIsRock cFloor) := by
  have sc : FnScope ["self", "spot"] ["self", "spot"] (defScope sIsRock) := ⟨rfl, rfl, rfl, by decide +kernel, rfl, by decide +kernel, by decide +kernel⟩
  refine F.ok sc (fun vs H Q E h => by repeat (first | (obtain ⟨rfl, _⟩ := h; rfl) | (obtain ⟨_, h⟩ := h))) (fun cdv A outer s H vs Q E hr h => ?_)
  obtain ⟨p, pr, vi, rd, td, b, g, x, y, w, rfl, hF, hg, hb, hi, q⟩ := h
  refine ⟨_, (pss_cons (ps_expr (pe_calX gCInside (hr.mono (by decide)) (by rfl) comesF (pa_cons (pe_fld (pv 0) rfl) (pa_cons (pv 1) pa_nil))))
  (pss_one (ps_ret (pe_cmp (pc_din (Room.one hr) (pv 1) (pe_fld (pv 0) rfl)))))), ?_⟩
  obtain ⟨dx, z, h1, h2⟩ := hF.ex
  refine ⟨_, rfl, p, cFloor, dx, _, _, rfl, h1, T.cl_Floor, T.na_Floor_sizes, lk1, _, rfl, z, b, g.L, g.R, g.C, x, y, w, rfl, h2, hb, bd_szs hg.S, bd_ins hg.S hi, fun _ => ?_, fun n => absurd hi n⟩
  refine ⟨_, rfl, _, rfl, p, cFloor, dx, _, _, rfl, h1, T.cl_Floor, T.na_Floor_rocks, lk4, rd, _, rfl, dg (x := [x, y, w]) (.inl hF.rd) hb, ?_⟩
  rw [rk_in hg.S]
  exact q
theorem ok_IsOpen {cFloor cWireError cNotAStep cOutOfFloor cMS : Addr} {f : Addr} {fd : FuncData} (F : Fun K "is_open" "Floor.is_open" sIsOpen f fd) (T : Txt K mg cFloor cWireError cNotAStep cOutOfFloor cMS) (gInside : Callee P w K mg base "inside" 1 ["sizes", "spot"] spInside) : FnOk P w K mg base CX0 2 f fd ["self", "spot"] (spIsOpen cFloor) := by
  have sc : FnScope ["self", "spot"] ["self", "spot"] (defScope sIsOpen) := ⟨rfl, rfl, rfl, by decide +kernel, rfl, by decide +kernel, by decide +kernel⟩
  refine F.ok sc (fun vs H Q E h => by repeat (first | (obtain ⟨rfl, _⟩ := h; rfl) | (obtain ⟨_, h⟩ := h))) (fun cdv A outer s H vs Q E hr h => ?_)
  obtain ⟨p, pr, vi, rd, td, b, g, x, y, w, rfl, hF, hg, hb, q⟩ := h
  refine ⟨_, (pss_one (ps_ret (pe_and (pe_cal gInside (hr.mono (by decide)) (by rfl) (pa_cons (pe_fld (pv 0) rfl) (pa_cons (pv 1) pa_nil))) (pe_one (pe_cmp (pc_dnotin (Room.one hr) (pv 1) (pe_fld (pv 0) rfl))))))), ?_⟩
  obtain ⟨dx, z, h1, h2⟩ := hF.ex
  refine rd_te ⟨_, rfl, p, cFloor, dx, _, _, rfl, h1, T.cl_Floor, T.na_Floor_sizes, lk1, _, rfl, z, b, g.L, g.R, g.C, x, y, w, rfl, h2, hb, _, rfl, ?_⟩
  unfold opn insC at q
  by_cases hi : Ins g.L g.R g.C x y w
  · rw [decide_eq_true hi]
    refine iteT ?_
    have d := dg (x := [x, y, w]) (.inl hF.rd) hb
    refine (ev_dnotin (ev_var rfl) (ev_fldT (ev_var rfl) h1 T.cl_Floor T.na_Floor_rocks lk4) d) _ ?_
    rw [rk_in hg.S]
    rw [show decide (Ins g.L g.R g.C ([x, y, w].getD 0 0) ([x, y, w].getD 1 0) ([x, y, w].getD 2 0)) = true from decide_eq_true hi] at q
    exact q
  · rw [decide_eq_false hi]
    refine iteF ?_
    rw [show decide (Ins g.L g.R g.C ([x, y, w].getD 0 0) ([x, y, w].getD 1 0) ([x, y, w].getD 2 0)) = false from decide_eq_false hi] at q
    exact q
theorem ok_Priced {cFloor cWireError cNotAStep cOutOfFloor cMS : Addr} {f : Addr} {fd : FuncData} (F : Fun K "priced" "Floor.priced" sPriced f fd) (T : Txt K mg cFloor cWireError cNotAStep cOutOfFloor cMS) : FnOk P w K mg base CX0 1 f fd ["self", "one", "two"] (spPriced cFloor) := by
  have sc : FnScope ["self", "one", "two", "tolls", "ahead", "across"] ["self", "one", "two"] (defScope sPriced) := ⟨rfl, rfl, rfl, by decide +kernel, rfl, by decide +kernel, by decide +kernel⟩
  refine F.ok sc (fun vs H Q E h => by repeat (first | (obtain ⟨rfl, _⟩ := h; rfl) | (obtain ⟨_, h⟩ := h))) (fun cdv A outer s H vs Q E hr h => ?_)
  obtain ⟨p, pr, vi, rd, td, a, b, g, x, y, w, x', y', w', rfl, hF, hg, ha, hb, hi, hi', hn, q⟩ := h
  refine ⟨_, (pss_cons (ps_set (i := 3) sc.nd rfl (Or.inl rfl) (pe_op op_add (pe_bm PySem.F.plainAttrs_dict PySem.F.slot_dict_get PySem.F.type_dict_get (mt_getT hr) (pe_fld (pv 0) rfl) (pa_cons (pv 1) (pa_cons pe_int pa_nil))) (pe_bm PySem.F.plainAttrs_dict PySem.F.slot_dict_get PySem.F.type_dict_get (mt_getT hr) (pe_fld (pv 0) rfl) (pa_cons (pv 2) (pa_cons pe_int pa_nil)))))
  (pss_cons (ps_if (pt_cmpR op_ne (pe_ix ix_tup (pv 1) pe_int (fun _ _ => rfl)) (pe_ix ix_tup (pv 2) pe_int (fun _ _ => rfl)) (nomark _))
  (pss_one (ps_ret (pe_op op_add (pe_ix ix_list (pe_fld (pv 0) rfl) (pe_callB (call_min2 rfl) (by rfl) T.min_ bt_min (pa_cons (pe_ix ix_tup (pv 1) pe_int (fun _ _ => rfl)) (pa_cons (pe_ix ix_tup (pv 2) pe_int (fun _ _ => rfl)) pa_nil))) (fun _ _ => rfl)) (pv 3))))
  pss_nil)
  (pss_cons (ps_asg (pe_ix ix_list (pe_fld (pv 0) rfl) (pe_ix ix_tup (pv 1) pe_int (fun _ _ => rfl)) (fun _ _ => rfl)) (pg_tup rfl (pgs_cons (pg_name (i := 4) sc.nd rfl (Or.inl rfl)) (pgs_cons (pg_name (i := 5) sc.nd rfl (Or.inl rfl)) pgs_nil))))
  (pss_one (ps_ret (pe_op op_add (pe_ifExp (pt_cmpR op_eq (pe_ix ix_tup (pv 1) pe_int (fun _ _ => rfl)) (pe_ix ix_tup (pv 2) pe_int (fun _ _ => rfl)) (nomark _)) (pv 4) (pv 5)) (pv 3))))))), ?_⟩
  obtain ⟨dx, z, h1, h2⟩ := hF.ex
  obtain ⟨i1, i2, i3, i4, i5, i6⟩ := hi
  obtain ⟨j1, j2, j3, j4, j5, j6⟩ := hi'
  have d1 := dg (x := [x, y, w]) (.inl hF.td) ha
  have d2 := dg (x := [x', y', w']) (.inl hF.td) hb
  refine sq_set (v := .int (tollC g.R g.C g.ts [x, y, w] + tollC g.R g.C g.ts [x', y', w'])) (ev_I0 (ev_of (ev_getT (ev_fldT (ev_var rfl) h1 T.cl_Floor T.na_Floor_tolls lk5) (ev_var rfl) ev_c hF.td d1) (toll_getC hg.tv _)) (ev_of (ev_getT (ev_fldT (ev_var rfl) h1 T.cl_Floor T.na_Floor_tolls lk5) (ev_var rfl) ev_c hF.td d2) (toll_getC hg.tv _))) ?_
  have gvl := hg.vl
  have gpl := hg.pl
  have adj : x' = x ∨ x' = x - 1 ∨ x' = x + 1 := by
    unfold Beside rnd at hn
    simp only [List.mem_cons, List.cons.injEq, List.not_mem_nil, or_false, and_true] at hn
    omega
  refine sq_if (et_test (ev_neI (ev_ixT (v := .int x) (ev_var rfl) ev_c (SqT.of ha) rfl) (ev_ixT (v := .int x') (ev_var rfl) ev_c (SqT.of hb) rfl))) (fun e => ?_) (fun e => ?_)
  · have e : x ≠ x' := by simpa using e
    have hm : (min x x').toNat < g.vs.length := by omega
    have at_ : atI (g.vs.map V.int) (if x' < x then x' else x) = some (.int (g.vs.getD (min x x').toNat 0)) := by
      rw [mn_if]
      have : min x x' = (((min x x').toNat : Nat) : Int) := by omega
      rw [this]
      refine atI_nat ?_
      rw [Int.toNat_natCast, List.getElem?_map, List.getD_eq_getElem?_getD, List.getElem?_eq_getElem hm]; rfl
    refine rd_ret (ev_of (ev_I0 (ev_ixL (v := .int (g.vs.getD (min x x').toNat 0)) (ev_fldT (ev_var rfl) h1 T.cl_Floor T.na_Floor_vias lk3) (ev_cb (v := .int (if x' < x then x' else x)) (ea_cons (ev_ixT (v := .int x) (ev_var rfl) ev_c (SqT.of ha) rfl) (ea_cons (ev_ixT (v := .int x') (ev_var rfl) ev_c (SqT.of hb) rfl) ea_nil)) fun Q' q' => ⟨_, _, rfl, q'⟩) (SqL.of hF.vi) at_) (ev_var rfl)) (c := .int (price g [x, y, w] [x', y', w'])) ?_) q
    unfold price bare
    rw [if_pos (show [x, y, w].getD 0 0 ≠ [x', y', w'].getD 0 0 from e)]
    show V.int (_ + _) = V.int _
    congr 1
    exact Int.add_comm _ _
  · have e : x = x' := by simpa using e
    obtain ⟨as, p1, p2⟩ := hF.pr
    have hx : x.toNat < g.ps.length := by omega
    have hxa : x.toNat < as.length := by rw [Paired.length p2]; exact hx
    obtain ⟨aa, haa⟩ : ∃ aa, as[x.toNat]? = some aa := ⟨_, List.getElem?_eq_getElem hxa⟩
    obtain ⟨c, hc, hac⟩ := tups_at p2 haa
    obtain ⟨u, v, rfl, _⟩ := hg.pp c (List.mem_of_getElem? hc)
    have hgd : g.ps.getD x.toNat [] = [u, v] := by rw [List.getD_eq_getElem?_getD, hc]; rfl
    have at_ : atI (as.map V.ref) x = some (.ref aa) := by
      have : x = ((x.toNat : Nat) : Int) := by omega
      rw [this]
      refine atI_nat ?_
      rw [List.getElem?_map, haa]; rfl
    refine ⟨_, rfl, p, cFloor, dx, _, _, rfl, h1, T.cl_Floor, T.na_Floor_prices, lk2, _, rfl, _, _, _, _, rfl, rfl, SqT.of ha, rfl, _, _, _, _, rfl, rfl, SqL.of p1, at_, aa, _, rfl, SqT.of hac, rfl, _, _, rfl, _, _, rfl, rfl, ?_⟩
    have hbare : bare g [x, y, w] [x', y', w'] = if y = y' then u else v := by
      unfold bare
      rw [if_neg (show ¬ [x, y, w].getD 0 0 ≠ [x', y', w'].getD 0 0 from fun h => h e)]
      show (if y = y' then (g.ps.getD x.toNat []).getD 0 0 else (g.ps.getD x.toNat []).getD 1 0) = _
      rw [hgd]; rfl
    have hpr : price g [x, y, w] [x', y', w'] = (if y = y' then u else v) + (tollC g.R g.C g.ts [x, y, w] + tollC g.R g.C g.ts [x', y', w']) := by
      unfold price
      rw [hbare]; exact Int.add_comm _ _
    rw [hpr] at q
    refine st ?_
    refine rd_te (te_op ?_)
    by_cases hy : y = y'
    · rw [if_pos hy] at q
      refine if_T (et_of (et_test (ev_eqI (ev_ixT (v := .int y) (ev_var rfl) ev_c (SqT.of ha) rfl) (ev_ixT (v := .int y') (ev_var rfl) ev_c (SqT.of hb) rfl))) (decide_eq_true hy)) ?_
      exact ⟨_, rfl, _, rfl, _, _, rfl, rfl, q⟩
    · rw [if_neg hy] at q
      refine if_F (et_of (et_test (ev_eqI (ev_ixT (v := .int y) (ev_var rfl) ev_c (SqT.of ha) rfl) (ev_ixT (v := .int y') (ev_var rfl) ev_c (SqT.of hb) rfl))) (decide_eq_false hy)) ?_
      exact ⟨_, rfl, _, rfl, _, _, rfl, rfl, q⟩
theorem ok_Steps {cFloor cWireError cNotAStep cOutOfFloor cMS : Addr} {f : Addr} {fd : FuncData} (F : Fun K "steps" "Floor.steps" sSteps f fd) (T : Txt K mg cFloor cWireError cNotAStep cOutOfFloor cMS) (gRound : Callee P w K mg base "spots_round" 1 ["spot"] spRound) (gIsRock : MCallee P w K mg base cFloor "is_rock" 3 ["self", "spot"] (spIsRock cFloor)) (gIsOpen : MCallee P w K mg base cFloor "is_open" 2 ["self", "spot"] (spIsOpen cFloor)) (gPriced : MCallee P w K mg base cFloor "priced" 1 ["self", "one", "two"] (spPriced cFloor)) : FnOk P w K mg base CX0 4 f fd ["self", "spot"] (spSteps cFloor) := by
  have sc : FnScope ["self", "spot"] ["self", "spot"] (defScope sSteps) := ⟨rfl, rfl, rfl, by decide +kernel, rfl, by decide +kernel, by decide +kernel⟩
  refine F.ok sc (fun vs H Q E h => by repeat (first | (obtain ⟨rfl, _⟩ := h; rfl) | (obtain ⟨_, h⟩ := h))) (fun cdv A outer s H vs Q E hr h => ?_)
  obtain ⟨p, pr, vi, rd, td, b, g, x, y, w, rfl, hF, hg, hb, hi, q⟩ := h
  refine ⟨_, (pss_cons (ps_if (pt_val (pe_met (pv 0) T.cl_Floor gIsRock (hr.mono (by decide)) (pa_cons (pv 1) pa_nil)))
  (pss_one (ps_ret (pe_lst pa_nil)))
  pss_nil)
  (pss_one (ps_ret (pe_lc (ls := ["other"]) (ys := ["spot", "self"]) (ix := [1, 0]) rfl ⟨rfl, by rfl, by rfl, by rfl, by rfl, rfl⟩ (pi_list (pe_cal gRound (hr.mono (by decide)) (by rfl) (pa_cons (pv 1) pa_nil))) (fun _ _ _ _ _ => (pg_name (i := 0) (show (["other", "spot", "self"] : List Str).Nodup by decide +kernel) rfl (Or.inl rfl))) (fun _ _ _ _ _ => (pf_one (pt_val (pe_met (pv 2) (by exact T.cl_Floor) (by exact gIsOpen) (by exact (hr.mono (by decide))) (pa_cons (pv 0) pa_nil))))) (fun _ _ _ _ _ => (pe_tup (pa_cons (pv 0) (pa_cons (pe_met (pv 2) (by exact T.cl_Floor) (by exact gPriced) (by exact (hr.mono (by decide))) (pa_cons (pv 1) (pa_cons (pv 0) pa_nil))) pa_nil)))))))), ?_⟩
  have hsz : sizeLine = 2 ^ 24 := rfl
  obtain ⟨dx, z, h1, h2⟩ := hF.ex
  refine sq_ifof ⟨_, rfl, p, dx, _, rfl, h1, ln6, _, rfl, p, pr, vi, rd, td, b, g, x, y, w, rfl, hF, hg, hb, hi, _, rfl, ?_⟩
  by_cases hr : rkC g [x, y, w] = true
  · rw [hr]
    refine iteT ?_
    refine ⟨Nat.zero_le _, fun l nl => q _ l ((Same.refl H).upd nl) nl ⟨[], upd_same, ?_⟩⟩
    unfold stepsL
    rw [if_pos hr]; exact .nil
  · rw [show rkC g [x, y, w] = false by simpa using hr]
    refine iteF ?_
    refine rd_te ⟨_, rfl, b, x, y, w, rfl, hb, fun H1 l s1 nl hl => ?_⟩
    obtain ⟨as, e1, e2⟩ := hl
    refine ⟨l, rfl, ⟨_, SqL.of e1⟩, fun D nD => ?_⟩
    refine lc_pickP (K := K) (opn g) (fun c => price g [x, y, w] c) [some (.ref b), some (.ref p)] nD (fun H' s => SqL.of (s _ _ e1)) e2 (by rw [Paired.length e2]; unfold rnd; simp) (fun a c H' hc e s => ?_) fun H' qs s hD hq => ?_
    · have s2 := s1.trans s
      obtain ⟨x', y', w', rfl⟩ : ∃ x' y' w', c = [x', y', w'] := by
        unfold rnd at hc
        simp only [List.mem_cons, List.not_mem_nil, or_false] at hc
        rcases hc with h | h | h | h | h | h <;> exact ⟨_, _, _, h⟩
      refine ⟨et_B fun Q' q' => ⟨_, rfl, p, dx, _, rfl, s2 _ _ h1, ln9, _, rfl, p, pr, vi, rd, td, a, g, x', y', w', rfl, hF.same s2, hg, s _ _ e, q'⟩, fun ho => fun Q' q' => ?_⟩
      have hi' : Ins g.L g.R g.C x' y' w' := by
        unfold opn insC at ho
        rw [Bool.and_eq_true] at ho
        exact of_decide_eq_true ho.1
      exact ⟨_, rfl, p, dx, _, rfl, s2 _ _ h1, ln10, _, rfl, _, rfl, p, pr, vi, rd, td, b, a, g, x, y, w, x', y', w', rfl, hF.same s2, hg, s2 _ _ hb, s _ _ e, hi, hi', hc, q'⟩
    · refine q H' D (s1.trans s) (fresh_of s1 nD) ⟨qs, hD, ?_⟩
      unfold stepsL
      rw [if_neg hr]
      exact hq
theorem ok_Cell {cFloor cWireError cNotAStep cOutOfFloor cMS : Addr} {f : Addr} {fd : FuncData} (F : Fun K "_law_cell_at" "_law_cell_at" sCell f fd) (T : Txt K mg cFloor cWireError cNotAStep cOutOfFloor cMS) : FnOk P w K mg base CX0 1 f fd ["script", "k"] (spCell K) := by
  have sc : FnScope ["script", "k"] ["script", "k"] (defScope sCell) := ⟨rfl, rfl, rfl, by decide +kernel, rfl, by decide +kernel, by decide +kernel⟩
  refine F.ok sc (fun vs H Q E h => by repeat (first | (obtain ⟨rfl, _⟩ := h; rfl) | (obtain ⟨_, h⟩ := h))) (fun cdv A outer s H vs Q E hr h => ?_)
  obtain ⟨a, ns, i, rfl, ha, h0, q⟩ := h
  refine ⟨_, (pss_cons (ps_if (pt_cmpR op_lt (pv 1) (pe_callB call_len (by rfl) T.len_ bt_len (pa_cons (pv 0) pa_nil)) (nomark _))
  (pss_one (ps_ret (pe_ix ix_list (pv 0) (pv 1) (fun _ _ => rfl))))
  pss_nil)
  (pss_one (ps_ret pe_int))), ?_⟩
  refine rd_if (et_test (ev_I0 (ev_var rfl) (ev_cb (ea_cons (ev_var rfl) ea_nil) fun Q' q' => ⟨_, _, rfl, by first | exact .inl ⟨_, by assumption, rfl⟩ | exact .inl ⟨_, SqL.of (by assumption), rfl⟩ | exact .inr ⟨_, by assumption, rfl⟩ | exact .inr ⟨_, SqT.of (by assumption), rfl⟩, q'⟩))) (fun e => ?_) (fun _ => ?_)
  · have hlt : i < ((ns.map V.int).length : Int) := of_decide_eq_true e
    rw [List.length_map] at hlt
    obtain ⟨j, rfl⟩ := Int.eq_ofNat_of_zero_le h0
    have hj : j < ns.length := by omega
    exact rd_ret (ev_ixL (v := .int ns[j]) (ev_var rfl) (ev_var rfl) ha (atI_nat (by simp [hj]))) (q _)
  · exact q 0
theorem ok_Whole {cFloor cWireError cNotAStep cOutOfFloor cMS : Addr} {f : Addr} {fd : FuncData} (F : Fun K "_law_is_whole" "_law_is_whole" sWhole f fd) (T : Txt K mg cFloor cWireError cNotAStep cOutOfFloor cMS) : FnOk P w K mg base CX0 1 f fd ["found"] spWhole := by
  have sc : FnScope ["found"] ["found"] (defScope sWhole) := ⟨rfl, rfl, rfl, by decide +kernel, rfl, by decide +kernel, by decide +kernel⟩
  refine F.ok sc (fun vs H Q E h => by repeat (first | (obtain ⟨rfl, _⟩ := h; rfl) | (obtain ⟨_, h⟩ := h))) (fun cdv A outer s H vs Q E hr h => ?_)
  obtain ⟨i, rfl, q⟩ := h
  refine ⟨_, (pss_one (ps_ret (pe_and (pe_callB call_isinst (by rfl) T.isinstance_ bt_isinstance (pa_cons (pv 0) (pa_cons (pe_bltn (v := .ty "int") (by rfl) T.int_ bt_int (by rfl)) pa_nil))) (pe_one (pe_not (pe_callB call_isinst (by rfl) T.isinstance_ bt_isinstance (pa_cons (pv 0) (pa_cons (pe_bltn (v := .ty "bool") (by rfl) T.bool_ bt_bool (by rfl)) pa_nil)))))))), ?_⟩
  exact rd_ret (ev_and (a := true) (ev_cb (ea_cons (ev_var rfl) (ea_cons ev_c ea_nil)) fun Q' q' => ⟨_, _, _, _, _, rfl, .ty "int", .int i, T.ii, q'⟩) fun _ => ev_notV (ev_cb (v := .bl false) (ea_cons (ev_var rfl) (ea_cons ev_c ea_nil)) fun Q' q' => ⟨_, _, _, _, _, rfl, .ty "bool", .int i, T.ib, q'⟩)) q
theorem ok_Mix {cFloor cWireError cNotAStep cOutOfFloor cMS : Addr} {f : Addr} {fd : FuncData} (F : Fun K "_law_mix" "_law_mix" sMix f fd) (T : Txt K mg cFloor cWireError cNotAStep cOutOfFloor cMS) : FnOk P w K mg base CX0 1 f fd ["cell", "k"] spMix := by
  have sc : FnScope ["cell", "k"] ["cell", "k"] (defScope sMix) := ⟨rfl, rfl, rfl, by decide +kernel, rfl, by decide +kernel, by decide +kernel⟩
  refine F.ok sc (fun vs H Q E h => by repeat (first | (obtain ⟨rfl, _⟩ := h; rfl) | (obtain ⟨_, h⟩ := h))) (fun cdv A outer s H vs Q E hr h => ?_)
  obtain ⟨c, k, rfl, h0, h1, q⟩ := h
  refine ⟨_, (pss_one (ps_ret (pe_op op_mod (pe_op op_mul (pe_op op_add (pe_op op_mod (pv 0) pe_int) (pe_op op_mul (pe_op op_mul pe_int (pe_op op_add (pv 1) pe_int)) (pe_op op_add (pv 1) pe_int))) pe_int) pe_int))), ?_⟩
  refine rd_ret (ev_I (ev_I (ev_I0 (ev_I (ev_var rfl) ev_c (by first | (show (0 : Int) < _; omega) | (show (0 : Int) < _; decide))) (ev_I (ev_I ev_c (ev_I0 (ev_var rfl) ev_c) (by first | exact cmR (by omega) (by omega) | exact cmL (by omega) (by omega))) (ev_I0 (ev_var rfl) ev_c) (by first | exact cmR (by omega) (by omega) | exact cmL (by omega) (by omega)))) ev_c (by first | exact cmR (by omega) (by omega) | exact cmL (by omega) (by omega))) ev_c (by first | (show (0 : Int) < _; omega) | (show (0 : Int) < _; decide))) (q _ (Int.emod_nonneg _ (by decide)) (Int.emod_lt_of_pos _ (by decide)))
theorem ok_Price {cFloor cWireError cNotAStep cOutOfFloor cMS : Addr} {f : Addr} {fd : FuncData} (F : Fun K "_law_price" "_law_price" sPrice f fd) (T : Txt K mg cFloor cWireError cNotAStep cOutOfFloor cMS) (gMix : Callee P w K mg base "_law_mix" 1 ["cell", "k"] spMix) : FnOk P w K mg base CX0 2 f fd ["cell", "k"] spPrice := by
  have sc : FnScope ["cell", "k", "mixed"] ["cell", "k"] (defScope sPrice) := ⟨rfl, rfl, rfl, by decide +kernel, rfl, by decide +kernel, by decide +kernel⟩
  refine F.ok sc (fun vs H Q E h => by repeat (first | (obtain ⟨rfl, _⟩ := h; rfl) | (obtain ⟨_, h⟩ := h))) (fun cdv A outer s H vs Q E hr h => ?_)
  obtain ⟨c, k, rfl, h0, h1, q⟩ := h
  refine ⟨_, (pss_cons (ps_set (i := 2) sc.nd rfl (Or.inl rfl) (pe_cal gMix (hr.mono (by decide)) (by rfl) (pa_cons (pv 0) (pa_cons (pv 1) pa_nil))))
  (pss_one (ps_ret (pe_op op_add pe_int (pe_op op_mod (pe_op op_mul (pv 2) (pv 2)) (pe_ix ix_list (pe_lst (pa_cons pe_int (pa_cons (pe_op op_pow pe_int pe_int) pa_nil))) (pe_op op_mod (pv 0) pe_int) (fun _ _ => rfl))))))), ?_⟩
  refine sq_asg (te_cal (ea_cons (ev_var rfl) (ea_cons (ev_var rfl) ea_nil)) ⟨c, k, rfl, h0, h1, fun m m0 m1 => ?_⟩)
  refine rd_te (te_op (ev_c _ (te_op ((ev_I (i := m) (j := m) (ev_var rfl) (ev_var rfl) (cmR (by omega) (by omega))) _ (te_op (te_lst (vs := [.int 5, .int 1000000000000]) (ea_cons ev_c (ea_cons (ev_I ev_c ev_c (cpw (by decide) (by decide) (by decide))) ea_nil)) (by show 2 ≤ sizeLine; decide) fun p np => ?_))))))
  refine (ev_I (ev_var rfl) ev_c (by first | (show (0 : Int) < _; omega) | (show (0 : Int) < _; decide))) _ ?_
  have e2 : c % 2 = 0 ∨ c % 2 = 1 := by omega
  rcases e2 with e | e
  · rw [e]
    refine ⟨p, _, 0, .int 5, rfl, rfl, SqL.of upd_same, rfl, _, _, rfl, rfl, (by show (0 : Int) < 5; decide), _, _, rfl, rfl, ?_⟩
    exact q _ _ ((Same.refl H).upd np) (by have := Int.emod_nonneg (m * m) (show (5 : Int) ≠ 0 by decide); omega) (by have := Int.emod_lt_of_pos (m * m) (show (0 : Int) < 5 by decide); omega)
  · rw [e]
    refine ⟨p, _, 1, .int 1000000000000, rfl, rfl, SqL.of upd_same, rfl, _, _, rfl, rfl, (by show (0 : Int) < 1000000000000; decide), _, _, rfl, rfl, ?_⟩
    exact q _ _ ((Same.refl H).upd np) (by have := Int.emod_nonneg (m * m) (show (1000000000000 : Int) ≠ 0 by decide); omega) (by have := Int.emod_lt_of_pos (m * m) (show (0 : Int) < 1000000000000 by decide); omega)
theorem ok_Sizes {cFloor cWireError cNotAStep cOutOfFloor cMS : Addr} {f : Addr} {fd : FuncData} (F : Fun K "_law_sizes" "_law_sizes" sSizes f fd) (T : Txt K mg cFloor cWireError cNotAStep cOutOfFloor cMS) : FnOk P w K mg base CX0 1 f fd ["cell"] spSizes := by
  have sc : FnScope ["cell"] ["cell"] (defScope sSizes) := ⟨rfl, rfl, rfl, by decide +kernel, rfl, by decide +kernel, by decide +kernel⟩
  refine F.ok sc (fun vs H Q E h => by repeat (first | (obtain ⟨rfl, _⟩ := h; rfl) | (obtain ⟨_, h⟩ := h))) (fun cdv A outer s H vs Q E hr h => ?_)
  obtain ⟨n, rfl, q⟩ := h
  refine ⟨_, (pss_cons (ps_if (pt_cmpR op_eq (pe_op op_mod (pe_op op_fdivB (pv 0) pe_int) pe_int) pe_int (nomark _))
  (pss_one (ps_ret (pe_tup (pa_cons (pe_op op_add pe_int (pe_op op_mod (pv 0) pe_int)) (pa_cons (pe_op op_add pe_int (pe_op op_mod (pe_op op_fdivB (pv 0) pe_int) pe_int)) (pa_cons (pe_op op_add pe_int (pe_op op_mod (pe_op op_fdivB (pv 0) pe_int) pe_int)) pa_nil))))))
  pss_nil)
  (pss_cons (ps_if (pt_cmpR op_eq (pe_op op_mod (pe_op op_fdivB (pv 0) pe_int) pe_int) pe_int (nomark _))
  (pss_one (ps_ret (pe_tup (pa_cons pe_int (pa_cons (pe_op op_add pe_int (pe_op op_mod (pv 0) pe_int)) (pa_cons pe_int pa_nil))))))
  pss_nil)
  (pss_one (ps_ret (pe_tup (pa_cons (pe_op op_add pe_int (pe_op op_mod (pv 0) pe_int)) (pa_cons (pe_op op_add pe_int (pe_op op_mod (pe_op op_fdivB (pv 0) pe_int) pe_int)) (pa_cons (pe_op op_add pe_int (pe_op op_mod (pe_op op_fdivB (pv 0) pe_int) pe_int)) pa_nil)))))))), ?_⟩
  refine sq_if (et_test (ev_eqI (ev_I (ev_I (ev_var rfl) ev_c (cdB (by omega) (by omega))) ev_c (by first | (show (0 : Int) < _; omega) | (show (0 : Int) < _; decide))) ev_c)) (fun e => ?_) (fun e => ?_)
  · exact rd_tup (vs := [.int (1 + n % 2), .int (1 + n / 2 % 2), .int (9 + n / 4 % 8)]) (ea_cons (ev_I0 ev_c (ev_I (ev_var rfl) ev_c (by first | (show (0 : Int) < _; omega) | (show (0 : Int) < _; decide)))) (ea_cons (ev_I0 ev_c (ev_I (ev_I (ev_var rfl) ev_c (cdB (by omega) (by omega))) ev_c (by first | (show (0 : Int) < _; omega) | (show (0 : Int) < _; decide)))) (ea_cons (ev_I0 ev_c (ev_I (ev_I (ev_var rfl) ev_c (cdB (by omega) (by omega))) ev_c (by first | (show (0 : Int) < _; omega) | (show (0 : Int) < _; decide)))) ea_nil))) (by show 3 ≤ sizeLine; decide) fun z nz => q z _ _ _ nz ⟨by omega, by omega, by omega, by omega, by omega, by omega⟩ (prod_le (a := 2) (b := 2) (c := 16) (by omega) (by omega) (by omega) (by omega) (by omega) (by omega) (by decide))
  refine sq_if (et_test (ev_eqI (ev_I (ev_I (ev_var rfl) ev_c (cdB (by omega) (by omega))) ev_c (by first | (show (0 : Int) < _; omega) | (show (0 : Int) < _; decide))) ev_c)) (fun e => ?_) (fun e => ?_)
  · exact rd_tup (vs := [.int 4, .int (1 + n % 16), .int 1]) (ea_cons ev_c (ea_cons (ev_I0 ev_c (ev_I (ev_var rfl) ev_c (by first | (show (0 : Int) < _; omega) | (show (0 : Int) < _; decide)))) (ea_cons ev_c ea_nil))) (by show 3 ≤ sizeLine; decide) fun z nz => q z _ _ _ nz ⟨by omega, by omega, by omega, by omega, by omega, by omega⟩ (prod_le (a := 4) (b := 16) (c := 2) (by omega) (by omega) (by omega) (by omega) (by omega) (by omega) (by decide))
  · exact rd_tup (vs := [.int (1 + n % 3), .int (1 + n / 4 % 4), .int (1 + n / 16 % 4)]) (ea_cons (ev_I0 ev_c (ev_I (ev_var rfl) ev_c (by first | (show (0 : Int) < _; omega) | (show (0 : Int) < _; decide)))) (ea_cons (ev_I0 ev_c (ev_I (ev_I (ev_var rfl) ev_c (cdB (by omega) (by omega))) ev_c (by first | (show (0 : Int) < _; omega) | (show (0 : Int) < _; decide)))) (ea_cons (ev_I0 ev_c (ev_I (ev_I (ev_var rfl) ev_c (cdB (by omega) (by omega))) ev_c (by first | (show (0 : Int) < _; omega) | (show (0 : Int) < _; decide)))) ea_nil))) (by show 3 ≤ sizeLine; decide) fun z nz => q z _ _ _ nz ⟨by omega, by omega, by omega, by omega, by omega, by omega⟩ (prod_le (a := 3) (b := 4) (c := 4) (by omega) (by omega) (by omega) (by omega) (by omega) (by omega) (by decide))
theorem ok_Spot {cFloor cWireError cNotAStep cOutOfFloor cMS : Addr} {f : Addr} {fd : FuncData} (F : Fun K "_law_spot" "_law_spot" sSpot f fd) (T : Txt K mg cFloor cWireError cNotAStep cOutOfFloor cMS) : FnOk P w K mg base CX0 1 f fd ["sizes", "number"] spSpot := by
  have sc : FnScope ["sizes", "number", "above"] ["sizes", "number"] (defScope sSpot) := ⟨rfl, rfl, rfl, by decide +kernel, rfl, by decide +kernel, by decide +kernel⟩
  refine F.ok sc (fun vs H Q E h => by repeat (first | (obtain ⟨rfl, _⟩ := h; rfl) | (obtain ⟨_, h⟩ := h))) (fun cdv A outer s H vs Q E hr h => ?_)
  obtain ⟨z, L, R, C, n, rfl, hz, S, q⟩ := h
  refine ⟨_, (pss_cons (ps_set (i := 1) sc.nd rfl (Or.inl rfl) (pe_op op_mod (pv 1) (pe_op op_mul (pe_op op_mul (pe_ix ix_tup (pv 0) pe_int (fun _ _ => rfl)) (pe_ix ix_tup (pv 0) pe_int (fun _ _ => rfl))) (pe_ix ix_tup (pv 0) pe_int (fun _ _ => rfl)))))
  (pss_cons (ps_set (i := 2) sc.nd rfl (Or.inl rfl) (pe_op op_fdivB (pv 1) (pe_ix ix_tup (pv 0) pe_int (fun _ _ => rfl))))
  (pss_one (ps_ret (pe_tup (pa_cons (pe_op op_fdivB (pv 2) (pe_ix ix_tup (pv 0) pe_int (fun _ _ => rfl))) (pa_cons (pe_op op_mod (pv 2) (pe_ix ix_tup (pv 0) pe_int (fun _ _ => rfl))) (pa_cons (pe_op op_mod (pv 1) (pe_ix ix_tup (pv 0) pe_int (fun _ _ => rfl))) pa_nil)))))))), ?_⟩
  have l0 := S.l0
  have l1 := S.l1
  have r0 := S.r0
  have r1 := S.r1
  have c0 := S.c0
  have c1 := S.c1
  have pos : 0 < L * R * C := Int.mul_pos (Int.mul_pos (by omega) (by omega)) (by omega)
  have eN : (((n % (L * R * C)).toNat : Nat) : Int) = n % (L * R * C) := Int.toNat_of_nonneg (Int.emod_nonneg _ (by omega))
  refine sq_set (v := .int (n % (L * R * C))) (ev_I (ev_var rfl) (ev_I (ev_I (ev_ixT (v := .int L) (ev_var rfl) ev_c (SqT.of hz) rfl) (ev_ixT (v := .int R) (ev_var rfl) ev_c (SqT.of hz) rfl) (cmR (by omega) (by omega))) (ev_ixT (v := .int C) (ev_var rfl) ev_c (SqT.of hz) rfl) (cmR (by omega) (by omega))) pos) ?_
  refine sq_set (v := .int (n % (L * R * C) / C)) (ev_I (ev_var rfl) (ev_ixT (v := .int C) (ev_var rfl) ev_c (SqT.of hz) rfl) (cdB (by omega) (by omega))) ?_
  refine rd_tup (vs := [.int (n % (L * R * C) / C / R), .int (n % (L * R * C) / C % R), .int (n % (L * R * C) % C)]) (ea_cons (ev_I (ev_var rfl) (ev_ixT (v := .int R) (ev_var rfl) ev_c (SqT.of hz) rfl) (cdB (by omega) (by omega))) (ea_cons (ev_I (ev_var rfl) (ev_ixT (v := .int R) (ev_var rfl) ev_c (SqT.of hz) rfl) (by show 0 < R; omega)) (ea_cons (ev_I (ev_var rfl) (ev_ixT (v := .int C) (ev_var rfl) ev_c (SqT.of hz) rfl) (by show 0 < C; omega)) ea_nil))) (by show 3 ≤ sizeLine; decide) fun t nt => ?_
  have := q t nt
  unfold sN at this
  rw [eN] at this
  exact this
theorem ok_Ground {cFloor cWireError cNotAStep cOutOfFloor cMS : Addr} {f : Addr} {fd : FuncData} (F : Fun K "_law_ground" "_law_ground" sGround f fd) (T : Txt K mg cFloor cWireError cNotAStep cOutOfFloor cMS) (gCell : Callee P w K mg base "_law_cell_at" 1 ["script", "k"] (spCell K)) (gPrice : Callee P w K mg base "_law_price" 2 ["cell", "k"] spPrice) (gSizes : Callee P w K mg base "_law_sizes" 1 ["cell"] spSizes) (gSpot : Callee P w K mg base "_law_spot" 1 ["sizes", "number"] spSpot) : FnOk P w K mg base CX0 3 f fd ["script"] (spGround K) := by
  have sc : FnScope ["script", "sizes", "seed", "prices", "vias", "many", "rocks", "tolls", "cell", "spot", "way"] ["script"] (defScope sGround) := ⟨rfl, rfl, rfl, by decide +kernel, rfl, by decide +kernel, by decide +kernel⟩
  refine F.ok sc (fun vs H Q E h => by repeat (first | (obtain ⟨rfl, _⟩ := h; rfl) | (obtain ⟨_, h⟩ := h))) (fun cdv A outer s H vs Q E hr h => ?_)
  obtain ⟨a, ns, rfl, ha, hn, q⟩ := h
  refine ⟨_, (pss_cons (ps_set (i := 1) sc.nd rfl (Or.inl rfl) (pe_cal gSizes (hr.mono (by decide)) (by rfl) (pa_cons (pe_cal gCell (hr.mono (by decide)) (by rfl) (pa_cons (pv 0) (pa_cons pe_int pa_nil))) pa_nil)))
  (pss_cons (ps_set (i := 2) sc.nd rfl (Or.inr rfl) (pe_cal gCell (hr.mono (by decide)) (by rfl) (pa_cons (pv 0) (pa_cons pe_int pa_nil))))
  (pss_cons (ps_lcset (i := 3) (ls := ["k"]) (ys := ["seed"]) (ix := [2]) rfl sc.nd rfl (Or.inl rfl) ⟨rfl, by rfl, by rfl, by rfl, by rfl, rfl⟩ (pi_range1 (by rfl) T.range_ (pa_cons (pe_ix ix_tup (pv 1) pe_int (fun _ _ => rfl)) pa_nil)) (fun _ _ _ _ _ => (pg_name (i := 0) (show (["k", "seed"] : List Str).Nodup by decide +kernel) rfl (Or.inl rfl))) (fun _ _ _ _ _ => pf_nil) (fun _ _ _ _ _ => (pe_tup (pa_cons (pe_cal (by exact gPrice) (by exact (hr.mono (by decide))) (by rfl) (pa_cons (pv 1) (pa_cons (pe_op op_mul pe_int (pv 0)) pa_nil))) (pa_cons (pe_cal (by exact gPrice) (by exact (hr.mono (by decide))) (by rfl) (pa_cons (pv 1) (pa_cons (pe_op op_add (pe_op op_mul pe_int (pv 0)) pe_int) pa_nil))) pa_nil)))))
  (pss_cons (ps_lcset (i := 4) (ls := ["k"]) (ys := ["seed"]) (ix := [2]) rfl sc.nd rfl (Or.inl rfl) ⟨rfl, by rfl, by rfl, by rfl, by rfl, rfl⟩ (pi_range1 (by rfl) T.range_ (pa_cons (pe_op op_sub (pe_ix ix_tup (pv 1) pe_int (fun _ _ => rfl)) pe_int) pa_nil)) (fun _ _ _ _ _ => (pg_name (i := 0) (show (["k", "seed"] : List Str).Nodup by decide +kernel) rfl (Or.inl rfl))) (fun _ _ _ _ _ => pf_nil) (fun _ _ _ _ _ => (pe_cal (by exact gPrice) (by exact (hr.mono (by decide))) (by rfl) (pa_cons (pv 1) (pa_cons (pe_op op_add pe_int (pv 0)) pa_nil)))))
  (pss_cons (ps_set (i := 5) sc.nd rfl (Or.inl rfl) (pe_op op_mul (pe_op op_mul (pe_ix ix_tup (pv 1) pe_int (fun _ _ => rfl)) (pe_ix ix_tup (pv 1) pe_int (fun _ _ => rfl))) (pe_ix ix_tup (pv 1) pe_int (fun _ _ => rfl))))
  (pss_cons (ps_set (i := 6) sc.nd rfl (Or.inl rfl) (pe_lst pa_nil))
  (pss_cons (ps_set (i := 7) sc.nd rfl (Or.inl rfl) pe_dnewT)
  (pss_cons (ps_for PassesOwn.never rfl (pi_list (pe_slice sl_list (pv 0) (po_some pe_int) (po_some pe_int))) (pg_name (i := 8) sc.nd rfl (Or.inl rfl))
  (pss_cons (ps_set (i := 9) sc.nd rfl (Or.inl rfl) (pe_cal gSpot (hr.mono (by decide)) (by rfl) (pa_cons (pv 1) (pa_cons (pe_op op_mod (pv 8) (pv 5)) pa_nil))))
  (pss_cons (ps_set (i := 10) sc.nd rfl (Or.inl rfl) (pe_op op_mod (pe_op op_fdivB (pv 8) (pv 5)) pe_int))
  (pss_cons (ps_if (pt_cmpR op_eq (pv 10) pe_int (nomark _))
  (pss_one (ps_expr (pe_bm PySem.F.plainAttrs_list PySem.F.slot_list_append PySem.F.type_list_append mt_append (pv 6) (pa_cons (pv 9) pa_nil))))
  pss_nil)
  (pss_one (ps_if (pw_or (pt_cmpR op_eq (pv 10) pe_int (nomark _)) (pw_or1 (pt_cmpR op_eq (pv 10) pe_int (nomark _)))).pt
  (pss_one (ps_dput (Room.one hr) (pv 7) (pv 9) (pe_op op_mod (pe_op op_fdivB (pe_op op_fdivB (pv 8) (pv 5)) pe_int) (pe_ix ix_list (pe_lst (pa_cons pe_int (pa_cons (pe_op op_add (pe_op op_pow pe_int pe_int) pe_int) pa_nil))) (pe_op op_sub (pv 10) pe_int) (fun _ _ => rfl))) (by rfl)))
  pss_nil))))))
  (pss_one (ps_ret (pe_tup (pa_cons (pv 1) (pa_cons (pv 3) (pa_cons (pv 4) (pa_cons (pv 6) (pa_cons (pv 7) pa_nil)))))))))))))))), ?_⟩
  have hsz : sizeLine = 2 ^ 24 := rfl
  refine sq_asg (te_nest (te_cal (ea_cons (ev_var rfl) (ea_cons ev_c ea_nil)) ⟨a, ns, 0, rfl, ha, Int.le_refl 0, fun v => ?_⟩))
  refine ⟨v, rfl, fun z L R C nz S hP => ?_⟩
  have l0 := S.l0
  have l1 := S.l1
  have r0 := S.r0
  have r1 := S.r1
  have c0 := S.c0
  have c1 := S.c1
  have s1 : Same H (upd H z (.tup [.int L, .int R, .int C])) := (Same.refl H).upd nz
  have hz1 : At3 (upd H z (.tup [.int L, .int R, .int C])) z L R C := upd_same
  revert s1 hz1
  generalize upd H z (.tup [.int L, .int R, .int C]) = H1
  intro s1 hz1
  refine sq_asg (te_cal (ea_cons (ev_var rfl) (ea_cons ev_c ea_nil)) ⟨a, ns, 1, rfl, s1.seq ha, by decide, fun sd => ?_⟩)
  refine sq_lc1 (j := L) (ea_cons (ev_ixT (v := .int L) (ev_var rfl) ev_c (SqT.of hz1) rfl) ea_nil) (by omega) (by omega) fun D nD => ?_
  refine lc_range (fun i τ H' => ∃ (x0 : Option V) (us : List Addr) (cs : List T3), τ = [x0, some (.int sd)] ∧ Same H1 H' ∧ H' D = some (.lst (us.map V.ref)) ∧ Tups H' us cs ∧ cs.length = i ∧ PP cs) ⟨none, [], [], rfl, (Same.refl H1).upd nD, upd_same, .nil, rfl, fun _ h => nomatch h⟩ ?_ ?_
  · rintro i τ H' hi ⟨x0, us, cs, rfl, s, hD, hus, hl, hpp⟩
    have hlu : us.length = cs.length := Paired.length hus
    refine gn (lc_el (te_two ?_))
    refine te_cal (ea_cons (ev_var rfl) (ea_cons (ev_I ev_c (ev_var rfl) (cmL (by omega) (by omega))) ea_nil)) ⟨sd, _, rfl, by omega, by omega, fun u H2 s2 u1 u2 => ?_⟩
    refine te_cal (ea_cons (ev_var rfl) (ea_cons (ev_I0 (ev_I ev_c (ev_var rfl) (cmL (by omega) (by omega))) ev_c) ea_nil)) ⟨sd, _, rfl, by omega, by omega, fun w H3 s3 w1 w2 => ?_⟩
    refine ⟨by show 2 ≤ sizeLine; decide, fun t nt => ?_⟩
    have s23 := s2.trans s3
    have hD3 := s23 _ _ hD
    have ntD : t ≠ D := Ne.symm (ne_of_none hD3 nt)
    refine ⟨us.map V.ref, by rw [upd_ne (Ne.symm ntD)]; exact hD3, by rw [List.length_map]; omega, _, us ++ [t], cs ++ [[u, w]], rfl, same_at ((s.trans s23).upd nt) nD, by rw [upd_same, List.map_append]; rfl, ?_, by rw [List.length_append, hl]; rfl, ?_⟩
    · exact tups_app (tups_mono hus fun b xs e => keep_lst hD3 nt _ _ (s23 _ _ e)) (.cons (by rw [upd_ne ntD, upd_same]; rfl) .nil)
    · intro c hc
      rcases List.mem_append.mp hc with hc | hc
      · exact hpp c hc
      · rw [List.mem_singleton.mp hc]; exact ⟨u, w, rfl, u1, u2, w1, w2⟩
  rintro τ H2 ⟨x0, us, cs, rfl, s2', hD2, hus, hlc, hpp⟩
  have s2 := s1.trans s2'
  have hz2 : At3 H2 z L R C := s2' _ _ hz1
  try dsimp only [List.set]
  refine sq_lc1 (j := L - 1) (ea_cons (ev_I0 (ev_ixT (v := .int L) (ev_var rfl) ev_c (SqT.of hz2) rfl) ev_c) ea_nil) (by omega) (by omega) fun E nE => ?_
  refine lc_range (fun i τ H' => ∃ (x0 : Option V) (ws : List Int), τ = [x0, some (.int sd)] ∧ Same H2 H' ∧ H' E = some (.lst (ws.map V.int)) ∧ ws.length = i ∧ ∀ v ∈ ws, 1 ≤ v ∧ v ≤ 1000000000000) ⟨none, [], rfl, (Same.refl H2).upd nE, upd_same, rfl, fun _ h => nomatch h⟩ ?_ ?_
  · rintro i τ H' hi ⟨x0, ws, rfl, s, hE, hl, hv⟩
    refine gn (lc_el ?_)
    refine te_cal (ea_cons (ev_var rfl) (ea_cons (ev_I0 ev_c (ev_var rfl)) ea_nil)) ⟨sd, _, rfl, by omega, by omega, fun u H3 s3 u1 u2 => ?_⟩
    refine ⟨ws.map V.int, s3 _ _ hE, by rw [List.length_map]; omega, _, ws ++ [u], rfl, same_at (s.trans s3) nE, by rw [upd_same, List.map_append]; rfl, by rw [List.length_append, hl]; rfl, ?_⟩
    intro v hv'
    rcases List.mem_append.mp hv' with h | h
    · exact hv v h
    · rw [List.mem_singleton.mp h]; exact ⟨u1, u2⟩
  rintro τ H3 ⟨x0', ws, rfl, s3', hE3, hlw, hvv⟩
  have s3 := s2.trans s3'
  have hz3 : At3 H3 z L R C := s3' _ _ hz2
  try dsimp only [List.set]
  refine sq_set (v := .int (L * R * C)) (ev_I (ev_I (ev_ixT (v := .int L) (ev_var rfl) ev_c (SqT.of hz3) rfl) (ev_ixT (v := .int R) (ev_var rfl) ev_c (SqT.of hz3) rfl) (cmR (by omega) (by omega))) (ev_ixT (v := .int C) (ev_var rfl) ev_c (SqT.of hz3) rfl) (cmR (by omega) (by omega))) ?_
  have pos : 0 < L * R * C := Int.mul_pos (Int.mul_pos (by omega) (by omega)) (by omega)
  obtain ⟨M, hM⟩ := Int.eq_ofNat_of_zero_le (show 0 ≤ L * R * C by omega)
  refine sq_asg (te_lst (vs := []) ea_nil (Nat.zero_le _) fun ro nro => ?_)
  refine sq_asg fun td ntd => ?_
  have nrt : ro ≠ td := ne_of_none upd_same ntd
  have s5 : Same H (upd (upd H3 ro (.lst [])) td (.dT [])) := (s3.upd nro).upd ntd
  have s35 : Same H3 (upd (upd H3 ro (.lst [])) td (.dT [])) := ((Same.refl H3).upd nro).upd ntd
  have hro5 : upd (upd H3 ro (.lst [])) td (.dT []) ro = some (.lst []) := by rw [upd_ne nrt, upd_same]
  have htd5 : upd (upd H3 ro (.lst [])) td (.dT []) td = some (.dT []) := upd_same
  have ntd3 : H3 td = none := fresh_of ((Same.refl H3).upd nro) ntd
  revert s5 s35 hro5 htd5
  generalize upd (upd H3 ro (.lst [])) td (.dT []) = H5
  intro s5 s35 hro5 htd5
  refine ⟨_, rfl, _, rfl, _, rfl, a, _, rfl, s5.seq ha, fun p np => ⟨p, rfl, ⟨_, SqL.of upd_same⟩, ?_⟩⟩
  obtain ⟨xs, exs, lxs⟩ := cut_int ns (some 2) (some 202)
  rw [exs]
  have npr : p ≠ ro := Ne.symm (ne_of_none hro5 np)
  have npt : p ≠ td := Ne.symm (ne_of_none htd5 np)
  have s6 : Same H5 (upd H5 p (.lst (xs.map V.int))) := (Same.refl H5).upd np
  have hp6 : upd H5 p (.lst (xs.map V.int)) p = some (.lst (xs.map V.int)) := upd_same
  revert s6 hp6
  generalize upd H5 p (.lst (xs.map V.int)) = H6
  intro s6 hp6
  have s36 := s35.trans s6
  have nro3 : H3 ro = none := nro
  refine for_list (K := K) (xs := xs.map V.int) (fun i σ H' => ∃ (x8 x9 x10 : Option V) (as : List Addr) (rs : List Nat) (ts : List (Nat × V)), σ = [some (.ref a), some (.ref z), some (.int sd), some (.ref D), some (.ref E), some (.int (L * R * C)), some (.ref ro), some (.ref td), x8, x9, x10] ∧ Same H3 H' ∧ H' p = some (.lst (xs.map V.int)) ∧
      H' ro = some (.lst (as.map V.ref)) ∧ Tups H' as (rs.map (sN R C)) ∧ (∀ n ∈ rs, n < M) ∧ rs.length ≤ i ∧ H' td = some (.dT (enc R C ts)) ∧ Tb M ts ∧ TV ts)
    ⟨none, none, none, [], [], [], rfl, s36, hp6, s6 _ _ hro5, .nil, (fun _ h => nomatch h), Nat.le_refl _, s6 _ _ htd5, Tb.nil, fun _ h => nomatch h⟩ (fun i σ H' _ ⟨_, _, _, _, _, _, _, _, e, _⟩ => SqL.of e) ?_ ?_
  · rintro i x σ H' hx ⟨x8, x9, x10, as, rs, ts, rfl, s, hp, hro, hrt, hrr, hrl, htd, htb, htv⟩
    obtain ⟨c, rfl, hc⟩ := int_at hx
    have hi : i < xs.length := (List.getElem?_eq_some_iff.mp hc).1
    have hlr : as.length = rs.length := by rw [Paired.length hrt, List.length_map]
    have few := htb.few
    refine gn ?_
    refine sq_asg (te_cal (ea_cons (ev_var rfl) (ea_cons (ev_I (ev_var rfl) (ev_var rfl) pos) ea_nil)) ⟨z, L, R, C, _, rfl, s _ _ hz3, S, fun t nt => ?_⟩)
    have hn' : (c % (L * R * C) % (L * R * C)).toNat < M := by
      have h1 := Int.emod_nonneg (c % (L * R * C)) (show L * R * C ≠ 0 by omega)
      have h2 := Int.emod_lt_of_pos (c % (L * R * C)) pos
      omega
    revert hn'
    generalize (c % (L * R * C) % (L * R * C)).toNat = n
    intro hn'
    have st : Same H' (upd H' t (.tup ((sN R C n).map V.int))) := (Same.refl H').upd nt
    have ht7 : upd H' t (.tup ((sN R C n).map V.int)) t = some (.tup ((sN R C n).map V.int)) := upd_same
    revert st ht7
    generalize upd H' t (.tup ((sN R C n).map V.int)) = H7
    intro st ht7
    have s7 := s.trans st
    have hro7 := st _ _ hro
    have htd7 := st _ _ htd
    have hp7 := st _ _ hp
    have hrt7 : Tups H7 as (rs.map (sN R C)) := tups_mono hrt fun b xs e => st _ _ e
    refine sq_set (v := .int (c / (L * R * C) % 4)) (ev_I (ev_I (ev_var rfl) (ev_var rfl) (cdB (by omega) (by omega))) ev_c (by show (0 : Int) < 4; decide)) ?_
    have w0 := Int.emod_nonneg (c / (L * R * C)) (show (4 : Int) ≠ 0 by decide)
    refine sq_if (et_test (ev_eqI (ev_var rfl) ev_c)) (fun e => ?_) (fun e => ?_)
    · have e := of_decide_eq_true e
      refine ⟨_, rfl, .inl ⟨rfl, _, SqL.of hro7⟩, _, rfl, ro, _, _, rfl, rfl, hro7, by rw [List.length_map]; omega, ?_⟩
      have k : ∀ b xs, H7 b = some (.tup xs) → upd H7 ro (.lst (as.map V.ref ++ [.ref t])) b = some (.tup xs) := keep_lst0 hro7
      refine rd_ifF (b := false) (et_of (et_or (et_test (ev_eqI (ev_var rfl) ev_c)) fun _ => et_test (ev_eqI (ev_var rfl) ev_c)) (by rw [e]; rfl)) rfl ?_
      refine ⟨_, _, _, as ++ [t], rs ++ [n], ts, rfl, same_at s7 nro3, by rw [upd_ne npr]; exact hp7, by rw [upd_same, List.map_append]; rfl, ?_, ?_, by rw [List.length_append]; show rs.length + 1 ≤ _; omega, by rw [upd_ne (Ne.symm nrt)]; exact htd7, htb, htv⟩
      · rw [List.map_append]
        exact tups_app (tups_mono hrt7 k) (.cons (k _ _ ht7) .nil)
      · intro m hm
        rcases List.mem_append.mp hm with h | h
        · exact hrr m h
        · rw [List.mem_singleton.mp h]; exact hn'
    refine rd_if (et_or (et_test (ev_eqI (ev_var rfl) ev_c)) fun _ => et_test (ev_eqI (ev_var rfl) ev_c)) (fun e2 => ?_) (fun e2 => ?_)
    · have hw : c / (L * R * C) % 4 = 1 ∨ c / (L * R * C) % 4 = 2 := by simpa using e2
      refine rd_dputG (te_op ((ev_I (ev_I (ev_var rfl) (ev_var rfl) (cdB (by omega) (by omega))) ev_c (cdB (by decide) (by decide))) _ (te_op (te_lst (vs := [.int 7, .int 1000000000001]) (ea_cons ev_c (ea_cons (ev_of (ev_I0 (ev_I ev_c ev_c (cpw (by decide) (by decide) (by decide))) ev_c) (by rfl)) ea_nil)) (by show 2 ≤ sizeLine; decide) fun y ny => ?_))))
      refine (ev_I0 (ev_var rfl) ev_c) _ ?_
      have fin : ∀ v : Int, 0 ≤ v → v ≤ 1000000000000 → ∃ a_1 H4, (V.ref td : V) = .ref a_1 ∧ DPut (upd H7 y (.lst [.int 7, .int 1000000000001])) a_1 (.ref t) (.int v) H4 ∧ ∃ (x8 x9 x10 : Option V) (as : List Addr) (rs : List Nat) (ts : List (Nat × V)), [some (.ref a), some (.ref z), some (.int sd), some (.ref D), some (.ref E), some (.int (L * R * C)), some (.ref ro), some (.ref td), some (.int c), some (.ref t), some (.int (c / (L * R * C) % 4))] = [some (.ref a), some (.ref z), some (.int sd), some (.ref D), some (.ref E), some (.int (L * R * C)), some (.ref ro), some (.ref td), x8, x9, x10] ∧ Same H3 H4 ∧ H4 p = some (.lst (xs.map V.int)) ∧
          H4 ro = some (.lst (as.map V.ref)) ∧ Tups H4 as (rs.map (sN R C)) ∧ (∀ n ∈ rs, n < M) ∧ rs.length ≤ i + 1 ∧ H4 td = some (.dT (enc R C ts)) ∧ Tb M ts ∧ TV ts := fun v v0 v1 => by
        have s8 : Same H7 (upd H7 y (.lst [.int 7, .int 1000000000001])) := (Same.refl H7).upd ny
        revert s8
        generalize upd H7 y (.lst [.int 7, .int 1000000000001]) = H8
        intro s8
        have htd8 := s8 _ _ htd7
        refine ⟨td, _, rfl, DPut.t (k := iK (sN R C n)) htd8 (iK_at (s8 _ _ ht7)) (by rw [enc_len]; omega), _, _, _, as, rs, putK ts n (.int v), rfl, same_at (s7.trans s8) ntd3, by rw [upd_ne npt]; exact s8 _ _ hp7, by rw [upd_ne nrt]; exact s8 _ _ hro7, tups_mono hrt7 (fun b xs e => by rw [upd_ne (ne_of (s8 _ _ e) htd8 (fun z => nomatch z))]; exact s8 _ _ e), hrr, by omega, by rw [upd_same, put_enc S], htb.put hn', ?_⟩
        intro x hx
        rcases put_val hx with h | h
        · exact htv x h
        · rw [h]; exact ⟨v, rfl, v0, v1⟩
      rcases hw with e3 | e3
      · rw [e3] at fin ⊢
        refine ⟨y, _, 0, .int 7, rfl, rfl, SqL.of upd_same, rfl, _, _, rfl, rfl, (by show (0 : Int) < 7; decide), _, rfl, _, rfl, ?_⟩
        exact fin _ (Int.emod_nonneg _ (by decide)) (by have := Int.emod_lt_of_pos (c / (L * R * C) / 4) (show (0 : Int) < 7 by decide); omega)
      · rw [e3] at fin ⊢
        refine ⟨y, _, 1, .int 1000000000001, rfl, rfl, SqL.of upd_same, rfl, _, _, rfl, rfl, (by show (0 : Int) < 1000000000001; decide), _, rfl, _, rfl, ?_⟩
        exact fin _ (Int.emod_nonneg _ (by decide)) (by have := Int.emod_lt_of_pos (c / (L * R * C) / 4) (show (0 : Int) < 1000000000001 by decide); omega)
    · exact ⟨_, _, _, as, rs, ts, rfl, s7, hp7, hro7, hrt7, hrr, by omega, htd7, htb, htv⟩
  · rintro σ H7 ⟨x8, x9, x10, as, rs, ts, rfl, s7, hp7, hro7, hrt7, hrr, hrl, htd7, htb, htv⟩
    refine st ?_
    refine rd_tup (vs := [.ref z, .ref D, .ref E, .ref ro, .ref td]) (ea_cons (ev_var rfl) (ea_cons (ev_var rfl) (ea_cons (ev_var rfl) (ea_cons (ev_var rfl) (ea_cons (ev_var rfl) ea_nil))))) (by show 5 ≤ sizeLine; decide) fun t nt => ?_
    have s8 : Same H7 (upd H7 t (.tup [.ref z, .ref D, .ref E, .ref ro, .ref td])) := (Same.refl H7).upd nt
    have s27 := s3'.trans s7
    refine q _ t z D E ro td ⟨L, R, C, M, cs, ws, rs, ts⟩ ((s3.trans s7).trans s8) upd_same ⟨?_, ?_, ?_, ?_, ?_⟩ ⟨S, (show (M : Int) = L * R * C by omega), (show M ≤ 128 by omega), ?_, hpp, ?_, hvv, ?_, hrr, htb, htv⟩
    · exact s8 _ _ (s7 _ _ hz3)
    · exact AtL.same ⟨us, hD2, hus⟩ (s27.trans s8)
    · exact s8 _ _ (s7 _ _ hE3)
    · exact AtL.same ⟨as, hro7, hrt7⟩ s8
    · exact s8 _ _ htd7
    · show (cs.length : Int) = L
      rw [hlc]; omega
    · show (ws.length : Int) = L - 1
      rw [hlw]; omega
    · show rs.length ≤ 63
      rw [List.length_map] at hrl; omega
theorem pd_out {g : Gd} {c d : T3} (h : insC g c = false ∨ insC g d = false) : pd g c d = .out := by
  unfold pd
  rcases h with h | h
  · rw [h]; rfl
  · rw [h, Bool.and_false]; rfl
theorem pd_in {g : Gd} {c d : T3} (h1 : insC g c = true) (h2 : insC g d = true) : pd g c d = if (bes c d && (opn g c && opn g d)) = true then .num (price g c d) else .nost := by
  unfold pd opn
  rw [h1, h2]
  rfl
theorem insC_at {g : Gd} {x y w : Int} : insC g [x, y, w] = decide (Ins g.L g.R g.C x y w) := rfl
theorem ok_Neigh {cFloor cWireError cNotAStep cOutOfFloor cMS : Addr} {f : Addr} {fd : FuncData} (F : Fun K "neighbours" "neighbours" sNeigh f fd) (T : Txt K mg cFloor cWireError cNotAStep cOutOfFloor cMS) : FnOk P w K mg base CX0 1 f fd ["one", "two"] spNeigh := by
  have sc : FnScope ["one", "two"] ["one", "two"] (defScope sNeigh) := ⟨rfl, rfl, rfl, by decide +kernel, rfl, by decide +kernel, by decide +kernel⟩
  refine F.ok sc (fun vs H Q E h => by repeat (first | (obtain ⟨rfl, _⟩ := h; rfl) | (obtain ⟨_, h⟩ := h))) (fun cdv A outer s H vs Q E hr h => ?_)
  obtain ⟨a, b, x, y, w, x', y', w', rfl, ha, hb, q⟩ := h
  refine ⟨_, (pss_one (ps_ret (pe_cmpR op_eq (pe_op op_add (pe_op op_add (pe_callB call_abs (by rfl) T.abs_ bt_abs (pa_cons (pe_op op_sub (pe_ix ix_tup (pv 0) pe_int (fun _ _ => rfl)) (pe_ix ix_tup (pv 1) pe_int (fun _ _ => rfl))) pa_nil)) (pe_callB call_abs (by rfl) T.abs_ bt_abs (pa_cons (pe_op op_sub (pe_ix ix_tup (pv 0) pe_int (fun _ _ => rfl)) (pe_ix ix_tup (pv 1) pe_int (fun _ _ => rfl))) pa_nil))) (pe_callB call_abs (by rfl) T.abs_ bt_abs (pa_cons (pe_op op_sub (pe_ix ix_tup (pv 0) pe_int (fun _ _ => rfl)) (pe_ix ix_tup (pv 1) pe_int (fun _ _ => rfl))) pa_nil))) pe_int (nomark _)))), ?_⟩
  refine rd_ret (ev_of (ev_eqI (ev_I0 (ev_I0 (ev_cb (v := .int (if x - x' < 0 then -(x - x') else x - x')) (ea_cons (ev_I0 (ev_ixT (v := .int x) (ev_var rfl) ev_c (SqT.of ha) rfl) (ev_ixT (v := .int x') (ev_var rfl) ev_c (SqT.of hb) rfl)) ea_nil) fun Q' q' => ⟨_, rfl, q'⟩) (ev_cb (v := .int (if y - y' < 0 then -(y - y') else y - y')) (ea_cons (ev_I0 (ev_ixT (v := .int y) (ev_var rfl) ev_c (SqT.of ha) rfl) (ev_ixT (v := .int y') (ev_var rfl) ev_c (SqT.of hb) rfl)) ea_nil) fun Q' q' => ⟨_, rfl, q'⟩)) (ev_cb (v := .int (if w - w' < 0 then -(w - w') else w - w')) (ea_cons (ev_I0 (ev_ixT (v := .int w) (ev_var rfl) ev_c (SqT.of ha) rfl) (ev_ixT (v := .int w') (ev_var rfl) ev_c (SqT.of hb) rfl)) ea_nil) fun Q' q' => ⟨_, rfl, q'⟩)) ev_c) ?_) q
  rw [bes_abs]
  congr 1
  refine decide_eq_decide.mpr ?_
  rw [abs_if, abs_if, abs_if]
  omega
theorem ok_IsStep {cFloor cWireError cNotAStep cOutOfFloor cMS : Addr} {f : Addr} {fd : FuncData} (F : Fun K "is_step" "Floor.is_step" sIsStep f fd) (T : Txt K mg cFloor cWireError cNotAStep cOutOfFloor cMS) (gNeigh : Callee P w K mg base "neighbours" 1 ["one", "two"] spNeigh) (gIsOpen : MCallee P w K mg base cFloor "is_open" 2 ["self", "spot"] (spIsOpen cFloor)) : FnOk P w K mg base CX0 3 f fd ["self", "one", "two"] (spIsStep cFloor) := by
  have sc : FnScope ["self", "one", "two"] ["self", "one", "two"] (defScope sIsStep) := ⟨rfl, rfl, rfl, by decide +kernel, rfl, by decide +kernel, by decide +kernel⟩
  refine F.ok sc (fun vs H Q E h => by repeat (first | (obtain ⟨rfl, _⟩ := h; rfl) | (obtain ⟨_, h⟩ := h))) (fun cdv A outer s H vs Q E hr h => ?_)
  obtain ⟨p, pr, vi, rd, td, a, b, g, x, y, w, x', y', w', rfl, hF, hg, ha, hb, q⟩ := h
  refine ⟨_, (pss_one (ps_ret (pe_and (pe_cal gNeigh (hr.mono (by decide)) (by rfl) (pa_cons (pv 1) (pa_cons (pv 2) pa_nil))) (pe_and (pe_met (pv 0) T.cl_Floor gIsOpen (hr.mono (by decide)) (pa_cons (pv 1) pa_nil)) (pe_one (pe_met (pv 0) T.cl_Floor gIsOpen (hr.mono (by decide)) (pa_cons (pv 2) pa_nil))))))), ?_⟩
  obtain ⟨dx, z, h1, h2⟩ := hF.ex
  refine rd_te ⟨_, rfl, _, rfl, a, b, x, y, w, x', y', w', rfl, ha, hb, _, rfl, ?_⟩
  cases e1 : bes [x, y, w] [x', y', w'] with
  | false => rw [e1] at q; exact iteF q
  | true =>
    rw [e1] at q
    refine iteT ⟨_, rfl, p, dx, _, rfl, h1, ln9, _, rfl, p, pr, vi, rd, td, a, g, x, y, w, rfl, hF, hg, ha, _, rfl, ?_⟩
    cases e2 : opn g [x, y, w] with
    | false => rw [e2] at q; exact iteF q
    | true => rw [e2] at q; exact iteT ⟨_, rfl, p, dx, _, rfl, h1, ln9, _, rfl, p, pr, vi, rd, td, b, g, x', y', w', rfl, hF, hg, hb, q⟩
theorem ok_StepP {cFloor cWireError cNotAStep cOutOfFloor cMS : Addr} {f : Addr} {fd : FuncData} (F : Fun K "step_price" "Floor.step_price" sStepP f fd) (hB : K.In base) (T : Txt K mg cFloor cWireError cNotAStep cOutOfFloor cMS) (gCInside : CalleeX P w K mg base "check_inside" 2 ["sizes", "spot"] (spCInside cOutOfFloor)) (gIsStep : MCallee P w K mg base cFloor "is_step" 3 ["self", "one", "two"] (spIsStep cFloor)) (gPriced : MCallee P w K mg base cFloor "priced" 1 ["self", "one", "two"] (spPriced cFloor)) : FnOk P w K mg base (CX1 P w) 4 f fd ["self", "one", "two"] (spStepP cFloor cOutOfFloor cNotAStep) := by
  have sc : FnScope ["self", "one", "two"] ["self", "one", "two"] (defScope sStepP) := ⟨rfl, rfl, rfl, by decide +kernel, rfl, by decide +kernel, by decide +kernel⟩
  refine F.okX sc (fun vs H Q E h => by repeat (first | (obtain ⟨rfl, _⟩ := h; rfl) | (obtain ⟨_, h⟩ := h))) (fun cdv A outer s H vs Q E hr h => ?_)
  obtain ⟨p, pr, vi, rd, td, a, b, g, x, y, w, x', y', w', rfl, hF, hg, ha, hb, ⟨b1, b2, b3⟩, ⟨b4, b5, b6⟩, q⟩ := h
  refine ⟨_, (pss_cons (ps_expr (pe_calX gCInside (hr.mono (by decide)) (by rfl) comes1 (pa_cons (pe_fld (pv 0) rfl) (pa_cons (pv 1) pa_nil))))
  (pss_cons (ps_expr (pe_calX gCInside (hr.mono (by decide)) (by rfl) comes1 (pa_cons (pe_fld (pv 0) rfl) (pa_cons (pv 2) pa_nil))))
  (pss_cons (ps_if (pt_not (pt_val (pe_met (pv 0) T.cl_Floor gIsStep (hr.mono (by decide)) (pa_cons (pv 1) (pa_cons (pv 2) pa_nil)))))
  (pss_one (ps_raise (own_of hB T.eNotAStep.bd T.eNotAStep.ex) PySem.F.excBase_ValueError rfl (by rfl) raises1 (pa_cons (pe_join (FPs.cons (fp_str pe_str) (FPs.cons (fp_val hr (pv 1)) (FPs.cons (fp_str pe_str) (FPs.cons (fp_val hr (pv 2)) FPs.nil))))) pa_nil)))
  pss_nil)
  (pss_one (ps_ret (pe_met (pv 0) T.cl_Floor gPriced (hr.mono (by decide)) (pa_cons (pv 1) (pa_cons (pv 2) pa_nil)))))))), ?_⟩
  obtain ⟨dx, z, h1, h2⟩ := hF.ex
  refine ⟨_, rfl, p, cFloor, dx, _, _, rfl, h1, T.cl_Floor, T.na_Floor_sizes, lk1, _, rfl, z, a, g.L, g.R, g.C, x, y, w, rfl, h2, ha, bd_szs hg.S, ⟨b1, b2, b3⟩, fun hi => ?_, fun ni => ?_⟩
  rotate_left
  · rw [pd_out (.inl (by rw [insC_at]; exact decide_eq_false ni))] at q
    exact q
  refine ⟨_, rfl, p, cFloor, dx, _, _, rfl, h1, T.cl_Floor, T.na_Floor_sizes, lk1, _, rfl, z, b, g.L, g.R, g.C, x', y', w', rfl, h2, hb, bd_szs hg.S, ⟨b4, b5, b6⟩, fun hi' => ?_, fun ni => ?_⟩
  rotate_left
  · rw [pd_out (.inr (by rw [insC_at]; exact decide_eq_false ni))] at q
    exact q
  rw [pd_in (by rw [insC_at]; exact decide_eq_true hi) (by rw [insC_at]; exact decide_eq_true hi')] at q
  refine st ?_
  refine sq_ifof ⟨_, rfl, p, dx, _, rfl, h1, ln11, _, rfl, _, rfl, p, pr, vi, rd, td, a, b, g, x, y, w, x', y', w', rfl, hF, hg, ha, hb, _, rfl, ?_⟩
  cases e : (bes [x, y, w] [x', y', w'] && (opn g [x, y, w] && opn g [x', y', w'])) with
  | false =>
    rw [e] at q
    refine iteT ?_
    exact rd_raise (t := tNil) ⟨trivial, ⟨_, rfl, rfl, .tup a [x, y, w] (SqT.of ha) (Nat.le_refl 3) (lg3 b1 b2 b3)⟩, trivial, ⟨_, rfl, rfl, .tup b [x', y', w'] (SqT.of hb) (Nat.le_refl 3) (lg3 b4 b5 b6)⟩, trivial⟩ q
  | true =>
    rw [e] at q
    refine iteF ?_
    have hn : Beside x y w x' y' w' := by
      rw [Bool.and_eq_true] at e
      have hm : [x', y', w'] ∈ rndC [x, y, w] := of_decide_eq_true e.1
      exact hm
    exact rd_te ⟨_, rfl, p, dx, _, rfl, h1, ln10, _, rfl, _, rfl, p, pr, vi, rd, td, a, b, g, x, y, w, x', y', w', rfl, hF, hg, ha, hb, hi, hi', hn, q⟩
theorem lc_zipS {K : PySem.W.Frag} {a b : Addr} {xs ys : List V} {σ0 : St} {g : TG} {tt : TT} {te : TE} {H1 : Hp} {D : Addr} {Q : Hp → Prop} (hle : ys.length ≤ xs.length) (Pv : Nat → St → Hp → Prop) (h0 : Pv 0 σ0 (upd H1 D (.lst [])))
    (hl : ∀ i τ H, i ≤ ys.length → Pv i τ H → SqL K H a xs ∧ SqL K H b ys)
    (hs : ∀ i x y p τ H, xs[i]? = some x → ys[i]? = some y → H p = none → Pv i τ H → g (.ref p) τ (upd H p (.tup [x, y])) fun τ2 H2 => tt τ2 H2 fun b H3 =>
      if b = true then te τ2 H3 fun v H4 => ∃ acc, H4 D = some (.lst acc) ∧ acc.length < sizeLine ∧ Pv (i + 1) τ2 (upd H4 D (.lst (acc ++ [v]))) else Pv (i + 1) τ2 H3)
    (hd : ∀ τ H, Pv ys.length τ H → Q H) : lcW σ0 g tt te (ItzL K a b) H1 D Q := by
  refine ⟨fun i m τ H => m = ys.length - i ∧ i ≤ ys.length ∧ Pv i τ H, ⟨ys.length, by simp, Nat.zero_le _, h0⟩, ?_⟩
  rintro i m τ H ⟨rfl, hi, p⟩
  obtain ⟨q1, q2⟩ := hl i τ H hi p
  by_cases hlt : i < ys.length
  · refine .inr ⟨⟨xs, ys, xs[i], ys[i], q1, q2, by simp [show i < xs.length by omega], by simp [hlt]⟩, Pv (i + 1), fun τ' H' p' => ⟨ys.length - (i + 1), by omega, rfl, hlt, p'⟩, fun x H' z => ?_⟩
    obtain ⟨P, y1, y2, hn, rfl, rfl, e1, e2⟩ := z
    exact hs i y1 y2 P τ _ (e1 xs q1) (e2 ys q2) hn p
  · have e : i = ys.length := by omega
    subst e
    exact .inl ⟨⟨xs, ys, q1, q2, .inr (Nat.le_refl _)⟩, hd τ H p⟩
theorem cut1 {xs : List V} : cutV xs (some 1) none = xs.drop 1 := by
  unfold cutV
  rw [HT.sIx_none, show (some (1 : Int)) = some ((1 : Nat) : Int) from rfl, HT.sIx_nat, List.take_of_length_le (by rw [List.length_drop]; omega)]
  cases xs with
  | nil => rfl
  | cons a r => rw [Nat.min_eq_left (by simp)]
theorem sum_snoc (ns : List Int) (v : Int) : (ns ++ [v]).sum = ns.sum + v := by rw [List.sum_append]; simp
theorem ok_WayP {cFloor cWireError cNotAStep cOutOfFloor cMS : Addr} {f : Addr} {fd : FuncData} (F : Fun K "way_price" "Floor.way_price" sWayP f fd) (T : Txt K mg cFloor cWireError cNotAStep cOutOfFloor cMS) (gStepP : MCalleeX P w K mg base cFloor "step_price" 4 ["self", "one", "two"] (spStepP cFloor cOutOfFloor cNotAStep)) : FnOk P w K mg base (CX1 P w) 5 f fd ["self", "way"] (spWayP cFloor cOutOfFloor cNotAStep) := by
  have sc : FnScope ["self", "way"] ["self", "way"] (defScope sWayP) := ⟨rfl, rfl, rfl, by decide +kernel, rfl, by decide +kernel, by decide +kernel⟩
  refine F.okX sc (fun vs H Q E h => by repeat (first | (obtain ⟨rfl, _⟩ := h; rfl) | (obtain ⟨_, h⟩ := h))) (fun cdv A outer s H vs Q E hr h => ?_)
  obtain ⟨p, pr, vi, rd, td, l, g, cs, rfl, hF, hg, ⟨as, e1, e2⟩, p3, hz, q⟩ := h
  refine ⟨_, (pss_one (ps_ret (pe_callB (call_sumL rfl) (by rfl) T.sum_ bt_sum (pa_cons (pe_lcX (ls := ["one", "two"]) (ys := ["self"]) (ix := [0]) rfl rfl rfl lets1 rfl ⟨rfl, by rfl, by rfl, by rfl, by rfl, rfl⟩ (pi_zipL (by rfl) T.zip_ (pa_cons (pv 1) (pa_cons (pe_slice sl_list (pv 1) (po_some pe_int) po_none) pa_nil))) (fun _ _ _ _ _ _ => (pg_tupK (K := K) (n := 2) rfl rfl (pgs_cons (pg_name (i := 0) (show (["one", "two", "self"] : List Str).Nodup by decide +kernel) rfl (Or.inl rfl) (hf := .inr rfl)) (pgs_cons (pg_name (i := 1) (show (["one", "two", "self"] : List Str).Nodup by decide +kernel) rfl (Or.inl rfl) (hf := .inr rfl)) pgs_nil)) rfl rfl)) (fun _ _ _ _ _ _ => pf_nil) (fun _ _ _ _ _ _ hx => (pe_metX (pv 2) T.cl_Floor gStepP (hr.mono (by decide)) hx (pa_cons (pv 0) (pa_cons (pv 1) pa_nil))))) pa_nil)))), ?_⟩
  have hsz : sizeLine = 2 ^ 24 := rfl
  have len : as.length = cs.length := Paired.length e2
  refine rd_te ⟨_, rfl, _, rfl, 1, rfl, l, _, rfl, SqL.of e1, fun sl nsl => ?_⟩
  have hsl : upd H sl (.lst (cutV (as.map V.ref) (some 1) none)) sl = some (.lst ((as.drop 1).map V.ref)) := by rw [upd_same, cut1, List.map_drop]
  have s4 : Same H (upd H sl (.lst (cutV (as.map V.ref) (some 1) none))) := (Same.refl H).upd nsl
  revert hsl s4
  generalize upd H sl (.lst (cutV (as.map V.ref) (some 1) none)) = H4
  intro hsl s4
  refine ⟨l, sl, rfl, ⟨_, SqL.of (s4 _ _ e1)⟩, ⟨_, SqL.of hsl⟩, fun D nD => ?_⟩
  refine lc_zipS (K := K) (xs := as.map V.ref) (ys := (as.drop 1).map V.ref) (by simp) (fun i τ H' => ∃ (x0 x1 : Option V) (ns : List Int), τ = [x0, x1, some (.ref p)] ∧ Same H4 H' ∧ H' D = some (.lst (ns.map V.int)) ∧ ns.length = i ∧ Good g cs i ns.sum) ⟨none, none, [], rfl, (Same.refl H4).upd nD, upd_same, rfl, Good.zero⟩ (fun i τ H' _ ⟨_, _, _, _, s, _⟩ => ⟨SqL.of (s _ _ (s4 _ _ e1)), SqL.of (s _ _ hsl)⟩) ?_ ?_
  · rintro i x y t τ H5 hx hy nt ⟨x0, x1, ns, rfl, s5, hD, hn, hG⟩
    obtain ⟨a1, h1, rfl⟩ := at_ref hx
    obtain ⟨a2, h2, rfl⟩ := at_ref hy
    rw [List.getElem?_drop, show 1 + i = i + 1 by omega] at h2
    obtain ⟨c, hc, hac⟩ := tups_at e2 h1
    obtain ⟨d, hd, had⟩ := tups_at e2 h2
    obtain ⟨x, y, w, rfl, bc⟩ := p3 c (List.mem_of_getElem? hc)
    obtain ⟨x', y', w', rfl, bd⟩ := p3 d (List.mem_of_getElem? hd)
    refine ⟨t, _, rfl, SqT.of upd_same, rfl, _, _, rfl, _, _, rfl, rfl, ?_⟩
    have s6 : Same H5 (upd H5 t (.tup [.ref a1, .ref a2])) := (Same.refl H5).upd nt
    revert s6
    generalize upd H5 t (.tup [.ref a1, .ref a2]) = H6
    intro s6
    have s' := s4.trans (s5.trans s6)
    obtain ⟨dx, z, g1, g2⟩ := hF.ex
    refine lc_el ⟨_, rfl, p, dx, _, rfl, s' _ _ g1, ln12, _, rfl, _, rfl, p, pr, vi, rd, td, a1, a2, g, x, y, w, x', y', w', rfl, hF.same s', hg, s' _ _ hac, s' _ _ had, bc, bd, ?_⟩
    have hi : i + 1 < as.length := (List.getElem?_eq_some_iff.mp h2).1
    cases e : pd g [x, y, w] [x', y', w'] with
    | num v =>
      refine ⟨ns.map V.int, s6 _ _ hD, by rw [List.length_map]; omega, _, _, ns ++ [v], rfl, same_at (s5.trans s6) nD, by rw [upd_same, List.map_append]; rfl, by rw [List.length_append, hn]; rfl, ?_⟩
      rw [sum_snoc]
      exact hG.step hc hd e
    | out =>
      have q' := q H6 s'
      rw [hG.stop hc hd (by rw [e]; exact fun _ z => nomatch z), e] at q'
      exact q'
    | nost =>
      have q' := q H6 s'
      rw [hG.stop hc hd (by rw [e]; exact fun _ z => nomatch z), e] at q'
      exact q'
  · rintro τ H5 ⟨x0, x1, ns, rfl, s5, hD, hn, hG⟩
    refine ⟨D, ns, rfl, SqL.of hD, ?_⟩
    have q' := q H5 (s4.trans s5)
    rw [List.length_map, List.length_drop] at hG
    rw [hG.done (by omega)] at q'
    exact q'
theorem ok_IsSpot {cFloor cWireError cNotAStep cOutOfFloor cMS : Addr} {f : Addr} {fd : FuncData} (F : Fun K "_law_is_spot" "_law_is_spot" sIsSpot f fd) (T : Txt K mg cFloor cWireError cNotAStep cOutOfFloor cMS) (gWhole : Callee P w K mg base "_law_is_whole" 1 ["found"] spWhole) : FnOk P w K mg base CX0 2 f fd ["found"] spIsSpot := by
  have sc : FnScope ["found"] ["found"] (defScope sIsSpot) := ⟨rfl, rfl, rfl, by decide +kernel, rfl, by decide +kernel, by decide +kernel⟩
  refine F.ok sc (fun vs H Q E h => by repeat (first | (obtain ⟨rfl, _⟩ := h; rfl) | (obtain ⟨_, h⟩ := h))) (fun cdv A outer s H vs Q E hr h => ?_)
  obtain ⟨a, x, y, w, rfl, ha, q⟩ := h
  refine ⟨_, (pss_cons (ps_if (pw_or (pt_not (pt_val (pe_callB call_isinst (by rfl) T.isinstance_ bt_isinstance (pa_cons (pv 0) (pa_cons (pe_bltn (v := .ty "tuple") (by rfl) T.tuple_ bt_tuple (by rfl)) pa_nil))))) (pw_or1 (pt_cmpR op_ne (pe_callB call_len (by rfl) T.len_ bt_len (pa_cons (pv 0) pa_nil)) pe_int (nomark _)))).pt
  (pss_one (ps_ret pe_bl))
  pss_nil)
  (pss_one (ps_ret (pe_and (pe_cal gWhole (hr.mono (by decide)) (by rfl) (pa_cons (pe_ix ix_tup (pv 0) pe_int (fun _ _ => rfl)) pa_nil)) (pe_and (pe_cal gWhole (hr.mono (by decide)) (by rfl) (pa_cons (pe_ix ix_tup (pv 0) pe_int (fun _ _ => rfl)) pa_nil)) (pe_one (pe_cal gWhole (hr.mono (by decide)) (by rfl) (pa_cons (pe_ix ix_tup (pv 0) pe_int (fun _ _ => rfl)) pa_nil)))))))), ?_⟩
  refine sq_ifF (b := false) (et_or (a := false) (et_not (et_B (ev_cb (v := .bl true) (ea_cons (ev_var rfl) (ea_cons ev_c ea_nil)) fun Q' q' => ⟨_, _, _, _, _, rfl, .ty "tuple", .tup ha, T.tt, q'⟩))) fun _ => et_test (ev_neI (ev_cb (v := .int 3) (ea_cons (ev_var rfl) ea_nil) fun Q' q' => ⟨_, _, rfl, .inr ⟨_, SqT.of ha, rfl⟩, q'⟩) ev_c)) rfl ?_
  exact rd_ret (ev_and (a := true) (ev_cal (sp := spWhole) (v := .bl true) (ea_cons (ev_ixT (v := .int x) (ev_var rfl) ev_c (SqT.of ha) rfl) ea_nil) fun Q' q' => ⟨x, rfl, q'⟩) fun _ => ev_and (a := true) (ev_cal (sp := spWhole) (v := .bl true) (ea_cons (ev_ixT (v := .int y) (ev_var rfl) ev_c (SqT.of ha) rfl) ea_nil) fun Q' q' => ⟨y, rfl, q'⟩) fun _ => (ev_cal (sp := spWhole) (v := .bl true) (ea_cons (ev_ixT (v := .int w) (ev_var rfl) ev_c (SqT.of ha) rfl) ea_nil) fun Q' q' => ⟨w, rfl, q'⟩)) q
theorem ok_LIns {cFloor cWireError cNotAStep cOutOfFloor cMS : Addr} {f : Addr} {fd : FuncData} (F : Fun K "_law_inside" "_law_inside" sLIns f fd) (T : Txt K mg cFloor cWireError cNotAStep cOutOfFloor cMS) : FnOk P w K mg base CX0 1 f fd ["sizes", "spot"] spLIns := by
  have sc : FnScope ["sizes", "spot"] ["sizes", "spot"] (defScope sLIns) := ⟨rfl, rfl, rfl, by decide +kernel, rfl, by decide +kernel, by decide +kernel⟩
  refine F.ok sc (fun vs H Q E h => by repeat (first | (obtain ⟨rfl, _⟩ := h; rfl) | (obtain ⟨_, h⟩ := h))) (fun cdv A outer s H vs Q E hr h => ?_)
  obtain ⟨z, b, L, R, C, x, y, w, rfl, hz, hb, q⟩ := h
  refine ⟨_, (pss_one (ps_ret (pe_and (pe_chain op_le op_lt pe_int (pe_ix ix_tup (pv 1) pe_int (fun _ _ => rfl)) (pe_ix ix_tup (pv 0) pe_int (fun _ _ => rfl))) (pe_and (pe_chain op_le op_lt pe_int (pe_ix ix_tup (pv 1) pe_int (fun _ _ => rfl)) (pe_ix ix_tup (pv 0) pe_int (fun _ _ => rfl))) (pe_one (pe_chain op_le op_lt pe_int (pe_ix ix_tup (pv 1) pe_int (fun _ _ => rfl)) (pe_ix ix_tup (pv 0) pe_int (fun _ _ => rfl)))))))), ?_⟩
  exact rd_ret (ev_of (ev_and (ev_chain ev_c (ev_ixT (v := .int x) (ev_var rfl) ev_c (SqT.of hb) rfl) (ev_ixT (v := .int L) (ev_var rfl) ev_c (SqT.of hz) rfl)) fun _ => ev_and (ev_chain ev_c (ev_ixT (v := .int y) (ev_var rfl) ev_c (SqT.of hb) rfl) (ev_ixT (v := .int R) (ev_var rfl) ev_c (SqT.of hz) rfl)) fun _ => (ev_chain ev_c (ev_ixT (v := .int w) (ev_var rfl) ev_c (SqT.of hb) rfl) (ev_ixT (v := .int C) (ev_var rfl) ev_c (SqT.of hz) rfl))) (congrArg V.bl ins_b)) q
theorem ok_LBes {cFloor cWireError cNotAStep cOutOfFloor cMS : Addr} {f : Addr} {fd : FuncData} (F : Fun K "_law_beside" "_law_beside" sLBes f fd) (T : Txt K mg cFloor cWireError cNotAStep cOutOfFloor cMS) : FnOk P w K mg base CX0 1 f fd ["one", "two"] spLBes := by
  have sc : FnScope ["one", "two", "unlike"] ["one", "two"] (defScope sLBes) := ⟨rfl, rfl, rfl, by decide +kernel, rfl, by decide +kernel, by decide +kernel⟩
  refine F.ok sc (fun vs H Q E h => by repeat (first | (obtain ⟨rfl, _⟩ := h; rfl) | (obtain ⟨_, h⟩ := h))) (fun cdv A outer s H vs Q E hr h => ?_)
  obtain ⟨a, b, x, y, w, x', y', w', rfl, ha, hb, q⟩ := h
  refine ⟨_, (pss_cons (ps_lcset (i := 2) (ls := ["k"]) (ys := ["one", "two"]) (ix := [0, 1]) rfl sc.nd rfl (Or.inl rfl) ⟨rfl, by rfl, by rfl, by rfl, by rfl, rfl⟩ (pi_range1 (by rfl) T.range_ (pa_cons pe_int pa_nil)) (fun _ _ _ _ _ => (pg_name (i := 0) (show (["k", "one", "two"] : List Str).Nodup by decide +kernel) rfl (Or.inl rfl))) (fun _ _ _ _ _ => (pf_one (pt_cmpR op_ne (pe_ix (ix_tupK (K := K) rfl) (pv 1) (pv 0) (fun _ _ => rfl)) (pe_ix (ix_tupK (K := K) rfl) (pv 2) (pv 0) (fun _ _ => rfl)) (nomark _)))) (fun _ _ _ _ _ => (pv 0)))
  (pss_one (ps_ret (pe_and (pe_cmpR op_eq (pe_callB call_len (by rfl) T.len_ bt_len (pa_cons (pv 2) pa_nil)) pe_int (nomark _)) (pe_one (pe_cmpR op_eq (pe_callB call_abs (by rfl) T.abs_ bt_abs (pa_cons (pe_op op_sub (pe_ix ix_tup (pv 0) (pe_ix ix_list (pv 2) pe_int (fun _ _ => rfl)) (fun _ _ => rfl)) (pe_ix ix_tup (pv 1) (pe_ix ix_list (pv 2) pe_int (fun _ _ => rfl)) (fun _ _ => rfl))) pa_nil)) pe_int (nomark _))))))), ?_⟩
  have hsz : sizeLine = 2 ^ 24 := rfl
  refine sq_lc1 (j := 3) (ea_cons ev_c ea_nil) (by decide) (by decide) fun D nD => ?_
  generalize hus : (fun i : Nat => ((List.range i).filter fun k => !decide ([x, y, w].getD k 0 = [x', y', w'].getD k 0)).map fun k : Nat => (k : Int)) = us
  have lus : ∀ i, (us i).length ≤ i := fun i => by
    rw [← hus]
    show (List.map _ _).length ≤ i
    rw [List.length_map]
    exact Nat.le_trans (List.length_filter_le _ _) (by rw [List.length_range]; exact Nat.le_refl _)
  refine lc_range (fun i τ H' => ∃ x0 : Option V, τ = [x0, some (.ref a), some (.ref b)] ∧ H' = upd H D (.lst ((us i).map V.int))) ⟨none, rfl, by rw [← hus]; rfl⟩ ?_ ?_
  · rintro i τ H' hi ⟨x0, rfl, rfl⟩
    have sD : Same H (upd H D (.lst ((us i).map V.int))) := (Same.refl H).upd nD
    have a1 : atI [V.int x, V.int y, V.int w] (0 + (i : Int)) = some (.int ([x, y, w].getD i 0)) := by
      rcases show i = 0 ∨ i = 1 ∨ i = 2 by omega with rfl | rfl | rfl <;> rfl
    have a2 : atI [V.int x', V.int y', V.int w'] (0 + (i : Int)) = some (.int ([x', y', w'].getD i 0)) := by
      rcases show i = 0 ∨ i = 1 ∨ i = 2 by omega with rfl | rfl | rfl <;> rfl
    have u1 : us (i + 1) = us i ++ if (!decide ([x, y, w].getD i 0 = [x', y', w'].getD i 0)) = true then [(i : Int)] else [] := by
      rw [← hus]
      show List.map _ _ = List.map _ _ ++ _
      rw [List.range_succ, List.filter_append, List.map_append]
      congr 1
      rw [List.filter_cons]
      split <;> rfl
    refine gn ((et_test (ev_neI (ev_ixT (v := .int ([x, y, w].getD i 0)) (ev_var rfl) (ev_var rfl) (SqT.of (sD _ _ ha)) a1) (ev_ixT (v := .int ([x', y', w'].getD i 0)) (ev_var rfl) (ev_var rfl) (SqT.of (sD _ _ hb)) a2))) _ ?_)
    cases e : (!decide ([x, y, w].getD i 0 = [x', y', w'].getD i 0)) with
    | true =>
      rw [e, if_pos rfl] at u1
      refine iteT ⟨_, rfl, _, upd_same, by rw [List.length_map]; have := lus i; omega, _, rfl, ?_⟩
      rw [upd_upd, u1, List.map_append, Int.zero_add]; rfl
    | false =>
      rw [e, if_neg (by decide), List.append_nil] at u1
      exact iteF ⟨_, rfl, by rw [u1]⟩
  · rintro τ H' ⟨x0, rfl, rfl⟩
    have sD : Same H (upd H D (.lst ((us 3).map V.int))) := (Same.refl H).upd nD
    have u3 : us 3 = (if x = x' then [] else [0]) ++ ((if y = y' then [] else [1]) ++ (if w = w' then [] else [2])) := by
      rw [← hus]
      show List.map _ (List.filter _ [0, 1, 2]) = _
      by_cases ex : x = x' <;> by_cases ey : y = y' <;> by_cases ew : w = w' <;> simp [ex, ey, ew]
    by_cases hl : (us 3).length = 1
    · have hu : ∃ u xu yu : Int, us 3 = [u] ∧ atI [V.int x, V.int y, V.int w] u = some (.int xu) ∧ atI [V.int x', V.int y', V.int w'] u = some (.int yu) ∧ bes [x, y, w] [x', y', w'] = decide ((xu - yu).natAbs = 1) := by
        by_cases ex : x = x'
        · by_cases ey : y = y'
          · by_cases ew : w = w'
            · simp [u3, ex, ey, ew] at hl
            · exact ⟨2, w, w', by rw [u3, if_pos ex, if_pos ey, if_neg ew]; rfl, rfl, rfl, by rw [bes_abs]; exact decide_eq_decide.mpr (by omega)⟩
          · by_cases ew : w = w'
            · exact ⟨1, y, y', by rw [u3, if_pos ex, if_neg ey, if_pos ew]; rfl, rfl, rfl, by rw [bes_abs]; exact decide_eq_decide.mpr (by omega)⟩
            · simp [u3, ex, ey, ew] at hl
        · by_cases ey : y = y'
          · by_cases ew : w = w'
            · exact ⟨0, x, x', by rw [u3, if_neg ex, if_pos ey, if_pos ew]; rfl, rfl, rfl, by rw [bes_abs]; exact decide_eq_decide.mpr (by omega)⟩
            · simp [u3, ex, ey, ew] at hl
          · by_cases ew : w = w' <;> simp [u3, ex, ey, ew] at hl
      obtain ⟨u, xu, yu, hu, h1, h2, hbs⟩ := hu
      have at0 : atI ((us 3).map V.int) 0 = some (.int u) := by rw [hu]; rfl
      refine rd_ret (ev_of (c := .bl (bes [x, y, w] [x', y', w'])) (ev_and (a := true) (ev_of (ev_eqI (ev_cb (v := .int (((us 3).map V.int).length : Nat)) (ea_cons (ev_var rfl) ea_nil) fun Q' q' => ⟨_, _, rfl, .inl ⟨_, SqL.of upd_same, rfl⟩, q'⟩) ev_c) (congrArg V.bl (decide_eq_true (by rw [List.length_map]; omega)))) fun _ => ev_eqI (ev_cb (v := .int (if xu - yu < 0 then -(xu - yu) else xu - yu)) (ea_cons (ev_I0 (ev_ixT (v := .int xu) (ev_var rfl) (ev_ixL (v := .int u) (ev_var rfl) ev_c (SqL.of upd_same) at0) (SqT.of (sD _ _ ha)) h1) (ev_ixT (v := .int yu) (ev_var rfl) (ev_ixL (v := .int u) (ev_var rfl) ev_c (SqL.of upd_same) at0) (SqT.of (sD _ _ hb)) h2)) ea_nil) fun Q' q' => ⟨_, rfl, q'⟩) ev_c) ?_) (q _ sD)
      rw [hbs, abs_if, Bool.true_and]
      congr 1
      exact decide_eq_decide.mpr (by omega)
    · have hb0 : bes [x, y, w] [x', y', w'] = false := by
        rw [bes_abs]
        refine decide_eq_false ?_
        by_cases ex : x = x' <;> by_cases ey : y = y' <;> by_cases ew : w = w' <;> simp [u3, ex, ey, ew] at hl <;> omega
      have q' := q _ sD
      rw [hb0] at q'
      exact rd_ret (ev_of (c := .bl false) (ev_and (a := false) (b := false) (ev_of (ev_eqI (ev_cb (v := .int (((us 3).map V.int).length : Nat)) (ea_cons (ev_var rfl) ea_nil) fun Q' q' => ⟨_, _, rfl, .inl ⟨_, SqL.of upd_same, rfl⟩, q'⟩) ev_c) (congrArg V.bl (decide_eq_false (by rw [List.length_map]; omega)))) (fun h => nomatch h)) rfl) q'
theorem ok_LDue {cFloor cWireError cNotAStep cOutOfFloor cMS : Addr} {f : Addr} {fd : FuncData} (F : Fun K "_law_due" "_law_due" sLDue f fd) (T : Txt K mg cFloor cWireError cNotAStep cOutOfFloor cMS) : FnOk P w K mg base CX0 1 f fd ["ground", "one", "two"] spLDue := by
  have sc : FnScope ["ground", "one", "two", "sizes", "prices", "vias", "rocks", "tolls", "due"] ["ground", "one", "two"] (defScope sLDue) := ⟨rfl, rfl, rfl, by decide +kernel, rfl, by decide +kernel, by decide +kernel⟩
  refine F.ok sc (fun vs H Q E h => by repeat (first | (obtain ⟨rfl, _⟩ := h; rfl) | (obtain ⟨_, h⟩ := h))) (fun cdv A outer s H vs Q E hr h => ?_)
  obtain ⟨t, a, b, g, x, y, w, x', y', w', rfl, hT, ha, hb, hi, hi', hn, q⟩ := h
  refine ⟨_, (pss_cons (ps_asg (pv 0) (pg_tup rfl (pgs_cons (pg_name (i := 3) sc.nd rfl (Or.inl rfl)) (pgs_cons (pg_name (i := 4) sc.nd rfl (Or.inl rfl)) (pgs_cons (pg_name (i := 5) sc.nd rfl (Or.inl rfl)) (pgs_cons (pg_name (i := 6) sc.nd rfl (Or.inl rfl)) (pgs_cons (pg_name (i := 7) sc.nd rfl (Or.inl rfl)) pgs_nil)))))))
  (pss_cons (ps_set (i := 8) sc.nd rfl (Or.inl rfl) (pe_op op_add (pe_bm PySem.F.plainAttrs_dict PySem.F.slot_dict_get PySem.F.type_dict_get (mt_getT hr) (pv 7) (pa_cons (pv 1) (pa_cons pe_int pa_nil))) (pe_bm PySem.F.plainAttrs_dict PySem.F.slot_dict_get PySem.F.type_dict_get (mt_getT hr) (pv 7) (pa_cons (pv 2) (pa_cons pe_int pa_nil)))))
  (pss_cons (ps_if (pt_cmpR op_ne (pe_ix ix_tup (pv 1) pe_int (fun _ _ => rfl)) (pe_ix ix_tup (pv 2) pe_int (fun _ _ => rfl)) (nomark _))
  (pss_one (ps_ret (pe_op op_add (pv 8) (pe_ix ix_list (pv 5) (pe_callB (call_min2 rfl) (by rfl) T.min_ bt_min (pa_cons (pe_ix ix_tup (pv 1) pe_int (fun _ _ => rfl)) (pa_cons (pe_ix ix_tup (pv 2) pe_int (fun _ _ => rfl)) pa_nil))) (fun _ _ => rfl)))))
  pss_nil)
  (pss_cons (ps_if (pt_cmpR op_ne (pe_ix ix_tup (pv 1) pe_int (fun _ _ => rfl)) (pe_ix ix_tup (pv 2) pe_int (fun _ _ => rfl)) (nomark _))
  (pss_one (ps_ret (pe_op op_add (pv 8) (pe_ix ix_tup (pe_ix ix_list (pv 4) (pe_ix ix_tup (pv 1) pe_int (fun _ _ => rfl)) (fun _ _ => rfl)) pe_int (fun _ _ => rfl)))))
  pss_nil)
  (pss_one (ps_ret (pe_op op_add (pv 8) (pe_ix ix_tup (pe_ix ix_list (pv 4) (pe_ix ix_tup (pv 1) pe_int (fun _ _ => rfl)) (fun _ _ => rfl)) pe_int (fun _ _ => rfl))))))))), ?_⟩
  obtain ⟨z, pr, vi, ro, td, ht, hG⟩ := hT.ex
  have hg := hT.ok
  obtain ⟨i1, i2, i3, i4, i5, i6⟩ := hi
  obtain ⟨j1, j2, j3, j4, j5, j6⟩ := hi'
  have d1 := dg (x := [x, y, w]) (.inl hG.td) ha
  have d2 := dg (x := [x', y', w']) (.inl hG.td) hb
  have gvl := hg.vl
  have gpl := hg.pl
  have adj : x' = x ∨ x' = x - 1 ∨ x' = x + 1 := by
    unfold Beside rnd at hn
    simp only [List.mem_cons, List.cons.injEq, List.not_mem_nil, or_false, and_true] at hn
    omega
  refine ⟨_, rfl, t, _, rfl, SqT.of ht, rfl, _, _, rfl, _, _, rfl, _, _, rfl, _, _, rfl, _, _, rfl, rfl, ?_⟩
  refine st ?_
  refine sq_set (v := .int (tollC g.R g.C g.ts [x, y, w] + tollC g.R g.C g.ts [x', y', w'])) (ev_I0 (ev_of (ev_getT (ev_var rfl) (ev_var rfl) ev_c hG.td d1) (toll_getC hg.tv _)) (ev_of (ev_getT (ev_var rfl) (ev_var rfl) ev_c hG.td d2) (toll_getC hg.tv _))) ?_
  refine sq_if (et_test (ev_neI (ev_ixT (v := .int x) (ev_var rfl) ev_c (SqT.of ha) rfl) (ev_ixT (v := .int x') (ev_var rfl) ev_c (SqT.of hb) rfl))) (fun e => ?_) (fun e => ?_)
  · have e : x ≠ x' := by simpa using e
    have hm : (min x x').toNat < g.vs.length := by omega
    have at_ : atI (g.vs.map V.int) (if x' < x then x' else x) = some (.int (g.vs.getD (min x x').toNat 0)) := by
      rw [mn_if]
      have : min x x' = (((min x x').toNat : Nat) : Int) := by omega
      rw [this]
      refine atI_nat ?_
      rw [Int.toNat_natCast, List.getElem?_map, List.getD_eq_getElem?_getD, List.getElem?_eq_getElem hm]; rfl
    refine rd_ret (ev_of (ev_I0 (ev_var rfl) (ev_ixL (v := .int (g.vs.getD (min x x').toNat 0)) (ev_var rfl) (ev_cb (v := .int (if x' < x then x' else x)) (ea_cons (ev_ixT (v := .int x) (ev_var rfl) ev_c (SqT.of ha) rfl) (ea_cons (ev_ixT (v := .int x') (ev_var rfl) ev_c (SqT.of hb) rfl) ea_nil)) fun Q' q' => ⟨_, _, rfl, q'⟩) (SqL.of hG.vi) at_)) (c := .int (price g [x, y, w] [x', y', w'])) ?_) q
    unfold price bare
    rw [if_pos (show [x, y, w].getD 0 0 ≠ [x', y', w'].getD 0 0 from e)]
    rfl
  have e : x = x' := by simpa using e
  obtain ⟨as, p1, p2⟩ := hG.pr
  have hx : x.toNat < g.ps.length := by omega
  have hxa : x.toNat < as.length := by rw [Paired.length p2]; exact hx
  obtain ⟨aa, haa⟩ : ∃ aa, as[x.toNat]? = some aa := ⟨_, List.getElem?_eq_getElem hxa⟩
  obtain ⟨c, hc, hac⟩ := tups_at p2 haa
  obtain ⟨u, v, rfl, _⟩ := hg.pp c (List.mem_of_getElem? hc)
  have hgd : g.ps.getD x.toNat [] = [u, v] := by rw [List.getD_eq_getElem?_getD, hc]; rfl
  have at_ : atI (as.map V.ref) x = some (.ref aa) := by
    have : x = ((x.toNat : Nat) : Int) := by omega
    rw [this]
    refine atI_nat ?_
    rw [List.getElem?_map, haa]; rfl
  have hbare : bare g [x, y, w] [x', y', w'] = if y = y' then u else v := by
    unfold bare
    rw [if_neg (show ¬ [x, y, w].getD 0 0 ≠ [x', y', w'].getD 0 0 from fun h => h e)]
    show (if y = y' then (g.ps.getD x.toNat []).getD 0 0 else (g.ps.getD x.toNat []).getD 1 0) = _
    rw [hgd]; rfl
  have hpr : price g [x, y, w] [x', y', w'] = tollC g.R g.C g.ts [x, y, w] + tollC g.R g.C g.ts [x', y', w'] + (if y = y' then u else v) := by
    unfold price
    rw [hbare]
  rw [hpr] at q
  refine sq_if (et_test (ev_neI (ev_ixT (v := .int y) (ev_var rfl) ev_c (SqT.of ha) rfl) (ev_ixT (v := .int y') (ev_var rfl) ev_c (SqT.of hb) rfl))) (fun e2 => ?_) (fun e2 => ?_)
  · have e2 : ¬ y = y' := by simpa using e2
    rw [if_neg e2] at q
    exact rd_ret (ev_I0 (ev_var rfl) (ev_ixT (v := .int v) (ev_ixL (v := .ref aa) (ev_var rfl) (ev_ixT (v := .int x) (ev_var rfl) ev_c (SqT.of ha) rfl) (SqL.of p1) at_) ev_c (SqT.of hac) rfl)) q
  · have e2 : y = y' := by simpa using e2
    rw [if_pos e2] at q
    exact rd_ret (ev_I0 (ev_var rfl) (ev_ixT (v := .int u) (ev_ixL (v := .ref aa) (ev_var rfl) (ev_ixT (v := .int x) (ev_var rfl) ev_c (SqT.of ha) rfl) (SqL.of p1) at_) ev_c (SqT.of hac) rfl)) q
theorem sq_forL {K : PySem.W.Frag} {tl : TA} {vs : List V} {g : TG} {tb u : TS} {D : Ends} {σ : St} {H : Hp} (h : EvA tl σ H vs) (hz : vs.length ≤ sizeLine) (q : ∀ p, H p = none → tFor (iList K (fun _ H' Q => Q (.ref p) H')) g tb { D with nx := u D } σ (upd H p (.lst vs))) : tSeq (tFor (iList K (tLst tl)) g tb) u D σ H := h _ ⟨hz, q⟩
theorem ok_LNear {cFloor cWireError cNotAStep cOutOfFloor cMS : Addr} {f : Addr} {fd : FuncData} (F : Fun K "_law_near" "_law_near" sLNear f fd) (T : Txt K mg cFloor cWireError cNotAStep cOutOfFloor cMS) (gLIns : Callee P w K mg base "_law_inside" 1 ["sizes", "spot"] spLIns) : FnOk P w K mg base CX0 2 f fd ["ground", "spot"] spLNear := by
  have sc : FnScope ["ground", "spot", "sizes", "rocks", "found", "k", "by", "other"] ["ground", "spot"] (defScope sLNear) := ⟨rfl, rfl, rfl, by decide +kernel, rfl, by decide +kernel, by decide +kernel⟩
  refine F.ok sc (fun vs H Q E h => by repeat (first | (obtain ⟨rfl, _⟩ := h; rfl) | (obtain ⟨_, h⟩ := h))) (fun cdv A outer s H vs Q E hr h => ?_)
  obtain ⟨t, b, g, x, y, w, rfl, hT, hb, q⟩ := h
  refine ⟨_, (pss_cons (ps_set (i := 2) sc.nd rfl (Or.inl rfl) (pe_ix ix_tup (pv 0) pe_int (fun _ _ => rfl)))
  (pss_cons (ps_set (i := 3) sc.nd rfl (Or.inl rfl) (pe_ix ix_tup (pv 0) pe_int (fun _ _ => rfl)))
  (pss_cons (ps_if (pt_cmpR (op_inT hr) (pv 1) (pv 3) (by with_unfolding_all rfl))
  (pss_one (ps_ret (pe_lst pa_nil)))
  pss_nil)
  (pss_cons (ps_set (i := 4) sc.nd rfl (Or.inl rfl) (pe_lst pa_nil))
  (pss_cons (ps_for PassesOwn.never rfl (pi_list (pe_lst (pa_cons pe_int (pa_cons pe_int (pa_cons pe_int pa_nil))))) (pg_name (i := 5) sc.nd rfl (Or.inl rfl))
  (pss_one (ps_for PassesOwn.never rfl (pi_list (pe_lst (pa_cons (pe_un un_neg pe_int) (pa_cons pe_int pa_nil)))) (pg_name (i := 6) sc.nd rfl (Or.inl rfl))
  (pss_cons (ps_set (i := 7) sc.nd rfl (Or.inl rfl) (pe_tup (pa_cons (pe_op op_add (pe_ix ix_tup (pv 1) pe_int (fun _ _ => rfl)) (pe_op op_mul (pv 6) (pe_callTy call_int1 (by rfl) T.int_ bt_int (pa_cons (pe_cmpR op_eq (pv 5) pe_int (nomark _)) pa_nil)))) (pa_cons (pe_op op_add (pe_ix ix_tup (pv 1) pe_int (fun _ _ => rfl)) (pe_op op_mul (pv 6) (pe_callTy call_int1 (by rfl) T.int_ bt_int (pa_cons (pe_cmpR op_eq (pv 5) pe_int (nomark _)) pa_nil)))) (pa_cons (pe_op op_add (pe_ix ix_tup (pv 1) pe_int (fun _ _ => rfl)) (pe_op op_mul (pv 6) (pe_callTy call_int1 (by rfl) T.int_ bt_int (pa_cons (pe_cmpR op_eq (pv 5) pe_int (nomark _)) pa_nil)))) pa_nil)))))
  (pss_one (ps_if (pw_and (pt_val (pe_cal gLIns (hr.mono (by decide)) (by rfl) (pa_cons (pv 2) (pa_cons (pv 7) pa_nil)))) (pw_and1 (pt_cmpR (op_notinT hr) (pv 7) (pv 3) (by with_unfolding_all rfl)))).pt
  (pss_one (ps_expr (pe_bm PySem.F.plainAttrs_list PySem.F.slot_list_append PySem.F.type_list_append mt_append (pv 4) (pa_cons (pv 7) pa_nil))))
  pss_nil))))))
  (pss_one (ps_ret (pe_callB (call_sortedI hr) (by rfl) T.sorted_ bt_sorted (pa_cons (pv 4) pa_nil))))))))), ?_⟩
  have hsz : sizeLine = 2 ^ 24 := rfl
  obtain ⟨z, pr, vi, ro, td, ht, hG⟩ := hT.ex
  obtain ⟨rs, r1, r2⟩ := hG.ro
  have hz := hG.z
  refine sq_set (v := .ref z) (ev_ixT (ev_var rfl) ev_c (SqT.of ht) rfl) ?_
  refine sq_set (v := .ref ro) (ev_ixT (ev_var rfl) ev_c (SqT.of ht) rfl) ?_
  refine sq_if (et_test (ev_inT (c := [x, y, w]) (ev_var rfl) (ev_var rfl) hb (SqL.of r1) r2)) (fun e => ?_) (fun e => ?_)
  · refine rd_te ⟨Nat.zero_le _, fun l nl => q _ l ((Same.refl H).upd nl) nl ⟨[], upd_same, ?_⟩⟩
    unfold nearL
    rw [if_pos (show rkC g [x, y, w] = true from e)]
    exact .nil
  have hr : rkC g [x, y, w] = false := e
  refine sq_asg (te_lst (vs := []) ea_nil (Nat.zero_le _) fun G nG => ?_)
  have s1 : Same H (upd H G (.lst [])) := (Same.refl H).upd nG
  have hG1 : upd H G (.lst []) G = some (.lst []) := upd_same
  revert s1 hG1
  generalize upd H G (.lst []) = H1
  intro s1 hG1
  refine sq_forL (K := K) (vs := [.int 0, .int 1, .int 2]) (ea_cons ev_c (ea_cons ev_c (ea_cons ev_c ea_nil))) (by show 3 ≤ sizeLine; decide) fun p1 np1 => ⟨p1, rfl, ⟨_, SqL.of upd_same⟩, ?_⟩
  have s2 : Same H1 (upd H1 p1 (.lst [.int 0, .int 1, .int 2])) := (Same.refl H1).upd np1
  have hp1 : upd H1 p1 (.lst [.int 0, .int 1, .int 2]) p1 = some (.lst [.int 0, .int 1, .int 2]) := upd_same
  have n1G : p1 ≠ G := fun z => by rw [z, hG1] at np1; cases np1
  have s12 := s1.trans s2
  revert s2 hp1 s12
  generalize upd H1 p1 (.lst [.int 0, .int 1, .int 2]) = H2
  intro s2 hp1 s12
  have hG2 := s2 _ _ hG1
  have ntG : ∀ {a : Addr} {o : HO}, H a = some o → a ≠ G := fun e z => by rw [z, nG] at e; cases e
  have w6 : (way2 x y w).length = 6 := rfl
  refine for_list (K := K) (xs := [.int 0, .int 1, .int 2]) (fun i σ H' => ∃ (x5 x6 x7 : Option V) (as : List Addr), σ = [some (.ref t), some (.ref b), some (.ref z), some (.ref ro), some (.ref G), x5, x6, x7] ∧ Sb G H2 H' ∧ H' G = some (.lst (as.map V.ref)) ∧ Tups H' as (((way2 x y w).take (2 * i)).filter (opn g)) ∧ as.length ≤ 2 * i)
    ⟨none, none, none, [], rfl, Sb.refl G H2, hG2, .nil, Nat.le_refl _⟩ (fun i σ H' _ ⟨_, _, _, _, _, sb, _⟩ => SqL.of (sb _ _ n1G hp1)) ?_ ?_
  · rintro i k σ H' hk ⟨x5, x6, x7, as, rfl, sb, hGH, has, hal⟩
    obtain ⟨rfl, hi3⟩ : k = .int (i : Int) ∧ i < 3 := by
      rcases i with _ | _ | _ | i
      · simp at hk; exact ⟨hk.symm, by omega⟩
      · simp at hk; exact ⟨hk.symm, by omega⟩
      · simp at hk; exact ⟨hk.symm, by omega⟩
      · simp at hk
    refine gn ?_
    refine rd_forL (K := K) (vs := [.int (-1), .int 1]) (ea_cons (ev_U ev_c) (ea_cons ev_c ea_nil)) (by show 2 ≤ sizeLine; decide) fun p2 np2 => ⟨p2, rfl, ⟨_, SqL.of upd_same⟩, ?_⟩
    have s3 : Same H' (upd H' p2 (.lst [.int (-1), .int 1])) := (Same.refl H').upd np2
    have hp2 : upd H' p2 (.lst [.int (-1), .int 1]) p2 = some (.lst [.int (-1), .int 1]) := upd_same
    have n2G : p2 ≠ G := fun z => by rw [z, hGH] at np2; cases np2
    revert s3 hp2
    generalize upd H' p2 (.lst [.int (-1), .int 1]) = H3
    intro s3 hp2
    have sb3 : Sb G H2 H3 := sb.trans (Sb.of s3)
    refine for_list (K := K) (xs := [.int (-1), .int 1]) (fun j σ H' => ∃ (x6 x7 : Option V) (as : List Addr), σ = [some (.ref t), some (.ref b), some (.ref z), some (.ref ro), some (.ref G), some (.int (i : Int)), x6, x7] ∧ Sb G H3 H' ∧ H' G = some (.lst (as.map V.ref)) ∧ Tups H' as (((way2 x y w).take (2 * i + j)).filter (opn g)) ∧ as.length ≤ 2 * i + j)
      ⟨x6, x7, as, rfl, Sb.refl G H3, s3 _ _ hGH, tups_mono has fun a xs e => s3 _ _ e, hal⟩ (fun j σ H' _ ⟨_, _, _, _, sb, _⟩ => SqL.of (sb _ _ n2G hp2)) ?_ ?_
    · rintro j v σ H4 hj ⟨x6, x7, as, rfl, sb4, hG4, has, hal⟩
      obtain ⟨v', rfl, hv, hj2⟩ : ∃ v' : Int, v = .int v' ∧ (v' = 2 * (j : Int) - 1) ∧ j < 2 := by
        rcases j with _ | _ | j
        · simp at hj; exact ⟨_, hj.symm, by omega, by omega⟩
        · simp at hj; exact ⟨_, hj.symm, by omega, by omega⟩
        · simp at hj
      have sb24 := sb3.trans sb4
      have kp : ∀ {a : Addr} {o : HO}, H a = some o → H4 a = some o := fun e => sb24 _ _ (ntG e) (s12 _ _ e)
      have hbH := kp hb
      refine gn ?_
      have el : ∀ (c : Int), Ev (tCB (fun xs H Q => (∃ i, xs = [.int i] ∧ Q (.int i) H) ∨ ∃ k, xs = [.bl k] ∧ Q (.int (if k then 1 else 0)) H) (tCons (tOp rEq (tVar 5) (tC (.int c))) tNil)) [some (.ref t), some (.ref b), some (.ref z), some (.ref ro), some (.ref G), some (.int (i : Int)), some (.int v'), x7] H4 (.int (if (i : Int) = c then 1 else 0)) := fun c =>
        ev_of (ev_cb (v := .int (if (decide ((i : Int) = c)) = true then 1 else 0)) (ea_cons (ev_eqI (ev_var rfl) ev_c) ea_nil) fun Q' q' => .inr ⟨_, rfl, q'⟩) (by congr 1; simp only [decide_eq_true_eq])
      have bnd : ∀ c : Int, -(2 ^ 64) < (if (i : Int) = c then (1 : Int) else 0) ∧ (if (i : Int) = c then (1 : Int) else 0) < 2 ^ 64 := fun c => by split <;> exact ⟨by decide, by decide⟩
      refine sq_asg (te_tup (vs := [.int (x + v' * (if (i : Int) = 0 then 1 else 0)), .int (y + v' * (if (i : Int) = 1 then 1 else 0)), .int (w + v' * (if (i : Int) = 2 then 1 else 0))]) (ea_cons (ev_I0 (ev_ixT (v := .int x) (ev_var rfl) ev_c (SqT.of hbH) rfl) (ev_I (ev_var rfl) (el 0) (cmR (bnd 0).1 (bnd 0).2))) (ea_cons (ev_I0 (ev_ixT (v := .int y) (ev_var rfl) ev_c (SqT.of hbH) rfl) (ev_I (ev_var rfl) (el 1) (cmR (bnd 1).1 (bnd 1).2))) (ea_cons (ev_I0 (ev_ixT (v := .int w) (ev_var rfl) ev_c (SqT.of hbH) rfl) (ev_I (ev_var rfl) (el 2) (cmR (bnd 2).1 (bnd 2).2))) ea_nil))) (by show 3 ≤ sizeLine; decide) fun T' nT => ?_)
      have hc : (way2 x y w)[2 * i + j]? = some [x + v' * (if (i : Int) = 0 then 1 else 0), y + v' * (if (i : Int) = 1 then 1 else 0), w + v' * (if (i : Int) = 2 then 1 else 0)] := by
        subst hv
        rcases show i = 0 ∨ i = 1 ∨ i = 2 by omega with rfl | rfl | rfl <;> rcases show j = 0 ∨ j = 1 by omega with rfl | rfl <;> simp [way2] <;> omega
      revert hc
      generalize x + v' * (if (i : Int) = 0 then 1 else 0) = cx
      generalize y + v' * (if (i : Int) = 1 then 1 else 0) = cy
      generalize w + v' * (if (i : Int) = 2 then 1 else 0) = cw
      intro hc
      have s5 : Same H4 (upd H4 T' (.tup [.int cx, .int cy, .int cw])) := (Same.refl H4).upd nT
      have hT5 : upd H4 T' (.tup [.int cx, .int cy, .int cw]) T' = some (.tup [.int cx, .int cy, .int cw]) := upd_same
      revert s5 hT5
      generalize upd H4 T' (.tup [.int cx, .int cy, .int cw]) = H5
      intro s5 hT5
      have hG5 := s5 _ _ hG4
      have kp5 : ∀ {a : Addr} {o : HO}, H a = some o → H5 a = some o := fun e => s5 _ _ (kp e)
      refine rd_if (et_and (et_B (ev_cal (sp := spLIns) (v := .bl (insC g [cx, cy, cw])) (ea_cons (ev_var rfl) (ea_cons (ev_var rfl) ea_nil)) fun Q' q' => ⟨z, T', g.L, g.R, g.C, cx, cy, cw, rfl, kp5 hz, hT5, q'⟩)) fun _ => et_test (ev_notinT (c := [cx, cy, cw]) (ev_var rfl) (ev_var rfl) hT5 (SqL.of (kp5 r1)) (tups_mono r2 fun a xs e => kp5 e))) (fun e => ?_) (fun e => ?_)
      · refine ⟨_, rfl, .inl ⟨rfl, _, SqL.of hG5⟩, _, rfl, G, _, _, rfl, rfl, hG5, by rw [List.length_map]; omega, _, _, as ++ [T'], rfl, (sb4.trans (Sb.of s5)).set, by rw [upd_same, List.map_append]; rfl, ?_, by rw [List.length_append]; show as.length + 1 ≤ _; omega⟩
        rw [show 2 * i + (j + 1) = 2 * i + j + 1 by omega, take_one hc, List.filter_append, List.filter_cons_of_pos (show opn g [cx, cy, cw] = true from e)]
        exact tups_app (tups_mono has fun a xs e => keep_lst0 hG5 _ _ (s5 _ _ e)) (.cons (keep_lst0 hG5 _ _ hT5) .nil)
      · refine ⟨_, _, as, rfl, sb4.trans (Sb.of s5), hG5, ?_, by omega⟩
        rw [show 2 * i + (j + 1) = 2 * i + j + 1 by omega, take_one hc, List.filter_append, List.filter_cons_of_neg (by rw [show opn g [cx, cy, cw] = false from e]; decide), List.filter_nil, List.append_nil]
        exact tups_mono has fun a xs e => s5 _ _ e
    · rintro σ H4 ⟨x6, x7, as, rfl, sb4, hG4, has, hal⟩
      exact ⟨_, _, _, as, rfl, sb3.trans sb4, hG4, has, hal⟩
  · rintro σ H' ⟨x5, x6, x7, as, rfl, sb, hGH, has, hal⟩
    refine st ?_
    have hal : as.length ≤ 6 := hal
    refine ⟨_, rfl, G, as, _, rfl, SqL.of hGH, has, fun c hc => ?_, by omega, fun l bs ds nl hb hp ho => ?_⟩
    · have := List.mem_of_mem_take (List.mem_filter.mp hc).1
      unfold way2 at this
      simp only [List.mem_cons, List.not_mem_nil, or_false] at this
      rcases this with h | h | h | h | h | h <;> (rw [h]; exact fun z => nomatch z)
    · rw [List.take_of_length_le (by rw [w6]; simp)] at hp
      have e := way2_sorted hp ho
      subst e
      have sH : Same H H' := fun b o e => sb b o (ntG e) (s12 _ _ e)
      refine q _ l (sH.upd nl) (fresh_of sH nl) ⟨bs, upd_same, ?_⟩
      unfold nearL
      rw [if_neg (by rw [hr]; decide)]
      exact tups_mono hb fun b xs e => by rw [upd_ne (ne_of_none e nl)]; exact e
theorem et_neTup {K : PySem.W.Frag} {ta : TE} {tl : TA} {σ : St} {H : Hp} {Q : Bool → Hp → Prop} {x : V} {vs : List V} (ha : Ev ta σ H x) (h : EvA tl σ H vs) (hz : vs.length ≤ sizeLine)
    (q : ∀ p, H p = none → ∃ d e, Dp K (upd H p (.tup vs)) x d ∧ Dp K (upd H p (.tup vs)) (.ref p) e ∧ d.depth ≤ 60 ∧ Q (!PyData.eqv d e) (upd H p (.tup vs))) : tTest (tOp (rNeD K) ta (tTup tl)) σ H Q :=
  ha _ (h _ ⟨hz, fun p np => let ⟨d, e, h1, h2, h3, h4⟩ := q p np; ⟨d, e, h1, h2, h3, _, rfl, h4⟩⟩)
theorem dtC_one (x : T3 × Int) : (dtC x).depth ≤ 60 := by
  have h1 := depth_tints x.1
  have h2 : PyData.depthAll [PyData.tuple (x.1.map PyData.int), PyData.int x.2] ≤ 1 := depthAll_le fun d hd => by
    simp only [List.mem_cons, List.not_mem_nil, or_false] at hd
    rcases hd with rfl | rfl
    · exact h1
    · simp [PyData.depth]
  unfold dtC
  simp only [PyData.depth]
  omega
theorem prc_dp {K : PySem.W.Frag} {H : Hp} {q b : Addr} {c : T3} {v : Int} (e1 : H q = some (.tup [.ref b, .int v])) (e2 : H b = some (.tup (c.map V.int))) : Dp K H (.ref q) (dtC (c, v)) := .tup (SqT.of e1) (.cons (Dp.ints (SqT.of e2)) (.cons (.int _) .nil))
theorem ok_LTold {cFloor cWireError cNotAStep cOutOfFloor cMS : Addr} {f : Addr} {fd : FuncData} (F : Fun K "_law_steps_told" "_law_steps_told" sLTold f fd) (T : Txt K mg cFloor cWireError cNotAStep cOutOfFloor cMS) (gWhole : Callee P w K mg base "_law_is_whole" 1 ["found"] spWhole) (gIsSpot : Callee P w K mg base "_law_is_spot" 2 ["found"] spIsSpot) (gLDue : Callee P w K mg base "_law_due" 1 ["ground", "one", "two"] spLDue) : FnOk P w K mg base CX0 3 f fd ["ground", "spot", "near", "found"] spLTold := by
  have sc : FnScope ["ground", "spot", "near", "found", "k", "part"] ["ground", "spot", "near", "found"] (defScope sLTold) := ⟨rfl, rfl, rfl, by decide +kernel, rfl, by decide +kernel, by decide +kernel⟩
  refine F.ok sc (fun vs H Q E h => by repeat (first | (obtain ⟨rfl, _⟩ := h; rfl) | (obtain ⟨_, h⟩ := h))) (fun cdv A outer s H vs Q E hr h => ?_)
  obtain ⟨t, b, n, l, g, x, y, w, rfl, hT, hb, hi, ⟨ns, n1, n2⟩, ⟨qs, l1, l2⟩, q⟩ := h
  refine ⟨_, (pss_cons (ps_if (pw_or (pt_not (pt_val (pe_callB call_isinst (by rfl) T.isinstance_ bt_isinstance (pa_cons (pv 3) (pa_cons (pe_bltn (v := .ty "list") (by rfl) T.list_ bt_list (by rfl)) pa_nil))))) (pw_or1 (pt_cmpR op_ne (pe_callB call_len (by rfl) T.len_ bt_len (pa_cons (pv 3) pa_nil)) (pe_callB call_len (by rfl) T.len_ bt_len (pa_cons (pv 2) pa_nil)) (nomark _)))).pt
  (pss_one (ps_ret pe_bl))
  pss_nil)
  (pss_cons (ps_for PassesOwn.never rfl (pi_range1 (by rfl) T.range_ (pa_cons (pe_callB call_len (by rfl) T.len_ bt_len (pa_cons (pv 2) pa_nil)) pa_nil)) (pg_name (i := 4) sc.nd rfl (Or.inl rfl))
  (pss_cons (ps_set (i := 5) sc.nd rfl (Or.inl rfl) (pe_ix ix_list (pv 3) (pv 4) (fun _ _ => rfl)))
  (pss_cons (ps_if (pw_or (pt_not (pt_val (pe_callB call_isinst (by rfl) T.isinstance_ bt_isinstance (pa_cons (pv 5) (pa_cons (pe_bltn (v := .ty "tuple") (by rfl) T.tuple_ bt_tuple (by rfl)) pa_nil))))) (pw_or (pt_cmpR op_ne (pe_callB call_len (by rfl) T.len_ bt_len (pa_cons (pv 5) pa_nil)) pe_int (nomark _)) (pw_or (pt_not (pt_val (pe_cal gIsSpot (hr.mono (by decide)) (by rfl) (pa_cons (pe_ix ix_tup (pv 5) pe_int (fun _ _ => rfl)) pa_nil)))) (pw_or1 (pt_not (pt_val (pe_cal gWhole (hr.mono (by decide)) (by rfl) (pa_cons (pe_ix ix_tup (pv 5) pe_int (fun _ _ => rfl)) pa_nil)))))))).pt
  (pss_one (ps_ret pe_bl))
  pss_nil)
  (pss_one (ps_if (pt_cmpR (op_neD hr) (pv 5) (pe_tup (pa_cons (pe_ix ix_list (pv 2) (pv 4) (fun _ _ => rfl)) (pa_cons (pe_cal gLDue (hr.mono (by decide)) (by rfl) (pa_cons (pv 0) (pa_cons (pv 1) (pa_cons (pe_ix ix_list (pv 2) (pv 4) (fun _ _ => rfl)) pa_nil)))) pa_nil))) (nomark _))
  (pss_one (ps_ret pe_bl))
  pss_nil)))))
  (pss_one (ps_ret pe_bl)))), ?_⟩
  have hsz : sizeLine = 2 ^ 24 := rfl
  rw [steps_near] at l2
  have len1 : ns.length = (nearL g [x, y, w]).length := Paired.length n2
  have len2 : qs.length = (nearL g [x, y, w]).length := (Paired.length l2).trans (List.length_map ..)
  have h6 := near_len (g := g) (c := [x, y, w])
  have lenE : ∀ {σ : St} {H' : Hp}, H' n = some (.lst (ns.map V.ref)) → σ[2]? = some (some (.ref n)) → Ev (tCB (fun xs H Q => ∃ x n, xs = [x] ∧ LenV K x H n ∧ Q (.int (n : Nat)) H) (tCons (tVar 2) tNil)) σ H' (.int ((ns.map V.ref).length : Nat)) := fun e1 e2 => ev_cb (ea_cons (ev_var e2) ea_nil) fun Q' q' => ⟨_, _, rfl, .inl ⟨_, SqL.of e1, rfl⟩, q'⟩
  refine sq_ifF (b := false) (et_of (et_or (a := false) (et_not (et_B (ev_cb (v := .bl true) (ea_cons (ev_var rfl) (ea_cons ev_c ea_nil)) fun Q' q' => ⟨_, _, _, _, _, rfl, .ty "list", .lst l1, T.ll, q'⟩))) fun _ => et_test (ev_neI (ev_cb (v := .int ((qs.map V.ref).length : Nat)) (ea_cons (ev_var rfl) ea_nil) fun Q' q' => ⟨_, _, rfl, .inl ⟨_, SqL.of l1, rfl⟩, q'⟩) (lenE n1 rfl))) (by rw [decide_eq_true (by rw [List.length_map, List.length_map, len1, len2])]; rfl)) rfl ?_
  refine sq_rng1 (j := ((ns.map V.ref).length : Nat)) (ea_cons (lenE n1 rfl) ea_nil) (by omega) (by rw [List.length_map]; omega) ?_
  refine for_range (n := ((ns.map V.ref).length : Int).toNat) (fun i σ H' => ∃ (x4 x5 : Option V), σ = [some (.ref t), some (.ref b), some (.ref n), some (.ref l), x4, x5] ∧ Same H H') ⟨none, none, rfl, Same.refl H⟩ ?_ ?_
  · rintro i σ H' hi' ⟨x4, x5, rfl, s⟩
    have hi2 : i < ns.length := by rw [List.length_map] at hi'; omega
    obtain ⟨a, ha⟩ : ∃ a, ns[i]? = some a := ⟨_, List.getElem?_eq_getElem hi2⟩
    obtain ⟨c, hc, hac⟩ := tups_at n2 ha
    obtain ⟨qa, hq⟩ : ∃ a, qs[i]? = some a := ⟨_, List.getElem?_eq_getElem (show i < qs.length by omega)⟩
    obtain ⟨pc, hpc, b', f1, f2⟩ := pair_at l2 hq
    rw [List.getElem?_map, hc] at hpc
    have hpc : pc = (c, price g [x, y, w] c) := (Option.some.inj hpc).symm
    subst hpc
    have hcm := List.mem_of_getElem? hc
    obtain ⟨x', y', w', rfl⟩ := near_three hcm
    have hpd := near_pd (decide_eq_true hi : insC g [x, y, w] = true) hcm
    have hi' : Ins g.L g.R g.C x' y' w' := of_decide_eq_true hpd.2.2
    have hbe : [x', y', w'] ∈ rndC [x, y, w] := of_decide_eq_true hpd.2.1
    refine gn ?_
    refine sq_set (v := .ref qa) (ev_ixL (ev_var rfl) (ev_var rfl) (SqL.of (s _ _ l1)) (by rw [Int.zero_add]; exact atI_nat (by rw [List.getElem?_map, hq]; rfl))) ?_
    have f1' := s _ _ f1
    have f2' := s _ _ f2
    refine sq_ifF (b := false) (et_or (a := false) (et_not (et_B (ev_cb (v := .bl true) (ea_cons (ev_var rfl) (ea_cons ev_c ea_nil)) fun Q' q' => ⟨_, _, _, _, _, rfl, .ty "tuple", .tup f1', T.tt, q'⟩))) fun _ => et_or (a := false) (et_test (ev_neI (i := 2) (ev_cb (v := .int 2) (ea_cons (ev_var rfl) ea_nil) fun Q' q' => ⟨_, _, rfl, .inr ⟨_, SqT.of f1', rfl⟩, q'⟩) ev_c)) fun _ => et_or (a := false) (et_not (et_B (ev_cal (sp := spIsSpot) (v := .bl true) (ea_cons (ev_ixT (v := .ref b') (ev_var rfl) ev_c (SqT.of f1') rfl) ea_nil) fun Q' q' => ⟨b', x', y', w', rfl, f2', q'⟩))) fun _ => et_not (et_B (ev_cal (sp := spWhole) (v := .bl true) (ea_cons (ev_ixT (v := .int (price g [x, y, w] [x', y', w'])) (ev_var rfl) ev_c (SqT.of f1') rfl) ea_nil) fun Q' q' => ⟨_, rfl, q'⟩))) rfl ?_
    have nE : ∀ {σ : St}, σ[2]? = some (some (.ref n)) → σ[4]? = some (some (.int (0 + (i : Int)))) → Ev (tOp (rIxL K) (tVar 2) (tVar 4)) σ H' (.ref a) := fun g1 g2 => ev_ixL (ev_var g1) (ev_var g2) (SqL.of (s _ _ n1)) (by rw [Int.zero_add]; exact atI_nat (by rw [List.getElem?_map, ha]; rfl))
    refine rd_ifof (et_neTup (K := K) (x := .ref qa) (vs := [.ref a, .int (price g [x, y, w] [x', y', w'])]) (ev_var rfl) (ea_cons (nE rfl rfl) (ea_cons (ev_cal (sp := spLDue) (ea_cons (ev_var rfl) (ea_cons (ev_var rfl) (ea_cons (nE rfl rfl) ea_nil))) fun Q' q' => ⟨t, b, a, g, x, y, w, x', y', w', rfl, hT.same s, s _ _ hb, s _ _ hac, hi, hi', hbe, q'⟩) ea_nil)) (by show 2 ≤ sizeLine; decide) fun P nP => ?_)
    have s7 : Same H' (upd H' P (.tup [.ref a, .int (price g [x, y, w] [x', y', w'])])) := (Same.refl H').upd nP
    have d1 := prc_dp (K := K) (s7 _ _ f1') (s7 _ _ f2')
    refine ⟨_, _, d1, prc_dp (c := [x', y', w']) upd_same (s7 _ _ (s _ _ hac)), dtC_one _, ?_⟩
    rw [eqv_same d1]
    exact iteF ⟨_, _, rfl, s.trans s7⟩
  · rintro σ H' ⟨x4, x5, rfl, s⟩
    exact st (rd_ret ev_c (q _ s))
theorem ok_LSteps {cFloor cWireError cNotAStep cOutOfFloor cMS : Addr} {f : Addr} {fd : FuncData} (F : Fun K "_law_steps" "_law_steps" sLSteps f fd) (T : Txt K mg cFloor cWireError cNotAStep cOutOfFloor cMS) (gSteps : MCallee P w K mg base cFloor "steps" 4 ["self", "spot"] (spSteps cFloor)) (gLNear : Callee P w K mg base "_law_near" 2 ["ground", "spot"] spLNear) (gLTold : Callee P w K mg base "_law_steps_told" 3 ["ground", "spot", "near", "found"] spLTold) : FnOk P w K mg base CX0 5 f fd ["floor", "ground", "spot"] (spLSteps cFloor) := by
  have sc : FnScope ["floor", "ground", "spot", "near", "found"] ["floor", "ground", "spot"] (defScope sLSteps) := ⟨rfl, rfl, rfl, by decide +kernel, rfl, by decide +kernel, by decide +kernel⟩
  refine F.ok sc (fun vs H Q E h => by repeat (first | (obtain ⟨rfl, _⟩ := h; rfl) | (obtain ⟨_, h⟩ := h))) (fun cdv A outer s H vs Q E hr h => ?_)
  obtain ⟨p, t, b, g, x, y, w, rfl, hF, hT, hb, hi, q⟩ := h
  refine ⟨_, (pss_cons (ps_set (i := 3) sc.nd rfl (Or.inl rfl) (pe_cal gLNear (hr.mono (by decide)) (by rfl) (pa_cons (pv 1) (pa_cons (pv 2) pa_nil))))
  (pss_cons (ps_set (i := 4) sc.nd rfl (Or.inl rfl) (pe_met (pv 0) T.cl_Floor gSteps (hr.mono (by decide)) (pa_cons (pv 2) pa_nil)))
  (pss_cons (ps_if (pt_not (pt_val (pe_cal gLTold (hr.mono (by decide)) (by rfl) (pa_cons (pv 1) (pa_cons (pv 2) (pa_cons (pv 3) (pa_cons (pv 4) pa_nil)))))))
  (pss_one (ps_ret pe_bl))
  pss_nil)
  (pss_cons (ps_expr (pe_bm PySem.F.plainAttrs_list PySem.F.slot_list_append PySem.F.type_list_append mt_append (pv 4) (pa_cons (pe_tup (pa_cons (pv 2) (pa_cons pe_int pa_nil))) pa_nil)))
  (pss_cons (ps_expr (pe_bm0 PySem.F.plainAttrs_list PySem.F.slot_list_reverse PySem.F.type_list_reverse mt_reverse (pv 4)))
  (pss_one (ps_ret (pe_cal gLTold (hr.mono (by decide)) (by rfl) (pa_cons (pv 1) (pa_cons (pv 2) (pa_cons (pv 3) (pa_cons (pe_met (pv 0) T.cl_Floor gSteps (hr.mono (by decide)) (pa_cons (pv 2) pa_nil)) pa_nil)))))))))))), ?_⟩
  have hsz : sizeLine = 2 ^ 24 := rfl
  have hg := hT.ok
  obtain ⟨pr, vi, rd, td, hF⟩ := hF.ex
  obtain ⟨dx, z, h1, h2⟩ := hF.ex
  refine sq_asg (te_cal (sp := spLNear) (ea_cons (ev_var rfl) (ea_cons (ev_var rfl) ea_nil)) ⟨t, b, g, x, y, w, rfl, hT, hb, fun H1 n s1 nn hn => ?_⟩)
  refine sq_asg ⟨_, rfl, p, dx, _, rfl, s1 _ _ h1, ln8, _, rfl, p, pr, vi, rd, td, b, g, x, y, w, rfl, hF.same s1, hg, s1 _ _ hb, hi, fun H2 l s2 nl hl => ?_⟩
  have s12 := s1.trans s2
  refine sq_ifof ⟨_, rfl, _, rfl, _, rfl, _, rfl, t, b, n, l, g, x, y, w, rfl, hT.same s12, s12 _ _ hb, hi, hn.same s2, hl, fun H3 s3 => ⟨_, rfl, iteF ?_⟩⟩
  obtain ⟨qs, l1, l2⟩ := hl
  have lq : qs.length ≤ 6 := by
    rw [Paired.length l2, steps_near, List.length_map]
    exact near_len
  have l3 := s3 _ _ l1
  refine ⟨_, rfl, .inl ⟨rfl, _, SqL.of l3⟩, ?_⟩
  refine ta_tup (vs := [.ref b, .int 7]) (ea_cons (ev_var rfl) (ea_cons ev_c ea_nil)) (by show 2 ≤ sizeLine; decide) fun T' nT => ?_
  have nlT : l ≠ T' := ne_of_none l3 nT
  refine ⟨l, _, _, rfl, rfl, by rw [upd_ne nlT]; exact l3, by rw [List.length_map]; omega, ?_⟩
  refine ⟨_, rfl, .inl ⟨rfl, _, SqL.of upd_same⟩, l, _, rfl, rfl, upd_same, ?_⟩
  have nlH : H l = none := fresh_of s1 nl
  have s4 : ∀ ys, Same H1 (upd (upd H3 T' (.tup [.ref b, .int 7])) l (.lst ys)) := fun ys => same_at ((s2.trans s3).upd nT) nl
  rw [upd_upd]
  revert s4
  generalize List.reverse _ = ys
  intro s4
  have s4 := s4 ys
  revert s4
  generalize upd (upd H3 T' (.tup [.ref b, .int 7])) l (.lst ys) = H4
  intro s4
  have s14 := s1.trans s4
  refine st ?_
  refine rd_te ⟨_, rfl, _, rfl, _, rfl, _, rfl, p, dx, _, rfl, s14 _ _ h1, ln8, _, rfl, p, pr, vi, rd, td, b, g, x, y, w, rfl, hF.same s14, hg, s14 _ _ hb, hi, fun H5 l' s5 nl' hl' => ?_⟩
  have s15 := s14.trans s5
  exact ⟨t, b, n, l', g, x, y, w, rfl, hT.same s15, s15 _ _ hb, hi, hn.same (s4.trans s5), hl', fun H6 s6 => q _ (s15.trans s6)⟩
theorem ok_LAsk {cFloor cWireError cNotAStep cOutOfFloor cMS : Addr} {f : Addr} {fd : FuncData} (F : Fun K "_law_asked" "_law_asked" sLAsk f fd) (T : Txt K mg cFloor cWireError cNotAStep cOutOfFloor cMS) (gStepP : MCalleeX P w K mg base cFloor "step_price" 4 ["self", "one", "two"] (spStepP cFloor cOutOfFloor cNotAStep)) : FnOk P w K mg base CX0 5 f fd ["floor", "one", "two"] (spLAsk cFloor) := by
  have sc : FnScope ["floor", "one", "two", "told", "e"] ["floor", "one", "two"] (defScope sLAsk) := ⟨rfl, rfl, rfl, by decide +kernel, rfl, by decide +kernel, by decide +kernel⟩
  refine F.ok sc (fun vs H Q E h => by repeat (first | (obtain ⟨rfl, _⟩ := h; rfl) | (obtain ⟨_, h⟩ := h))) (fun cdv A outer s H vs Q E hr h => ?_)
  obtain ⟨p, a, b, g, x, y, w, x', y', w', rfl, hF, hg, ha, hb, bc, bd, q⟩ := h
  refine ⟨_, (pss_cons (ps_set (i := 3) sc.nd rfl (Or.inl rfl) pe_non)
  (pss_cons (ps_tryA (i := 4) sc.nd rfl rfl rfl rfl rfl (by rfl) T.eNotAStep.bd (by rfl) T.eWireError (fun Ex xe pn hx => (pss_one (ps_set (i := 3) sc.nd rfl (Or.inl rfl) (pe_metX (pv 0) T.cl_Floor gStepP (hr.mono (by decide)) hx (pa_cons (pv 1) (pa_cons (pv 2) pa_nil))))))
  (fun a => (pss_cons (ps_set (i := 3) sc.nd rfl (Or.inl rfl) pe_str)
  (pss_one (ps_if (pw_or (pt_val (pe_callB call_isinstX (by rfl) T.isinstance_ bt_isinstance (pa_cons (pv 4) (pa_cons (pe_globC (by rfl) T.eOutOfFloor.bd) pa_nil)))) (pw_or1 (pt_not (pt_val (pe_callB call_isinstX (by rfl) T.isinstance_ bt_isinstance (pa_cons (pv 4) (pa_cons (pe_bltn (v := .ty "ValueError") (by rfl) T.ValueError_ bt_ValueError (by rfl)) pa_nil))))))).pt
  (pss_one (ps_set (i := 3) sc.nd rfl (Or.inl rfl) pe_str))
  pss_nil))))
  (fun a => (pss_cons (ps_set (i := 3) sc.nd rfl (Or.inl rfl) pe_str)
  (pss_one (ps_if (pw_or (pt_not (pt_val (pe_callB call_isinstX (by rfl) T.isinstance_ bt_isinstance (pa_cons (pv 4) (pa_cons (pe_globC (by rfl) T.eOutOfFloor.bd) pa_nil))))) (pw_or1 (pt_not (pt_val (pe_callB call_isinstX (by rfl) T.isinstance_ bt_isinstance (pa_cons (pv 4) (pa_cons (pe_bltn (v := .ty "ValueError") (by rfl) T.ValueError_ bt_ValueError (by rfl)) pa_nil))))))).pt
  (pss_one (ps_set (i := 3) sc.nd rfl (Or.inl rfl) pe_str))
  pss_nil)))))
  (pss_one (ps_ret (pv 3))))), ?_⟩
  obtain ⟨pr, vi, rd, td, hF⟩ := hF.ex
  obtain ⟨dx, z, h1, h2⟩ := hF.ex
  refine sq_set ev_c ?_
  refine ⟨fun σ' C H' => σ' = [some (.ref p), some (.ref a), some (.ref b), some .non, none] ∧ H' = H ∧ ((C = .ref cNotAStep ∧ pd g [x, y, w] [x', y', w'] = .nost) ∨ (C = .ref cOutOfFloor ∧ pd g [x, y, w] [x', y', w'] = .out)), fun xe pn => ?_, ?_⟩
  · refine rd_asg0 ⟨_, rfl, p, dx, _, rfl, h1, ln12, _, rfl, _, rfl, p, pr, vi, rd, td, a, b, g, x, y, w, x', y', w', rfl, hF, hg, ha, hb, bc, bd, ?_⟩
    have q' := q H (Same.refl H)
    cases e : pd g [x, y, w] [x', y', w'] with
    | num v =>
      rw [e] at q'
      exact st (rd_ret (ev_var rfl) q')
    | out => exact ⟨rfl, rfl, .inr ⟨rfl, rfl⟩⟩
    | nost => exact ⟨rfl, rfl, .inl ⟨rfl, rfl⟩⟩
  · rintro σ' C H' ⟨rfl, rfl, hC⟩
    rcases hC with ⟨rfl, e⟩ | ⟨rfl, e⟩
    · refine ⟨true, T.xnn, (fun z => nomatch z), fun u hu => ?_⟩
      rw [if_pos rfl]
      have s1 : Same H' (upd H' u (excO u (.ref cNotAStep))) := (Same.refl H').upd hu
      have eP : upd H' u (excO u (.ref cNotAStep)) u = some (excO u (.ref cNotAStep)) := upd_same
      revert s1 eP
      generalize upd H' u (excO u (.ref cNotAStep)) = H1
      intro s1 eP
      have q' := q H1 s1
      rw [e] at q'
      refine sq_set ev_c ?_
      refine rd_ifF (b := false) (et_or (a := false) (et_B (ev_cb (v := .bl false) (ea_cons (ev_var rfl) (ea_cons ev_c ea_nil)) fun Q' q' => ⟨u, cNotAStep, _, _, _, rfl, .ref cOutOfFloor, eP, T.eNotAStep.ok, T.no, q'⟩)) fun _ => et_not (et_B (ev_cb (v := .bl true) (ea_cons (ev_var rfl) (ea_cons ev_c ea_nil)) fun Q' q' => ⟨u, cNotAStep, _, _, _, rfl, .ty "ValueError", eP, T.eNotAStep.ok, T.nv, q'⟩))) rfl ?_
      exact ⟨_, rfl, q'⟩
    · refine ⟨false, T.xon, fun _ => T.xow, fun u hu => ?_⟩
      rw [if_neg (by decide)]
      have s1 : Same H' (upd H' u (excO u (.ref cOutOfFloor))) := (Same.refl H').upd hu
      have eP : upd H' u (excO u (.ref cOutOfFloor)) u = some (excO u (.ref cOutOfFloor)) := upd_same
      revert s1 eP
      generalize upd H' u (excO u (.ref cOutOfFloor)) = H1
      intro s1 eP
      have q' := q H1 s1
      rw [e] at q'
      refine sq_set ev_c ?_
      refine rd_ifF (b := false) (et_or (a := false) (et_not (et_B (ev_cb (v := .bl true) (ea_cons (ev_var rfl) (ea_cons ev_c ea_nil)) fun Q' q' => ⟨u, cOutOfFloor, _, _, _, rfl, .ref cOutOfFloor, eP, T.eOutOfFloor.ok, T.oo, q'⟩))) fun _ => et_not (et_B (ev_cb (v := .bl true) (ea_cons (ev_var rfl) (ea_cons ev_c ea_nil)) fun Q' q' => ⟨u, cOutOfFloor, _, _, _, rfl, .ty "ValueError", eP, T.eOutOfFloor.ok, T.ov, q'⟩))) rfl ?_
      exact ⟨_, rfl, q'⟩
theorem ok_LPDue {cFloor cWireError cNotAStep cOutOfFloor cMS : Addr} {f : Addr} {fd : FuncData} (F : Fun K "_law_pair_due" "_law_pair_due" sLPDue f fd) (T : Txt K mg cFloor cWireError cNotAStep cOutOfFloor cMS) (gLIns : Callee P w K mg base "_law_inside" 1 ["sizes", "spot"] spLIns) (gLBes : Callee P w K mg base "_law_beside" 1 ["one", "two"] spLBes) (gLDue : Callee P w K mg base "_law_due" 1 ["ground", "one", "two"] spLDue) : FnOk P w K mg base CX0 2 f fd ["ground", "one", "two"] spLPDue := by
  have sc : FnScope ["ground", "one", "two"] ["ground", "one", "two"] (defScope sLPDue) := ⟨rfl, rfl, rfl, by decide +kernel, rfl, by decide +kernel, by decide +kernel⟩
  refine F.ok sc (fun vs H Q E h => by repeat (first | (obtain ⟨rfl, _⟩ := h; rfl) | (obtain ⟨_, h⟩ := h))) (fun cdv A outer s H vs Q E hr h => ?_)
  obtain ⟨t, a, b, g, x, y, w, x', y', w', rfl, hT, ha, hb, q⟩ := h
  refine ⟨_, (pss_cons (ps_if (pw_or (pt_not (pt_val (pe_cal gLIns (hr.mono (by decide)) (by rfl) (pa_cons (pe_ix ix_tup (pv 0) pe_int (fun _ _ => rfl)) (pa_cons (pv 1) pa_nil))))) (pw_or1 (pt_not (pt_val (pe_cal gLIns (hr.mono (by decide)) (by rfl) (pa_cons (pe_ix ix_tup (pv 0) pe_int (fun _ _ => rfl)) (pa_cons (pv 2) pa_nil))))))).pt
  (pss_one (ps_ret pe_str))
  pss_nil)
  (pss_cons (ps_if (pw_and (pt_val (pe_cal gLBes (hr.mono (by decide)) (by rfl) (pa_cons (pv 1) (pa_cons (pv 2) pa_nil)))) (pw_and (pt_cmpR (op_notinT hr) (pv 1) (pe_ix ix_tup (pv 0) pe_int (fun _ _ => rfl)) (by with_unfolding_all rfl)) (pw_and1 (pt_cmpR (op_notinT hr) (pv 2) (pe_ix ix_tup (pv 0) pe_int (fun _ _ => rfl)) (by with_unfolding_all rfl))))).pt
  (pss_one (ps_ret (pe_cal gLDue (hr.mono (by decide)) (by rfl) (pa_cons (pv 0) (pa_cons (pv 1) (pa_cons (pv 2) pa_nil))))))
  pss_nil)
  (pss_one (ps_ret pe_str)))), ?_⟩
  obtain ⟨z, pr, vi, ro, td, ht, hG⟩ := hT.ex
  obtain ⟨rs, r1, r2⟩ := hG.ro
  have insE : ∀ {i : Nat} {v : Addr} {cx cy cw : Int}, H v = some (.tup [.int cx, .int cy, .int cw]) → (L2.start ["ground", "one", "two"] [.ref t, .ref a, .ref b])[i]? = some (some (.ref v)) → Ev (tCall spLIns [] E0 (tCons (tOp (rIxT K) (tVar 0) (tC (.int 0))) (tCons (tVar i) tNil))) (L2.start ["ground", "one", "two"] [.ref t, .ref a, .ref b]) H (.bl (insC g [cx, cy, cw])) := fun e1 e2 =>
    ev_cal (sp := spLIns) (ea_cons (ev_ixT (v := .ref z) (ev_var rfl) ev_c (SqT.of ht) rfl) (ea_cons (ev_var e2) ea_nil)) fun Q' q' => ⟨z, _, g.L, g.R, g.C, _, _, _, rfl, hG.z, e1, q'⟩
  refine sq_if (et_or (et_not (et_B (insE ha rfl))) fun _ => et_not (et_B (insE hb rfl))) (fun e => ?_) (fun e => ?_)
  · have q' := q H (Same.refl H)
    have h : insC g [x, y, w] = false ∨ insC g [x', y', w'] = false := by simpa using e
    rw [pd_out h] at q'
    exact rd_ret ev_c q'
  have hh : insC g [x, y, w] = true ∧ insC g [x', y', w'] = true := by simpa using e
  obtain ⟨i1, i2⟩ := hh
  have hpd : pd g [x, y, w] [x', y', w'] = if (bes [x, y, w] [x', y', w'] && (!rkC g [x, y, w] && !rkC g [x', y', w'])) = true then .num (price g [x, y, w] [x', y', w']) else .nost := by
    unfold pd
    rw [i1, i2]; rfl
  rw [hpd] at q
  refine sq_ifof ⟨_, rfl, _, rfl, a, b, x, y, w, x', y', w', rfl, ha, hb, fun H1 s1 => ⟨_, rfl, ?_⟩⟩
  have q' := q H1 s1
  cases e1 : bes [x, y, w] [x', y', w'] with
  | false =>
    rw [e1] at q'
    exact iteF (iteF (rd_ret ev_c q'))
  | true =>
    rw [e1] at q'
    have roE : ∀ {σ : St}, σ[0]? = some (some (.ref t)) → Ev (tOp (rIxT K) (tVar 0) (tC (.int 3))) σ H1 (.ref ro) := fun e => ev_ixT (ev_var e) ev_c (SqT.of (s1 _ _ ht)) rfl
    refine iteT ((et_and (et_test (ev_notinT (c := [x, y, w]) (ev_var rfl) (roE rfl) (s1 _ _ ha) (SqL.of (s1 _ _ r1)) (tups_mono r2 fun _ _ e => s1 _ _ e))) fun _ => et_test (ev_notinT (c := [x', y', w']) (ev_var rfl) (roE rfl) (s1 _ _ hb) (SqL.of (s1 _ _ r1)) (tups_mono r2 fun _ _ e => s1 _ _ e))) _ ?_)
    cases e2 : (!rkC g [x, y, w] && !rkC g [x', y', w']) with
    | false =>
      rw [e2] at q'
      unfold rkC at e2
      rw [e2]
      exact iteF (rd_ret ev_c q')
    | true =>
      rw [e2] at q'
      unfold rkC at e2
      rw [e2]
      refine iteT ?_
      have hm : [x', y', w'] ∈ rndC [x, y, w] := of_decide_eq_true e1
      exact rd_te ⟨_, rfl, _, rfl, _, rfl, t, a, b, g, x, y, w, x', y', w', rfl, hT.same s1, s1 _ _ ha, s1 _ _ hb, of_decide_eq_true i1, of_decide_eq_true i2, hm, q'⟩
theorem ok_LPair {cFloor cWireError cNotAStep cOutOfFloor cMS : Addr} {f : Addr} {fd : FuncData} (F : Fun K "_law_pair" "_law_pair" sLPair f fd) (T : Txt K mg cFloor cWireError cNotAStep cOutOfFloor cMS) (gWhole : Callee P w K mg base "_law_is_whole" 1 ["found"] spWhole) (gLAsk : Callee P w K mg base "_law_asked" 5 ["floor", "one", "two"] (spLAsk cFloor)) (gLPDue : Callee P w K mg base "_law_pair_due" 2 ["ground", "one", "two"] spLPDue) : FnOk P w K mg base CX0 6 f fd ["floor", "ground", "one", "two"] (spLPair cFloor) := by
  have sc : FnScope ["floor", "ground", "one", "two", "due", "told"] ["floor", "ground", "one", "two"] (defScope sLPair) := ⟨rfl, rfl, rfl, by decide +kernel, rfl, by decide +kernel, by decide +kernel⟩
  refine F.ok sc (fun vs H Q E h => by repeat (first | (obtain ⟨rfl, _⟩ := h; rfl) | (obtain ⟨_, h⟩ := h))) (fun cdv A outer s H vs Q E hr h => ?_)
  obtain ⟨p, t, a, b, g, x, y, w, x', y', w', rfl, hF, hT, ha, hb, bc, bd, q⟩ := h
  refine ⟨_, (pss_cons (ps_set (i := 4) sc.nd rfl (Or.inl rfl) (pe_cal gLPDue (hr.mono (by decide)) (by rfl) (pa_cons (pv 1) (pa_cons (pv 2) (pa_cons (pv 3) pa_nil)))))
  (pss_cons (ps_for PassesOwn.never rfl (pi_list (pe_lst (pa_cons (pe_cal gLAsk (hr.mono (by decide)) (by rfl) (pa_cons (pv 0) (pa_cons (pv 2) (pa_cons (pv 3) pa_nil)))) (pa_cons (pe_cal gLAsk (hr.mono (by decide)) (by rfl) (pa_cons (pv 0) (pa_cons (pv 3) (pa_cons (pv 2) pa_nil)))) pa_nil)))) (pg_name (i := 5) sc.nd rfl (Or.inl rfl))
  (pss_cons (ps_if (pt_cmpR op_ne (pv 5) (pv 4) (nomark _))
  (pss_one (ps_ret pe_bl))
  pss_nil)
  (pss_one (ps_if (pw_and (pt_not (pt_val (pe_callB call_isinst (by rfl) T.isinstance_ bt_isinstance (pa_cons (pv 4) (pa_cons (pe_bltn (v := .ty "str") (by rfl) T.str_ bt_str (by rfl)) pa_nil))))) (pw_and1 (pt_not (pt_val (pe_cal gWhole (hr.mono (by decide)) (by rfl) (pa_cons (pv 5) pa_nil)))))).pt
  (pss_one (ps_ret pe_bl))
  pss_nil))))
  (pss_one (ps_ret pe_bl)))), ?_⟩
  have hg := hT.ok
  refine sq_asg (te_cal (sp := spLPDue) (ea_cons (ev_var rfl) (ea_cons (ev_var rfl) (ea_cons (ev_var rfl) ea_nil))) ⟨t, a, b, g, x, y, w, x', y', w', rfl, hT, ha, hb, fun H1 s1 => ?_⟩)
  refine ⟨_, rfl, _, rfl, _, rfl, p, a, b, g, x, y, w, x', y', w', rfl, hF.same s1, hg, s1 _ _ ha, s1 _ _ hb, bc, bd, fun H2 s2 => ?_⟩
  have s12 := s1.trans s2
  refine ⟨_, rfl, _, rfl, _, rfl, p, b, a, g, x', y', w', x, y, w, rfl, hF.same s12, hg, s12 _ _ hb, s12 _ _ ha, bd, bc, fun H3 s3 => ?_⟩
  have s13 := s12.trans s3
  rw [pd_comm g x' y' w' x y w]
  refine ⟨(by show 2 ≤ sizeLine; decide), fun P nP => ⟨P, rfl, ⟨_, SqL.of upd_same⟩, ?_⟩⟩
  have s4 : Same H (upd H3 P (.lst [tv (pd g [x, y, w] [x', y', w']), tv (pd g [x, y, w] [x', y', w'])])) := s13.upd nP
  have hP : upd H3 P (.lst [tv (pd g [x, y, w] [x', y', w']), tv (pd g [x, y, w] [x', y', w'])]) P = some (.lst [tv (pd g [x, y, w] [x', y', w']), tv (pd g [x, y, w] [x', y', w'])]) := upd_same
  revert s4 hP
  generalize upd H3 P (.lst [tv (pd g [x, y, w] [x', y', w']), tv (pd g [x, y, w] [x', y', w'])]) = H4
  intro s4 hP
  refine for_list (K := K) (xs := [tv (pd g [x, y, w] [x', y', w']), tv (pd g [x, y, w] [x', y', w'])]) (fun i σ H' => ∃ x5 : Option V, σ = [some (.ref p), some (.ref t), some (.ref a), some (.ref b), some (tv (pd g [x, y, w] [x', y', w'])), x5] ∧ H' = H4) ⟨none, rfl, rfl⟩ (fun i σ H' _ ⟨_, _, e⟩ => e ▸ SqL.of hP) ?_ ?_
  · rintro i v σ H' hv ⟨x5, rfl, rfl⟩
    have hv : v = tv (pd g [x, y, w] [x', y', w']) := by
      rcases i with _ | _ | i
      · simp at hv; exact hv.symm
      · simp at hv; exact hv.symm
      · simp at hv
    subst hv
    refine gn ?_
    generalize pd g [x, y, w] [x', y', w'] = td
    refine sq_ifF (b := false) (et_test (ev_neS (x := tv td) (ev_var rfl) (ev_var rfl) (by cases td <;> rfl))) rfl ?_
    cases td with
    | num v => exact rd_ifF (b := false) (et_and (a := true) (et_not (et_B (ev_cb (v := .bl false) (ea_cons (ev_var rfl) (ea_cons ev_c ea_nil)) fun Q' q' => ⟨_, _, _, _, _, rfl, .ty "str", .int v, T.is, q'⟩))) fun _ => et_not (et_B (ev_cal (sp := spWhole) (v := .bl true) (ea_cons (ev_var rfl) ea_nil) fun Q' q' => ⟨v, rfl, q'⟩))) rfl ⟨_, rfl, rfl⟩
    | out => exact rd_ifF (b := false) (et_and (a := false) (b := false) (et_not (et_B (ev_cb (v := .bl true) (ea_cons (ev_var rfl) (ea_cons ev_c ea_nil)) fun Q' q' => ⟨_, _, _, _, _, rfl, .ty "str", .str _, T.ss, q'⟩))) fun h => nomatch h) rfl ⟨_, rfl, rfl⟩
    | nost => exact rd_ifF (b := false) (et_and (a := false) (b := false) (et_not (et_B (ev_cb (v := .bl true) (ea_cons (ev_var rfl) (ea_cons ev_c ea_nil)) fun Q' q' => ⟨_, _, _, _, _, rfl, .ty "str", .str _, T.ss, q'⟩))) fun h => nomatch h) rfl ⟨_, rfl, rfl⟩
  · rintro σ H' ⟨x5, rfl, rfl⟩
    exact st (rd_ret ev_c (q _ s4))
theorem ok_LSpots {cFloor cWireError cNotAStep cOutOfFloor cMS : Addr} {f : Addr} {fd : FuncData} (F : Fun K "_law_spots_asked" "_law_spots_asked" sLSpots f fd) (T : Txt K mg cFloor cWireError cNotAStep cOutOfFloor cMS) (gSpot : Callee P w K mg base "_law_spot" 1 ["sizes", "number"] spSpot) (gLNear : Callee P w K mg base "_law_near" 2 ["ground", "spot"] spLNear) (gLSteps : Callee P w K mg base "_law_steps" 5 ["floor", "ground", "spot"] (spLSteps cFloor)) (gLPair : Callee P w K mg base "_law_pair" 6 ["floor", "ground", "one", "two"] (spLPair cFloor)) : FnOk P w K mg base CX0 7 f fd ["floor", "ground"] (spLSpots cFloor) := by
  have sc : FnScope ["floor", "ground", "sizes", "number", "spot", "other"] ["floor", "ground"] (defScope sLSpots) := ⟨rfl, rfl, rfl, by decide +kernel, rfl, by decide +kernel, by decide +kernel⟩
  refine F.ok sc (fun vs H Q E h => by repeat (first | (obtain ⟨rfl, _⟩ := h; rfl) | (obtain ⟨_, h⟩ := h))) (fun cdv A outer s H vs Q E hr h => ?_)
  obtain ⟨p, t, g, rfl, hF, hT, q⟩ := h
  refine ⟨_, (pss_cons (ps_set (i := 2) sc.nd rfl (Or.inl rfl) (pe_ix ix_tup (pv 1) pe_int (fun _ _ => rfl)))
  (pss_cons (ps_for PassesOwn.never rfl (pi_range1 (by rfl) T.range_ (pa_cons (pe_op op_mul (pe_op op_mul (pe_ix ix_tup (pv 2) pe_int (fun _ _ => rfl)) (pe_ix ix_tup (pv 2) pe_int (fun _ _ => rfl))) (pe_ix ix_tup (pv 2) pe_int (fun _ _ => rfl))) pa_nil)) (pg_name (i := 3) sc.nd rfl (Or.inl rfl))
  (pss_cons (ps_set (i := 4) sc.nd rfl (Or.inl rfl) (pe_cal gSpot (hr.mono (by decide)) (by rfl) (pa_cons (pv 2) (pa_cons (pv 3) pa_nil))))
  (pss_cons (ps_if (pt_not (pt_val (pe_cal gLSteps (hr.mono (by decide)) (by rfl) (pa_cons (pv 0) (pa_cons (pv 1) (pa_cons (pv 4) pa_nil))))))
  (pss_one (ps_ret pe_bl))
  pss_nil)
  (pss_one (ps_for PassesOwn.never rfl (pi_list (pe_cal gLNear (hr.mono (by decide)) (by rfl) (pa_cons (pv 1) (pa_cons (pv 4) pa_nil)))) (pg_name (i := 5) sc.nd rfl (Or.inl rfl))
  (pss_one (ps_if (pt_not (pt_val (pe_cal gLPair (hr.mono (by decide)) (by rfl) (pa_cons (pv 0) (pa_cons (pv 1) (pa_cons (pv 4) (pa_cons (pv 5) pa_nil)))))))
  (pss_one (ps_ret pe_bl))
  pss_nil)))))))
  (pss_one (ps_ret pe_bl)))), ?_⟩
  have hg := hT.ok
  have S := hg.S
  have hM := hg.M
  have hm := hg.m
  obtain ⟨z, pr, vi, ro, td, ht, hG⟩ := hT.ex
  have hz := hG.z
  refine sq_set (v := .ref z) (ev_ixT (ev_var rfl) ev_c (SqT.of ht) rfl) ?_
  have l1 := S.l1; have r1 := S.r1; have c1 := S.c1; have l0 := S.l0; have r0 := S.r0; have c0 := S.c0
  refine sq_rng1 (j := g.L * g.R * g.C) (ea_cons (ev_I (ev_I (ev_ixT (v := .int g.L) (ev_var rfl) ev_c (SqT.of hz) rfl) (ev_ixT (v := .int g.R) (ev_var rfl) ev_c (SqT.of hz) rfl) (cmR (by omega) (by omega))) (ev_ixT (v := .int g.C) (ev_var rfl) ev_c (SqT.of hz) rfl) (cmR (by omega) (by omega))) ea_nil) (by rw [← hM]; omega) (by rw [← hM]; omega) ?_
  rw [← hM, Int.toNat_natCast]
  refine for_range (n := g.M) (fun i σ H' => ∃ (x3 x4 x5 : Option V), σ = [some (.ref p), some (.ref t), some (.ref z), x3, x4, x5] ∧ Same H H') ⟨none, none, none, rfl, Same.refl H⟩ ?_ ?_
  · rintro i σ H' hi ⟨x3, x4, x5, rfl, s⟩
    refine gn ?_
    refine sq_asg (te_cal (sp := spSpot) (ea_cons (ev_var rfl) (ea_cons (ev_var rfl) ea_nil)) ⟨z, g.L, g.R, g.C, _, rfl, s _ _ hz, S, fun b nb => ?_⟩)
    have hin := sN_ins S (n := i) (by omega)
    rw [show ((0 + (i : Int)) % (g.L * g.R * g.C)).toNat = i by rw [← hM, Int.zero_add, Int.emod_eq_of_lt (by omega) (by omega)]; rfl]
    have s1 : Same H' (upd H' b (.tup ((sN g.R g.C i).map V.int))) := (Same.refl H').upd nb
    have hb : At3 (upd H' b (.tup ((sN g.R g.C i).map V.int))) b ((i : Int) / g.C / g.R) ((i : Int) / g.C % g.R) ((i : Int) % g.C) := upd_same
    revert s1 hb hin
    generalize upd H' b (.tup ((sN g.R g.C i).map V.int)) = H1
    generalize (i : Int) / g.C / g.R = x
    generalize (i : Int) / g.C % g.R = y
    generalize (i : Int) % g.C = w
    intro hin s1 hb
    have s2 := s.trans s1
    refine sq_ifof ⟨_, rfl, _, rfl, _, rfl, p, t, b, g, x, y, w, rfl, hF.same s2, hT.same s2, hb, hin, fun H3 s3 => ⟨_, rfl, iteF ?_⟩⟩
    have s13 := s2.trans s3
    have hb3 := s3 _ _ hb
    refine rd_forC (K := K) (sp := spLNear) (ea_cons (ev_var rfl) (ea_cons (ev_var rfl) ea_nil)) ⟨t, b, g, x, y, w, rfl, hT.same s13, hb3, fun H4 l s4 nl hl => ?_⟩
    obtain ⟨as, e1, e2⟩ := hl
    have hb4 := s4 _ _ hb3
    have s14 := s13.trans s4
    refine ⟨l, rfl, ⟨_, SqL.of e1⟩, ?_⟩
    refine for_list (K := K) (xs := as.map V.ref) (fun j σ H' => ∃ (x5 : Option V), σ = [some (.ref p), some (.ref t), some (.ref z), some (.int (0 + (i : Int))), some (.ref b), x5] ∧ Same H4 H') ⟨_, rfl, Same.refl H4⟩ (fun j σ H' _ ⟨_, _, s⟩ => SqL.of (s _ _ e1)) ?_ ?_
    · rintro j v σ H5 hv ⟨x5, rfl, s5⟩
      obtain ⟨a, ha, rfl⟩ := at_ref hv
      obtain ⟨c, hc, hac⟩ := tups_at e2 ha
      have hcm := List.mem_of_getElem? hc
      obtain ⟨x', y', w', rfl⟩ := near_three hcm
      have hpd := near_pd (decide_eq_true hin : insC g [x, y, w] = true) hcm
      have hi' : Ins g.L g.R g.C x' y' w' := of_decide_eq_true hpd.2.2
      have s15 := s14.trans s5
      refine gn ?_
      exact rd_ifof ⟨_, rfl, _, rfl, _, rfl, _, rfl, p, t, b, a, g, x, y, w, x', y', w', rfl, hF.same s15, hT.same s15, s5 _ _ hb4, s5 _ _ hac, bd_ins S hin, bd_ins S hi', fun H6 s6 => ⟨_, rfl, iteF ⟨_, rfl, s5.trans s6⟩⟩⟩
    · rintro σ H5 ⟨x5, rfl, s5⟩
      exact ⟨_, _, _, rfl, s14.trans s5⟩
  · rintro σ H' ⟨x3, x4, x5, rfl, s⟩
    exact st (rd_ret ev_c (q _ s))
theorem ok_LWDue {cFloor cWireError cNotAStep cOutOfFloor cMS : Addr} {f : Addr} {fd : FuncData} (F : Fun K "_law_way_due" "_law_way_due" sLWDue f fd) (T : Txt K mg cFloor cWireError cNotAStep cOutOfFloor cMS) (gLPDue : Callee P w K mg base "_law_pair_due" 2 ["ground", "one", "two"] spLPDue) : FnOk P w K mg base CX0 3 f fd ["ground", "way"] spLWDue := by
  have sc : FnScope ["ground", "way", "due", "k", "price"] ["ground", "way"] (defScope sLWDue) := ⟨rfl, rfl, rfl, by decide +kernel, rfl, by decide +kernel, by decide +kernel⟩
  refine F.ok sc (fun vs H Q E h => by repeat (first | (obtain ⟨rfl, _⟩ := h; rfl) | (obtain ⟨_, h⟩ := h))) (fun cdv A outer s H vs Q E hr h => ?_)
  obtain ⟨t, l, g, cs, rfl, hT, ⟨as, e1, e2⟩, p3, hz, q⟩ := h
  refine ⟨_, (pss_cons (ps_set (i := 2) sc.nd rfl (Or.inl rfl) pe_int)
  (pss_cons (ps_for PassesOwn.never rfl (pi_range1 (by rfl) T.range_ (pa_cons (pe_op op_sub (pe_callB call_len (by rfl) T.len_ bt_len (pa_cons (pv 1) pa_nil)) pe_int) pa_nil)) (pg_name (i := 3) sc.nd rfl (Or.inl rfl))
  (pss_cons (ps_set (i := 4) sc.nd rfl (Or.inl rfl) (pe_cal gLPDue (hr.mono (by decide)) (by rfl) (pa_cons (pv 0) (pa_cons (pe_ix ix_list (pv 1) (pv 3) (fun _ _ => rfl)) (pa_cons (pe_ix ix_list (pv 1) (pe_op op_add (pv 3) pe_int) (fun _ _ => rfl)) pa_nil)))))
  (pss_cons (ps_if (pt_val (pe_callB call_isinst (by rfl) T.isinstance_ bt_isinstance (pa_cons (pv 4) (pa_cons (pe_bltn (v := .ty "str") (by rfl) T.str_ bt_str (by rfl)) pa_nil))))
  (pss_one (ps_ret (pv 4)))
  pss_nil)
  (pss_one (ps_set (i := 2) sc.nd rfl (Or.inl rfl) (pe_op op_add (pv 2) (pv 4)))))))
  (pss_one (ps_ret (pv 2))))), ?_⟩
  have len : as.length = cs.length := Paired.length e2
  refine sq_set ev_c ?_
  refine sq_rng1 (j := ((as.map V.ref).length : Nat) - 1) (ea_cons (ev_I0 (ev_cb (v := .int ((as.map V.ref).length : Nat)) (ea_cons (ev_var rfl) ea_nil) fun Q' q' => ⟨_, _, rfl, .inl ⟨_, SqL.of e1, rfl⟩, q'⟩) ev_c) ea_nil) (by omega) (by rw [List.length_map]; omega) ?_
  refine for_range (n := (((as.map V.ref).length : Nat) - 1 : Int).toNat) (fun i σ H' => ∃ (v : Int) (x3 x4 : Option V), σ = [some (.ref t), some (.ref l), some (.int v), x3, x4] ∧ Same H H' ∧ Good g cs i v) ⟨0, none, none, rfl, Same.refl H, Good.zero⟩ ?_ ?_
  · rintro i σ H' hi ⟨v, x3, x4, rfl, s, hG⟩
    have hi2 : i + 1 < as.length := by rw [List.length_map] at hi; omega
    obtain ⟨a1, h1⟩ : ∃ a, as[i]? = some a := ⟨_, List.getElem?_eq_getElem (by omega)⟩
    obtain ⟨a2, h2⟩ : ∃ a, as[i + 1]? = some a := ⟨_, List.getElem?_eq_getElem hi2⟩
    obtain ⟨c, hc, hac⟩ := tups_at e2 h1
    obtain ⟨d, hd, had⟩ := tups_at e2 h2
    obtain ⟨x, y, w, rfl, bc⟩ := p3 c (List.mem_of_getElem? hc)
    obtain ⟨x', y', w', rfl, bd⟩ := p3 d (List.mem_of_getElem? hd)
    refine gn ?_
    have e1' := s _ _ e1
    refine sq_asg (te_cal (sp := spLPDue) (vs := [.ref t, .ref a1, .ref a2]) (ea_cons (ev_var rfl) (ea_cons (ev_ixL (ev_var rfl) (ev_var rfl) (SqL.of e1') (by rw [Int.zero_add]; exact atI_nat (by rw [List.getElem?_map, h1]; rfl))) (ea_cons (ev_ixL (ev_var rfl) (ev_I0 (ev_var rfl) ev_c) (SqL.of e1') (by rw [show (0 + (i : Int)) + 1 = ((i + 1 : Nat) : Int) by omega]; exact atI_nat (by rw [List.getElem?_map, h2]; rfl))) ea_nil))) ⟨t, a1, a2, g, x, y, w, x', y', w', rfl, hT.same s, s _ _ hac, s _ _ had, fun H2 s2 => ?_⟩)
    have s12 := s.trans s2
    cases e : pd g [x, y, w] [x', y', w'] with
    | num u =>
      refine sq_ifF (b := false) (et_B (ev_cb (v := .bl false) (ea_cons (ev_var rfl) (ea_cons ev_c ea_nil)) fun Q' q' => ⟨_, _, _, _, _, rfl, .ty "str", .int u, T.is, q'⟩)) rfl ?_
      exact rd_set (v := .int (v + u)) (ev_I0 (ev_var rfl) (ev_var rfl)) ⟨_, _, _, rfl, s12, hG.step hc hd e⟩
    | out =>
      have q' := q H2 s12
      rw [hG.stop hc hd (by rw [e]; exact fun _ z => nomatch z), e] at q'
      exact sq_if (b := true) (et_B (ev_cb (v := .bl true) (ea_cons (ev_var rfl) (ea_cons ev_c ea_nil)) fun Q' q' => ⟨_, _, _, _, _, rfl, .ty "str", .str _, T.ss, q'⟩)) (fun _ => rd_ret (ev_var rfl) q') (fun h => nomatch h)
    | nost =>
      have q' := q H2 s12
      rw [hG.stop hc hd (by rw [e]; exact fun _ z => nomatch z), e] at q'
      exact sq_if (b := true) (et_B (ev_cb (v := .bl true) (ea_cons (ev_var rfl) (ea_cons ev_c ea_nil)) fun Q' q' => ⟨_, _, _, _, _, rfl, .ty "str", .str _, T.ss, q'⟩)) (fun _ => rd_ret (ev_var rfl) q') (fun h => nomatch h)
  · rintro σ H' ⟨v, x3, x4, rfl, s, hG⟩
    have q' := q H' s
    rw [List.length_map] at hG
    rw [hG.done (by omega)] at q'
    exact st (rd_ret (ev_var rfl) q')
theorem ok_LWAsk {cFloor cWireError cNotAStep cOutOfFloor cMS : Addr} {f : Addr} {fd : FuncData} (F : Fun K "_law_way_asked" "_law_way_asked" sLWAsk f fd) (T : Txt K mg cFloor cWireError cNotAStep cOutOfFloor cMS) (gWayP : MCalleeX P w K mg base cFloor "way_price" 5 ["self", "way"] (spWayP cFloor cOutOfFloor cNotAStep)) : FnOk P w K mg base CX0 6 f fd ["floor", "way"] (spLWAsk cFloor) := by
  have sc : FnScope ["floor", "way", "told"] ["floor", "way"] (defScope sLWAsk) := ⟨rfl, rfl, rfl, by decide +kernel, rfl, by decide +kernel, by decide +kernel⟩
  refine F.ok sc (fun vs H Q E h => by repeat (first | (obtain ⟨rfl, _⟩ := h; rfl) | (obtain ⟨_, h⟩ := h))) (fun cdv A outer s H vs Q E hr h => ?_)
  obtain ⟨p, l, g, cs, rfl, hF, hg, hl, p3, hz, q⟩ := h
  refine ⟨_, (pss_cons (ps_set (i := 2) sc.nd rfl (Or.inl rfl) pe_str)
  (pss_cons (ps_tryB rfl rfl rfl (by rfl) T.eNotAStep.bd (by rfl) T.eOutOfFloor.bd (fun Ex xe pn hx => (pss_one (ps_set (i := 2) sc.nd rfl (Or.inl rfl) (pe_metX (pv 0) T.cl_Floor gWayP (hr.mono (by decide)) hx (pa_cons (pv 1) pa_nil)))))
  (fun a => (pss_one (ps_set (i := 2) sc.nd rfl (Or.inl rfl) pe_str)))
  (fun a => (pss_one (ps_set (i := 2) sc.nd rfl (Or.inl rfl) pe_str))))
  (pss_one (ps_ret (pv 2))))), ?_⟩
  obtain ⟨pr, vi, rd, td, hF⟩ := hF.ex
  obtain ⟨dx, z, h1, h2⟩ := hF.ex
  refine sq_set ev_c ?_
  refine ⟨fun σ' C H' => σ' = [some (.ref p), some (.ref l), some (.str "none")] ∧ Same H H' ∧ ((C = .ref cNotAStep ∧ wd g cs = .nost) ∨ (C = .ref cOutOfFloor ∧ wd g cs = .out)), fun xe pn => ?_, ?_⟩
  · refine rd_asg0 ⟨_, rfl, p, dx, _, rfl, h1, ln13, _, rfl, p, pr, vi, rd, td, l, g, cs, rfl, hF, hg, hl, p3, hz, fun H1 s1 => ?_⟩
    have q' := q H1 s1
    cases e : wd g cs with
    | num v =>
      rw [e] at q'
      exact st (rd_ret (ev_var rfl) q')
    | out => exact ⟨rfl, s1, .inr ⟨rfl, rfl⟩⟩
    | nost => exact ⟨rfl, s1, .inl ⟨rfl, rfl⟩⟩
  · rintro σ' C H' ⟨rfl, s, hC⟩
    have q' := q H' s
    rcases hC with ⟨rfl, e⟩ | ⟨rfl, e⟩
    · rw [e] at q'
      refine ⟨true, T.xnn, (fun z => nomatch z), ?_⟩
      rw [if_pos rfl]
      exact rd_set (v := .str "nostep") ev_c ⟨_, rfl, q'⟩
    · rw [e] at q'
      refine ⟨false, T.xon, (fun _ => T.xoo), ?_⟩
      rw [if_neg (by decide)]
      exact rd_set (v := .str "outside") ev_c ⟨_, rfl, q'⟩
theorem at_last {xs : List V} {v : V} : atI (xs ++ [v]) (-1) = some v := by
  unfold atI ixN
  have h1 : ¬ (0 : Int) ≤ -1 := by decide
  rw [if_neg h1]
  have h2 : -(((xs ++ [v]).length : Nat) : Int) ≤ -1 := by rw [List.length_append, List.length_singleton]; omega
  have h3 : ((((xs ++ [v]).length : Nat) : Int) + -1).toNat = xs.length := by rw [List.length_append]; simp; omega
  have h4 : (-1 + (((xs ++ [v]).length : Nat) : Int)).toNat = xs.length := by rw [List.length_append]; simp; omega
  first
    | (rw [if_pos h2, h3]; simp)
    | (rw [if_pos h2, h4]; simp)
    | simp
theorem ta_ev {te : TE} {tr : TA} {σ : St} {H : Hp} {v : V} {Q : List V → Hp → Prop} (h : Ev te σ H v) (q : tr σ H fun xs H2 => Q (v :: xs) H2) : tCons te tr σ H Q := h _ q
theorem at_of {xs : List Addr} {i : Int} (h0 : 0 ≤ i) (h1 : i < xs.length) : ∃ b, xs[i.toNat]? = some b ∧ atI (xs.map V.ref) i = some (.ref b) := by
  obtain ⟨n, rfl⟩ := Int.eq_ofNat_of_zero_le h0
  have hi : n < xs.length := by omega
  refine ⟨xs[n], List.getElem?_eq_getElem hi, atI_nat ?_⟩
  rw [List.getElem?_map, List.getElem?_eq_getElem hi]; rfl
theorem ok_LWalk {cFloor cWireError cNotAStep cOutOfFloor cMS : Addr} {f : Addr} {fd : FuncData} (F : Fun K "_law_walked" "_law_walked" sLWalk f fd) (T : Txt K mg cFloor cWireError cNotAStep cOutOfFloor cMS) (gWayP : MCalleeX P w K mg base cFloor "way_price" 5 ["self", "way"] (spWayP cFloor cOutOfFloor cNotAStep)) (gCell : Callee P w K mg base "_law_cell_at" 1 ["script", "k"] (spCell K)) (gWhole : Callee P w K mg base "_law_is_whole" 1 ["found"] spWhole) (gSpot : Callee P w K mg base "_law_spot" 1 ["sizes", "number"] spSpot) (gLDue : Callee P w K mg base "_law_due" 1 ["ground", "one", "two"] spLDue) (gLNear : Callee P w K mg base "_law_near" 2 ["ground", "spot"] spLNear) (gLWDue : Callee P w K mg base "_law_way_due" 3 ["ground", "way"] spLWDue) (gLWAsk : Callee P w K mg base "_law_way_asked" 6 ["floor", "way"] (spLWAsk cFloor)) : FnOk P w K mg base CX0 7 f fd ["floor", "ground", "script"] (spLWalk K cFloor) := by
  have sc : FnScope ["floor", "ground", "script", "way", "due", "cell", "near", "spot", "told", "k"] ["floor", "ground", "script"] (defScope sLWalk) := ⟨rfl, rfl, rfl, by decide +kernel, rfl, by decide +kernel, by decide +kernel⟩
  refine F.ok sc (fun vs H Q E h => by repeat (first | (obtain ⟨rfl, _⟩ := h; rfl) | (obtain ⟨_, h⟩ := h))) (fun cdv A outer s H vs Q E hr h => ?_)
  obtain ⟨p, t, a, g, ns, rfl, hF, hT, hs, hl, q⟩ := h
  refine ⟨_, (pss_cons (ps_set (i := 3) sc.nd rfl (Or.inl rfl) (pe_lst (pa_cons (pe_cal gSpot (hr.mono (by decide)) (by rfl) (pa_cons (pe_ix ix_tup (pv 1) pe_int (fun _ _ => rfl)) (pa_cons (pe_cal gCell (hr.mono (by decide)) (by rfl) (pa_cons (pv 2) (pa_cons pe_int pa_nil))) pa_nil))) pa_nil)))
  (pss_cons (ps_set (i := 4) sc.nd rfl (Or.inl rfl) pe_int)
  (pss_cons (ps_for PassesOwn.never rfl (pi_list (pe_slice sl_list (pv 2) po_none (po_some pe_int))) (pg_name (i := 5) sc.nd rfl (Or.inl rfl))
  (pss_cons (ps_set (i := 6) sc.nd rfl (Or.inl rfl) (pe_cal gLNear (hr.mono (by decide)) (by rfl) (pa_cons (pv 1) (pa_cons (pe_ix ix_list (pv 3) (pe_un un_neg pe_int) (fun _ _ => rfl)) pa_nil))))
  (pss_one (ps_if (pt_cmpR op_gt (pe_callB call_len (by rfl) T.len_ bt_len (pa_cons (pv 6) pa_nil)) pe_int (nomark _))
  (pss_cons (ps_set (i := 7) sc.nd rfl (Or.inl rfl) (pe_ix ix_list (pv 6) (pe_op op_mod (pv 5) (pe_callB call_len (by rfl) T.len_ bt_len (pa_cons (pv 6) pa_nil))) (fun _ _ => rfl)))
  (pss_cons (ps_set (i := 4) sc.nd rfl (Or.inl rfl) (pe_op op_add (pv 4) (pe_cal gLDue (hr.mono (by decide)) (by rfl) (pa_cons (pv 1) (pa_cons (pe_ix ix_list (pv 3) (pe_un un_neg pe_int) (fun _ _ => rfl)) (pa_cons (pv 7) pa_nil))))))
  (pss_one (ps_expr (pe_bm PySem.F.plainAttrs_list PySem.F.slot_list_append PySem.F.type_list_append mt_append (pv 3) (pa_cons (pv 7) pa_nil))))))
  pss_nil))))
  (pss_cons (ps_set (i := 8) sc.nd rfl (Or.inl rfl) (pe_metX (pv 0) T.cl_Floor gWayP (hr.mono (by decide)) comesF (pa_cons (pv 3) pa_nil)))
  (pss_cons (ps_if (pw_or (pt_not (pt_val (pe_cal gWhole (hr.mono (by decide)) (by rfl) (pa_cons (pv 8) pa_nil)))) (pw_or1 (pt_cmpR op_ne (pv 8) (pv 4) (nomark _)))).pt
  (pss_one (ps_ret pe_bl))
  pss_nil)
  (pss_cons (ps_for PassesOwn.never rfl (pi_range2 (by rfl) T.range_ (pa_cons pe_int (pa_cons pe_int pa_nil))) (pg_name (i := 9) sc.nd rfl (Or.inl rfl))
  (pss_cons (ps_set (i := 5) sc.nd rfl (Or.inl rfl) (pe_cal gCell (hr.mono (by decide)) (by rfl) (pa_cons (pv 2) (pa_cons (pv 9) pa_nil))))
  (pss_cons (ps_set (i := 7) sc.nd rfl (Or.inl rfl) (pe_cal gSpot (hr.mono (by decide)) (by rfl) (pa_cons (pe_ix ix_tup (pv 1) pe_int (fun _ _ => rfl)) (pa_cons (pv 5) pa_nil))))
  (pss_cons (ps_if (pt_cmpR op_eq (pe_op op_mod (pe_op op_fdivB (pv 5) pe_int) pe_int) pe_int (nomark _))
  (pss_one (ps_set (i := 7) sc.nd rfl (Or.inl rfl) (pe_tup (pa_cons (pe_ix ix_tup (pv 7) pe_int (fun _ _ => rfl)) (pa_cons (pe_op op_add (pe_ix ix_tup (pv 7) pe_int (fun _ _ => rfl)) pe_int) (pa_cons (pe_ix ix_tup (pv 7) pe_int (fun _ _ => rfl)) pa_nil))))))
  pss_nil)
  (pss_cons (ps_expr (pe_bm PySem.F.plainAttrs_list PySem.F.slot_list_insert PySem.F.type_list_insert mt_insert (pv 3) (pa_cons (pe_op op_mod (pv 5) (pe_op op_add (pe_callB call_len (by rfl) T.len_ bt_len (pa_cons (pv 3) pa_nil)) pe_int)) (pa_cons (pv 7) pa_nil))))
  (pss_one (ps_if (pt_cmpR op_ne (pe_cal gLWAsk (hr.mono (by decide)) (by rfl) (pa_cons (pv 0) (pa_cons (pv 3) pa_nil))) (pe_cal gLWDue (hr.mono (by decide)) (by rfl) (pa_cons (pv 1) (pa_cons (pv 3) pa_nil))) (nomark _))
  (pss_one (ps_ret pe_bl))
  pss_nil)))))))
  (pss_one (ps_ret pe_bl)))))))), ?_⟩
  have hsz : sizeLine = 2 ^ 24 := rfl
  have hg := hT.ok
  have S := hg.S
  have hM := hg.M
  obtain ⟨z, pr0, vi0, ro, td0, ht, hG⟩ := hT.ex
  have hz := hG.z
  obtain ⟨pr, vi, rd, td, hF'⟩ := hF.ex
  obtain ⟨dx, zf, h1, h2⟩ := hF'.ex
  have mpos : 0 < g.L * g.R * g.C := Int.mul_pos (Int.mul_pos (by have := S.l0; omega) (by have := S.r0; omega)) (by have := S.c0; omega)
  have spotN : ∀ n : Int, ∃ x y w : Int, (sN g.R g.C (n % (g.L * g.R * g.C)).toNat).map V.int = [.int x, .int y, .int w] ∧ Ins g.L g.R g.C x y w := fun n => ⟨_, _, _, rfl, sN_ins S (by rw [Int.toNat_of_nonneg (Int.emod_nonneg _ (by omega))]; exact Int.emod_lt_of_pos _ mpos)⟩
  refine sq_asg ⟨_, rfl, _, _, _, _, rfl, rfl, SqT.of ht, rfl, _, rfl, a, ns, 2, rfl, hs, by decide, fun cv => ⟨z, g.L, g.R, g.C, cv, rfl, hz, S, fun b nb => ⟨(by show 1 ≤ sizeLine; decide), fun W nW => ?_⟩⟩⟩
  obtain ⟨x, y, w, exyz, hin⟩ := spotN cv
  rw [exyz] at nW ⊢
  have s1 : Same H (upd (upd H b (.tup [.int x, .int y, .int w])) W (.lst [.ref b])) := ((Same.refl H).upd nb).upd nW
  have nWb : b ≠ W := fun e => by rw [← e, upd_same] at nW; cases nW
  have hb1 : At3 (upd (upd H b (.tup [.int x, .int y, .int w])) W (.lst [.ref b])) b x y w := by unfold At3; rw [upd_ne nWb]; exact upd_same
  have hW1 : upd (upd H b (.tup [.int x, .int y, .int w])) W (.lst [.ref b]) W = some (.lst ((([] : List Addr) ++ [b]).map V.ref)) := upd_same
  have nWH : H W = none := fresh_of ((Same.refl H).upd nb) nW
  revert s1 hb1 hW1
  generalize upd (upd H b (.tup [.int x, .int y, .int w])) W (.lst [.ref b]) = H1
  intro s1 hb1 hW1
  refine sq_set ev_c ?_
  refine ⟨_, rfl, 200, rfl, a, _, rfl, s1.seq hs, fun sl nsl => ⟨sl, rfl, ⟨_, SqL.of upd_same⟩, ?_⟩⟩
  obtain ⟨xs, exs, lxs⟩ := cut_int ns none (some 200)
  rw [exs]
  have s2 : Same H1 (upd H1 sl (.lst (xs.map V.int))) := (Same.refl H1).upd nsl
  have hsl : upd H1 sl (.lst (xs.map V.int)) sl = some (.lst (xs.map V.int)) := upd_same
  have nslW : sl ≠ W := fun e => by rw [e, hW1] at nsl; cases nsl
  revert s2 hsl
  generalize upd H1 sl (.lst (xs.map V.int)) = H2
  intro s2 hsl
  have s12 := s1.trans s2
  have ntW : ∀ {c : Addr} {o : HO}, H c = some o → c ≠ W := fun e z => by rw [z, nWH] at e; cases e
  refine for_list (K := K) (xs := xs.map V.int) (fun i σ H' => ∃ (v : Int) (x5 x6 x7 : Option V) (as : List Addr) (b : Addr) (cs : List T3) (x y w : Int), σ = [some (.ref p), some (.ref t), some (.ref a), some (.ref W), some (.int v), x5, x6, x7, none, none] ∧ Sb W H2 H' ∧ H' W = some (.lst ((as ++ [b]).map V.ref)) ∧ Tups H' as cs ∧ At3 H' b x y w ∧ Ins g.L g.R g.C x y w ∧ P3 cs ∧ wd g (cs ++ [[x, y, w]]) = .num v ∧ as.length ≤ i)
    ⟨0, none, none, none, [], b, [], x, y, w, rfl, Sb.refl W H2, s2 _ _ hW1, .nil, s2 _ _ hb1, hin, (fun _ h => nomatch h), rfl, Nat.le_refl _⟩ (fun i σ H' _ ⟨_, _, _, _, _, _, _, _, _, _, _, sb, _⟩ => SqL.of (sb _ _ nslW hsl)) ?_ ?_
  · rintro i c σ H' hc ⟨v, x5, x6, x7, as, b, cs, x, y, w, rfl, sb, hW, htu, hb, hin, p3, hwd, hal⟩
    obtain ⟨c, rfl, hci⟩ := int_at hc
    have hi : i < xs.length := (List.getElem?_eq_some_iff.mp hci).1
    have sH : Same H H' := fun b o e => sb b o (ntW e) (s12 _ _ e)
    have lastE : ∀ {σ : St} {H3 : Hp}, H3 W = some (.lst ((as ++ [b]).map V.ref)) → σ[3]? = some (some (.ref W)) → Ev (tOp (rIxL K) (tVar 3) (tUn (rU fun i => V.int (-i)) (tC (.int 1)))) σ H3 (.ref b) := fun e1 e2 => ev_ixL (ev_var e2) (ev_U ev_c) (SqL.of e1) (by rw [List.map_append]; exact at_last)
    refine gn ?_
    refine sq_asg (te_cal (sp := spLNear) (ea_cons (ev_var rfl) (ea_cons (lastE hW rfl) ea_nil)) ⟨t, b, g, x, y, w, rfl, hT.same sH, hb, fun H3 n s3 nn hn => ?_⟩)
    obtain ⟨nl, n1, n2⟩ := hn
    have lenN : nl.length = (nearL g [x, y, w]).length := Paired.length n2
    have lenE : ∀ {σ : St}, σ[6]? = some (some (.ref n)) → Ev (tCB (fun xs H Q => ∃ x n, xs = [x] ∧ LenV K x H n ∧ Q (.int (n : Nat)) H) (tCons (tVar 6) tNil)) σ H3 (.int ((nl.map V.ref).length : Nat)) := fun e2 => ev_cb (ea_cons (ev_var e2) ea_nil) fun Q' q' => ⟨_, _, rfl, .inl ⟨_, SqL.of n1, rfl⟩, q'⟩
    have nnW : n ≠ W := fun e => by rw [e, hW] at nn; cases nn
    have sH3 := sH.trans s3
    have hW3 := s3 _ _ hW
    have hb3 := s3 _ _ hb
    refine rd_if (et_test (ev_I0 (lenE rfl) ev_c)) (fun e => ?_) (fun e => ?_)
    · have e : (0 : Int) < ((nl.map V.ref).length : Nat) := by simpa using e
      have e' : (0 : Int) < (nl.length : Nat) := by rw [List.length_map] at e; exact e
      obtain ⟨nb, hnb, atn⟩ := at_of (xs := nl) (i := c % ((nl.map V.ref).length : Nat)) (Int.emod_nonneg _ (by omega)) (by have := Int.emod_lt_of_pos c e; rw [List.length_map] at this ⊢; exact this)
      obtain ⟨d, hd, had⟩ := tups_at n2 hnb
      have hdm := List.mem_of_getElem? hd
      obtain ⟨x', y', w', rfl⟩ := near_three hdm
      have hpd := near_pd (decide_eq_true hin : insC g [x, y, w] = true) hdm
      have hi' : Ins g.L g.R g.C x' y' w' := of_decide_eq_true hpd.2.2
      have hbe : [x', y', w'] ∈ rndC [x, y, w] := of_decide_eq_true hpd.2.1
      refine sq_set (v := .ref nb) (ev_ixL (ev_var rfl) (ev_I (ev_var rfl) (lenE rfl) e) (SqL.of n1) atn) ?_
      refine sq_set (v := .int (v + price g [x, y, w] [x', y', w'])) (ev_I0 (ev_var rfl) (ev_cal (sp := spLDue) (ea_cons (ev_var rfl) (ea_cons (lastE hW3 rfl) (ea_cons (ev_var rfl) ea_nil))) fun Q' q' => ⟨t, b, nb, g, x, y, w, x', y', w', rfl, hT.same sH3, hb3, had, hin, hi', hbe, q'⟩)) ?_
      refine ⟨_, rfl, .inl ⟨rfl, _, SqL.of hW3⟩, _, rfl, W, _, _, rfl, rfl, hW3, by rw [List.length_map, List.length_append]; show as.length + 1 < _; omega, ?_⟩
      have kt : ∀ c xs, H3 c = some (.tup xs) → upd H3 W (.lst ((as ++ [b]).map V.ref ++ [.ref nb])) c = some (.tup xs) := keep_lst0 hW3
      refine ⟨_, _, _, _, as ++ [b], nb, cs ++ [[x, y, w]], x', y', w', rfl, (sb.trans (Sb.of s3)).set, by rw [upd_same, List.map_append (l₁ := as ++ [b])]; rfl, tups_app (tups_mono htu fun c xs e => kt _ _ (s3 _ _ e)) (.cons (kt _ _ hb3) .nil), kt _ _ had, hi', fun d hd => ?_, wdF_snoc hwd hpd.1, by rw [List.length_append]; show as.length + 1 ≤ _; omega⟩
      rcases List.mem_append.mp hd with hd | hd
      · exact p3 d hd
      · exact ⟨x, y, w, List.mem_singleton.mp hd, bd_ins S hin⟩
    · exact ⟨v, _, _, _, as, b, cs, x, y, w, rfl, sb.trans (Sb.of s3), hW3, tups_mono htu fun c xs e => s3 _ _ e, hb3, hin, p3, hwd, by omega⟩
  rintro σ H3 ⟨v, x5, x6, x7, as, b, cs, x, y, w, rfl, sb, hW, htu, hb, hin, p3, hwd, hal⟩
  refine st ?_
  have sH : Same H H3 := fun b o e => sb b o (ntW e) (s12 _ _ e)
  have hal : as.length ≤ 63 := by rw [List.length_map] at hal; omega
  have len : as.length = cs.length := Paired.length htu
  have p3' : P3 (cs ++ [[x, y, w]]) := fun d hd => by
    rcases List.mem_append.mp hd with hd | hd
    · exact p3 d hd
    · exact ⟨x, y, w, List.mem_singleton.mp hd, bd_ins S hin⟩
  have htu' : Tups H3 (as ++ [b]) (cs ++ [[x, y, w]]) := tups_app htu (.cons hb .nil)
  refine sq_asg ⟨_, rfl, p, dx, _, rfl, sH _ _ h1, ln13, _, rfl, p, pr, vi, rd, td, W, g, cs ++ [[x, y, w]], rfl, hF'.same sH, hg, ⟨as ++ [b], hW, htu'⟩, p3', by rw [List.length_append]; show cs.length + 1 ≤ 100; omega, fun H4 s4 => ?_⟩
  rw [hwd]
  dsimp only [tEnd]
  refine sq_ifF (b := false) (et_of (et_or (a := false) (et_not (et_B (ev_cal (sp := spWhole) (v := .bl true) (ea_cons (ev_var rfl) ea_nil) fun Q' q' => ⟨v, rfl, q'⟩))) fun _ => et_test (ev_neI (ev_var rfl) (ev_var rfl))) (by simp)) rfl ?_
  have sH4 := sH.trans s4
  refine sq_rng2 (i := 1) (j := 5) (ea_cons ev_c (ea_cons ev_c ea_nil)) (by decide) ?_
  refine for_range (n := (5 - 1 : Int).toNat) (fun i σ H' => ∃ (x5 x7 x9 : Option V) (as : List Addr) (cs : List T3), σ = [some (.ref p), some (.ref t), some (.ref a), some (.ref W), some (.int v), x5, x6, x7, some (.int v), x9] ∧ Sb W H4 H' ∧ H' W = some (.lst (as.map V.ref)) ∧ Tups H' as cs ∧ P3 cs ∧ as.length ≤ 64 + i)
    ⟨_, _, _, as ++ [b], cs ++ [[x, y, w]], rfl, Sb.refl W H4, s4 _ _ hW, tups_mono htu' (fun c xs e => s4 _ _ e), p3', by rw [List.length_append]; show as.length + 1 ≤ 64 + 0; omega⟩ ?_ ?_
  · rintro i σ H5 hi5 ⟨x5, x7, x9, as, cs, rfl, sb5, hW5, htu5, p35, hal5⟩
    have hi4 : i < 4 := hi5
    have sH5 : Same H H5 := fun b o e => sb5 b o (ntW e) (sH4 _ _ e)
    refine gn ?_
    refine sq_asg (te_cal (sp := spCell K) (ea_cons (ev_var rfl) (ea_cons (ev_var rfl) ea_nil)) ⟨a, ns, _, rfl, sH5.seq hs, by omega, fun c => ?_⟩)
    refine sq_asg (te_cal (sp := spSpot) (vs := [.ref z, .int c]) (ea_cons (ev_ixT (v := .ref z) (ev_var rfl) ev_c (SqT.of (sH5 _ _ ht)) rfl) (ea_cons (ev_var rfl) ea_nil)) ⟨z, g.L, g.R, g.C, c, rfl, sH5 _ _ hz, S, fun b nb => ?_⟩)
    obtain ⟨x, y, w, exyz, hin⟩ := spotN c
    rw [exyz]
    have s6 : Same H5 (upd H5 b (.tup [.int x, .int y, .int w])) := (Same.refl H5).upd nb
    have hb6 : At3 (upd H5 b (.tup [.int x, .int y, .int w])) b x y w := upd_same
    revert s6 hb6
    generalize upd H5 b (.tup [.int x, .int y, .int w]) = H6
    intro s6 hb6
    have bxyz := bd_ins S hin
    refine sq_ifR (fun σ' H'' => ∃ (b' : Addr) (x y w : Int), σ' = [some (.ref p), some (.ref t), some (.ref a), some (.ref W), some (.int v), some (.int c), x6, some (.ref b'), some (.int v), some (.int (1 + (i : Int)))] ∧ Same H6 H'' ∧ At3 H'' b' x y w ∧ Bd x y w) (et_test (ev_eqI (ev_I (ev_I (ev_var rfl) ev_c (cdB (by decide) (by decide))) ev_c (by show (0 : Int) < 3; decide)) ev_c)) (fun _ R hR => ?_) (fun _ R hR => hR _ _ ⟨b, x, y, w, rfl, Same.refl H6, hb6, bxyz⟩) ?_
    · refine rd_asg0 (te_tup (vs := [.int x, .int (y + 17), .int w]) (ea_cons (ev_ixT (v := .int x) (ev_var rfl) ev_c (SqT.of hb6) rfl) (ea_cons (ev_I0 (ev_ixT (v := .int y) (ev_var rfl) ev_c (SqT.of hb6) rfl) ev_c) (ea_cons (ev_ixT (v := .int w) (ev_var rfl) ev_c (SqT.of hb6) rfl) ea_nil))) (by show 3 ≤ sizeLine; decide) fun b' nb' => hR _ _ ⟨b', x, y + 17, w, rfl, (Same.refl H6).upd nb', upd_same, bxyz.1, ?_, bxyz.2.2⟩)
      have := S.r1
      obtain ⟨_, _, i3, i4, _⟩ := hin
      exact ⟨by omega, by omega⟩
    · rintro σ' H7 ⟨b', x', y', w', rfl, s7, hb7, bd7⟩
      have hW7 := s7 _ _ (s6 _ _ hW5)
      refine ⟨_, rfl, .inl ⟨rfl, _, SqL.of hW7⟩, ?_⟩
      have hpos : (0 : Int) < ((as.map V.ref).length : Nat) + 1 := by omega
      refine ta_ev (v := .int (c % (((as.map V.ref).length : Nat) + 1))) (ev_I (ev_var rfl) (ev_I0 (ev_cb (v := .int ((as.map V.ref).length : Nat)) (ea_cons (ev_var rfl) ea_nil) fun Q' q' => ⟨_, _, rfl, .inl ⟨_, SqL.of hW7, rfl⟩, q'⟩) ev_c) hpos) ?_
      have k0 := Int.emod_nonneg c (Int.ne_of_gt hpos)
      have k1 := Int.emod_lt_of_pos c hpos
      revert k0 k1
      generalize c % (((as.map V.ref).length : Nat) + 1) = k
      intro k0 k1
      have lenc : as.length = cs.length := Paired.length htu5
      refine ⟨_, rfl, W, _, _, _, rfl, rfl, hW7, k0, by omega, by rw [List.length_map]; omega, ?_⟩
      have em : (as.map V.ref).take k.toNat ++ V.ref b' :: (as.map V.ref).drop k.toNat = (as.take k.toNat ++ b' :: as.drop k.toNat).map V.ref := by rw [List.map_append, List.map_cons, List.map_take, List.map_drop]
      rw [em]
      have kt : ∀ c xs, H7 c = some (.tup xs) → upd H7 W (.lst ((as.take k.toNat ++ b' :: as.drop k.toNat).map V.ref)) c = some (.tup xs) := keep_lst0 hW7
      have htu7 : Tups (upd H7 W (.lst ((as.take k.toNat ++ b' :: as.drop k.toNat).map V.ref))) as cs := tups_mono htu5 fun c xs e => kt _ _ (s7 _ _ (s6 _ _ e))
      have htu8 : Tups (upd H7 W (.lst ((as.take k.toNat ++ b' :: as.drop k.toNat).map V.ref))) (as.take k.toNat ++ b' :: as.drop k.toNat) (cs.take k.toNat ++ [x', y', w'] :: cs.drop k.toNat) := tups_app (tups_take htu7 _) (.cons (kt _ _ hb7) (tups_drop htu7 _))
      have hW8 : upd H7 W (.lst ((as.take k.toNat ++ b' :: as.drop k.toNat).map V.ref)) W = some (.lst ((as.take k.toNat ++ b' :: as.drop k.toNat).map V.ref)) := upd_same
      have sb8 : Sb W H4 (upd H7 W (.lst ((as.take k.toNat ++ b' :: as.drop k.toNat).map V.ref))) := ((sb5.trans (Sb.of s6)).trans (Sb.of s7)).set
      have p38 : P3 (cs.take k.toNat ++ [x', y', w'] :: cs.drop k.toNat) := fun d hd => by
        rcases List.mem_append.mp hd with hd | hd
        · exact p35 d (List.mem_of_mem_take hd)
        · rcases List.mem_cons.mp hd with hd | hd
          · exact ⟨x', y', w', hd, bd7⟩
          · exact p35 d (List.mem_of_mem_drop hd)
      have len8 : (as.take k.toNat ++ b' :: as.drop k.toNat).length = as.length + 1 := by rw [List.length_append, List.length_cons, List.length_take, List.length_drop]; omega
      have len9 : (cs.take k.toNat ++ [x', y', w'] :: cs.drop k.toNat).length ≤ 100 := by rw [← Paired.length htu8, len8]; omega
      revert htu8 hW8 sb8 p38 len8 len9
      generalize upd H7 W (.lst ((as.take k.toNat ++ b' :: as.drop k.toNat).map V.ref)) = H8
      generalize as.take k.toNat ++ b' :: as.drop k.toNat = as8
      generalize cs.take k.toNat ++ [x', y', w'] :: cs.drop k.toNat = cs8
      intro htu8 hW8 sb8 p38 len8 len9
      have sH8 : Same H H8 := fun b o e => sb8 b o (ntW e) (sH4 _ _ e)
      refine st ?_
      refine rd_ifof ⟨_, rfl, _, rfl, p, W, g, cs8, rfl, hF.same sH8, hg, ⟨as8, hW8, htu8⟩, p38, len9, fun H9 s9 => ?_⟩
      refine ⟨_, rfl, _, rfl, t, W, g, cs8, rfl, hT.same (sH8.trans s9), ⟨as8, s9 _ _ hW8, tups_mono htu8 fun c xs e => s9 _ _ e⟩, p38, len9, fun H10 s10 => ?_⟩
      refine ⟨by cases wd g cs8 <;> rfl, _, rfl, ?_⟩
      rw [decide_eq_true rfl]
      have s810 := s9.trans s10
      exact iteF ⟨_, _, _, as8, cs8, rfl, sb8.trans (Sb.of s810), s810 _ _ hW8, tups_mono htu8 (fun c xs e => s810 _ _ e), p38, by omega⟩
  · rintro σ H5 ⟨x5, x7, x9, as, cs, rfl, sb5, hW5, htu5, p35, hal5⟩
    exact st (rd_ret ev_c (q _ fun b o e => sb5 b o (ntW e) (sH4 _ _ e)))
theorem te_cb1 {r : List V → Hp → VK → Prop} {te : TE} {σ : St} {H : Hp} {Q : VK} (h : te σ H fun v H1 => r [v] H1 Q) : tCB r (tCons te tNil) σ H Q := h
theorem ok_law {cFloor cWireError cNotAStep cOutOfFloor cMS : Addr} {f : Addr} {fd : FuncData} (F : Fun K "law" "law" slaw f fd) (T : Txt K mg cFloor cWireError cNotAStep cOutOfFloor cMS) (gFInit : KCalleeM P w K mg base cFloor "Floor" 3 ["self", "sizes", "prices", "vias", "rocks", "tolls"] (spFInit cFloor)) (gWayP : MCalleeX P w K mg base cFloor "way_price" 5 ["self", "way"] (spWayP cFloor cOutOfFloor cNotAStep)) (gSpot : Callee P w K mg base "_law_spot" 1 ["sizes", "number"] spSpot) (gGround : Callee P w K mg base "_law_ground" 3 ["script"] (spGround K)) (gLPair : Callee P w K mg base "_law_pair" 6 ["floor", "ground", "one", "two"] (spLPair cFloor)) (gLSpots : Callee P w K mg base "_law_spots_asked" 7 ["floor", "ground"] (spLSpots cFloor)) (gLWalk : Callee P w K mg base "_law_walked" 7 ["floor", "ground", "script"] (spLWalk K cFloor)) : FnOk P w K mg base CX0 8 f fd ["script"] (spLaw K) := by
  have sc : FnScope ["script", "ground", "sizes", "floor", "cell", "one", "two", "by"] ["script"] (defScope slaw) := ⟨rfl, rfl, rfl, by decide +kernel, rfl, by decide +kernel, by decide +kernel⟩
  refine F.ok sc (fun vs H Q E h => by repeat (first | (obtain ⟨rfl, _⟩ := h; rfl) | (obtain ⟨_, h⟩ := h))) (fun cdv A outer s H vs Q E hr h => ?_)
  obtain ⟨a, ns, rfl, hs, hl, q⟩ := h
  refine ⟨_, (pss_cons (ps_set (i := 1) sc.nd rfl (Or.inl rfl) (pe_cal gGround (hr.mono (by decide)) (by rfl) (pa_cons (pv 0) pa_nil)))
  (pss_cons (ps_set (i := 2) sc.nd rfl (Or.inl rfl) (pe_ix ix_tup (pv 1) pe_int (fun _ _ => rfl)))
  (pss_cons (ps_set (i := 3) sc.nd rfl (Or.inl rfl) (pe_mkM0 gFInit (hr.mono (by decide)) (by rfl) (pa_cons (pv 2) (pa_cons (pe_callTy call_list_of (by rfl) T.list_ bt_list (pa_cons (pe_ix ix_tup (pv 1) pe_int (fun _ _ => rfl)) pa_nil)) (pa_cons (pe_callTy call_list_of (by rfl) T.list_ bt_list (pa_cons (pe_ix ix_tup (pv 1) pe_int (fun _ _ => rfl)) pa_nil)) (pa_cons (pe_callTy call_list_of (by rfl) T.list_ bt_list (pa_cons (pe_ix ix_tup (pv 1) pe_int (fun _ _ => rfl)) pa_nil)) (pa_cons (pe_callTy call_dict (by rfl) T.dict_ bt_dict (pa_cons (pe_ix ix_tup (pv 1) pe_int (fun _ _ => rfl)) pa_nil)) pa_nil)))))))
  (pss_cons (ps_if (pt_not (pt_val (pe_cal gLSpots (hr.mono (by decide)) (by rfl) (pa_cons (pv 3) (pa_cons (pv 1) pa_nil)))))
  (pss_one (ps_ret pe_bl))
  pss_nil)
  (pss_cons (ps_for PassesOwn.never rfl (pi_list (pe_slice sl_list (pv 0) po_none (po_some pe_int))) (pg_name (i := 4) sc.nd rfl (Or.inr rfl))
  (pss_cons (ps_set (i := 5) sc.nd rfl (Or.inl rfl) (pe_cal gSpot (hr.mono (by decide)) (by rfl) (pa_cons (pv 2) (pa_cons (pv 4) pa_nil))))
  (pss_cons (ps_set (i := 6) sc.nd rfl (Or.inr rfl) (pe_cal gSpot (hr.mono (by decide)) (by rfl) (pa_cons (pv 2) (pa_cons (pe_op op_fdivB (pv 4) pe_int) pa_nil))))
  (pss_cons (ps_if (pt_cmpR op_eq (pe_op op_mod (pe_op op_fdivB (pv 4) pe_int) pe_int) pe_int (nomark _))
  (pss_cons (ps_set (i := 7) sc.nd rfl (Or.inr rfl) (pe_ix ix_list (pe_lst (pa_cons (pe_un un_neg pe_int) (pa_cons (pe_ix ix_tup (pv 2) (pe_op op_mod (pe_op op_fdivB (pv 4) pe_int) pe_int) (fun _ _ => rfl)) pa_nil))) (pe_op op_mod (pe_op op_fdivB (pv 4) pe_int) pe_int) (fun _ _ => rfl)))
  (pss_one (ps_set (i := 6) sc.nd rfl (Or.inr rfl) (pe_callTy call_tuple_of (by rfl) T.tuple_ bt_tuple (pa_cons (pe_lc (ls := ["k"]) (ys := ["by", "two", "cell"]) (ix := [7, 6, 4]) rfl ⟨rfl, by rfl, by rfl, by rfl, by rfl, rfl⟩ (pi_range1 (by rfl) T.range_ (pa_cons pe_int pa_nil)) (fun _ _ _ _ _ => (pg_name (i := 0) (show (["k", "by", "two", "cell"] : List Str).Nodup by decide +kernel) rfl (Or.inl rfl))) (fun _ _ _ _ _ => pf_nil) (fun _ _ _ _ _ => (pe_ifExp (pt_cmpR op_eq (pv 0) (pe_op op_mod (pe_op op_fdivB (pv 3) pe_int) pe_int) (nomark _)) (pv 1) (pe_ix (ix_tupK (K := K) rfl) (pv 2) (pv 0) (fun _ _ => rfl))))) pa_nil)))))
  pss_nil)
  (pss_one (ps_if (pt_not (pt_val (pe_cal gLPair (hr.mono (by decide)) (by rfl) (pa_cons (pv 3) (pa_cons (pv 1) (pa_cons (pv 5) (pa_cons (pv 6) pa_nil)))))))
  (pss_one (ps_ret pe_bl))
  pss_nil))))))
  (pss_cons (ps_if (pt_cmpR op_ne (pe_metX (pv 3) T.cl_Floor gWayP (hr.mono (by decide)) comesF (pa_cons (pe_lst (pa_cons (pe_tup (pa_cons (pe_ix ix_tup (pv 2) pe_int (fun _ _ => rfl)) (pa_cons pe_int (pa_cons pe_int pa_nil)))) pa_nil)) pa_nil)) pe_int (nomark _))
  (pss_one (ps_ret pe_bl))
  pss_nil)
  (pss_one (ps_ret (pe_cal gLWalk (hr.mono (by decide)) (by rfl) (pa_cons (pv 3) (pa_cons (pv 1) (pa_cons (pv 0) pa_nil)))))))))))), ?_⟩
  have hsz : sizeLine = 2 ^ 24 := rfl
  refine sq_asg (te_cal (sp := spGround K) (ea_cons (ev_var rfl) ea_nil) ⟨a, ns, rfl, hs, hl, fun H0 t z pr vi ro td g s0 ht hG hg => ?_⟩)
  have hT : GT H0 t g := ⟨⟨z, pr, vi, ro, td, ht, hG⟩, hg⟩
  have S := hg.S
  have hz := hG.z
  have mpos : 0 < g.L * g.R * g.C := Int.mul_pos (Int.mul_pos (by have := S.l0; omega) (by have := S.r0; omega)) (by have := S.c0; omega)
  have spotN : ∀ n : Int, ∃ x y w : Int, (sN g.R g.C (n % (g.L * g.R * g.C)).toNat).map V.int = [.int x, .int y, .int w] ∧ Ins g.L g.R g.C x y w := fun n => ⟨_, _, _, rfl, sN_ins S (by rw [Int.toNat_of_nonneg (Int.emod_nonneg _ (by omega))]; exact Int.emod_lt_of_pos _ mpos)⟩
  obtain ⟨pas, hp1, hp2⟩ := id hG.pr
  obtain ⟨ras, hr1, hr2⟩ := id hG.ro
  refine sq_set (v := .ref z) (ev_ixT (ev_var rfl) ev_c (SqT.of ht) rfl) ?_
  refine sq_asg ⟨_, rfl, _, rfl, t, _, 1, _, rfl, rfl, SqT.of ht, rfl, pr, _, rfl, .inl (SqL.of hp1), fun l1 n1 => ?_⟩
  have c1 : Same H0 (upd H0 l1 (.lst (pas.map V.ref))) := (Same.refl H0).upd n1
  have x1 : upd H0 l1 (.lst (pas.map V.ref)) l1 = some (.lst (pas.map V.ref)) := upd_same
  revert c1 x1
  generalize upd H0 l1 (.lst (pas.map V.ref)) = H1
  intro c1 x1
  refine ⟨_, rfl, t, _, 2, _, rfl, rfl, SqT.of (c1 _ _ ht), rfl, vi, _, rfl, .inl (SqL.of (c1 _ _ hG.vi)), fun l2 n2 => ?_⟩
  have c2 : Same H1 (upd H1 l2 (.lst (g.vs.map V.int))) := (Same.refl H1).upd n2
  have x2 : upd H1 l2 (.lst (g.vs.map V.int)) l2 = some (.lst (g.vs.map V.int)) := upd_same
  revert c2 x2
  generalize upd H1 l2 (.lst (g.vs.map V.int)) = H2
  intro c2 x2
  have c12 := c1.trans c2
  refine ⟨_, rfl, t, _, 3, _, rfl, rfl, SqT.of (c12 _ _ ht), rfl, ro, _, rfl, .inl (SqL.of (c12 _ _ hr1)), fun l3 n3 => ?_⟩
  have c3 : Same H2 (upd H2 l3 (.lst (ras.map V.ref))) := (Same.refl H2).upd n3
  have x3 : upd H2 l3 (.lst (ras.map V.ref)) l3 = some (.lst (ras.map V.ref)) := upd_same
  revert c3 x3
  generalize upd H2 l3 (.lst (ras.map V.ref)) = H3
  intro c3 x3
  have c13 := c12.trans c3
  refine ⟨_, rfl, t, _, 4, _, rfl, rfl, SqT.of (c13 _ _ ht), rfl, td, rfl, .inr ⟨_, .inl (c13 _ _ hG.td), hash_tb S hg.M hg.tt, fun l4 n4 => ?_⟩⟩
  have c4 : Same H3 (upd H3 l4 (.dT (enc g.R g.C g.ts))) := (Same.refl H3).upd n4
  have x4 : upd H3 l4 (.dT (enc g.R g.C g.ts)) l4 = some (.dT (enc g.R g.C g.ts)) := upd_same
  revert c4 x4
  generalize upd H3 l4 (.dT (enc g.R g.C g.ts)) = H4
  intro c4 x4
  have c14 := c13.trans c4
  intro fl dx nx nd ne
  have sm : Same H4 (upd (upd H4 dx (.own fl)) fl (.ins cFloor dx [])) := same_make nx nd
  have c := c14.trans sm
  refine ⟨fl, dx, z, l1, l2, .ref l3, .ref l4, g, rfl, upd_same, hg, c _ _ hz, ⟨pas, sm _ _ (c4 _ _ (c3 _ _ (c2 _ _ x1))), tups_mono hp2 fun b xs e => c _ _ e⟩, sm _ _ (c4 _ _ (c3 _ _ x2)), .inr ⟨l3, rfl, ras, sm _ _ (c4 _ _ x3), tups_mono hr2 fun b xs e => c _ _ e⟩, .inr ⟨l4, rfl, sm _ _ x4⟩, fun H5 pr' vi' rd' td' bt m1 m2 m3 m4 hF => ⟨rfl, ?_⟩⟩
  have sF : Same H0 H5 := c14.trans (ButP.same sm nx bt)
  have hFT : FT cFloor H5 fl g := ⟨pr', vi', rd', td', hF⟩
  refine sq_ifof ⟨_, rfl, _, rfl, fl, t, g, rfl, hFT, hT.same sF, fun H6 s6 => ⟨_, rfl, iteF ?_⟩⟩
  have s06 := sF.trans s6
  refine ⟨_, rfl, 60, rfl, a, _, rfl, (s0.trans s06).seq hs, fun sl nsl => ⟨sl, rfl, ⟨_, SqL.of upd_same⟩, ?_⟩⟩
  obtain ⟨xs, exs, lxs⟩ := cut_int ns none (some 60)
  rw [exs]
  have s7 : Same H6 (upd H6 sl (.lst (xs.map V.int))) := (Same.refl H6).upd nsl
  have hsl : upd H6 sl (.lst (xs.map V.int)) sl = some (.lst (xs.map V.int)) := upd_same
  revert s7 hsl
  generalize upd H6 sl (.lst (xs.map V.int)) = H7
  intro s7 hsl
  have s07 := s06.trans s7
  have s57 := s6.trans s7
  refine for_list (K := K) (xs := xs.map V.int) (fun i σ H' => ∃ (x4 x5 x6 x7 : Option V), σ = [some (.ref a), some (.ref t), some (.ref z), some (.ref fl), x4, x5, x6, x7] ∧ Same H7 H') ⟨none, none, none, none, rfl, Same.refl H7⟩ (fun i σ H' _ ⟨_, _, _, _, _, s⟩ => SqL.of (s _ _ hsl)) ?_ ?_
  · rintro i v σ H8 hv ⟨x4, x5, x6, x7, rfl, s8⟩
    obtain ⟨n, rfl, hn⟩ := int_at hv
    have s08 := s07.trans s8
    refine gn ?_
    refine sq_asg (te_cal (sp := spSpot) (ea_cons (ev_var rfl) (ea_cons (ev_var rfl) ea_nil)) ⟨z, g.L, g.R, g.C, n, rfl, s08 _ _ hz, S, fun b1 nb1 => ?_⟩)
    obtain ⟨x, y, w, e1, hi1⟩ := spotN n
    rw [e1]
    have s9 : Same H8 (upd H8 b1 (.tup [.int x, .int y, .int w])) := (Same.refl H8).upd nb1
    have hb1 : At3 (upd H8 b1 (.tup [.int x, .int y, .int w])) b1 x y w := upd_same
    revert s9 hb1
    generalize upd H8 b1 (.tup [.int x, .int y, .int w]) = H9
    intro s9 hb1
    have s09 := s08.trans s9
    refine sq_asg (te_cal (sp := spSpot) (vs := [.ref z, .int (n / 5)]) (ea_cons (ev_var rfl) (ea_cons (ev_I (ev_var rfl) ev_c (cdB (by decide) (by decide))) ea_nil)) ⟨z, g.L, g.R, g.C, n / 5, rfl, s09 _ _ hz, S, fun b2 nb2 => ?_⟩)
    obtain ⟨x', y', w', e2, hi2⟩ := spotN (n / 5)
    rw [e2]
    have sA : Same H9 (upd H9 b2 (.tup [.int x', .int y', .int w'])) := (Same.refl H9).upd nb2
    have hb2 : At3 (upd H9 b2 (.tup [.int x', .int y', .int w'])) b2 x' y' w' := upd_same
    revert sA hb2
    generalize upd H9 b2 (.tup [.int x', .int y', .int w']) = HA
    intro sA hb2
    have s0A := s09.trans sA
    have hzA : HA z = some (.tup [.int g.L, .int g.R, .int g.C]) := s0A _ _ hz
    have bx := bd_ins S hi1
    have bx' := bd_ins S hi2
    refine sq_ifR (fun σ' H'' => ∃ (b' : Addr) (x' y' w' : Int) (x7 : Option V), σ' = [some (.ref a), some (.ref t), some (.ref z), some (.ref fl), some (.int n), some (.ref b1), some (.ref b'), x7] ∧ Same HA H'' ∧ At3 H'' b' x' y' w' ∧ Bd x' y' w') (et_test (ev_eqI (ev_I (ev_I (ev_var rfl) ev_c (cdB (by decide) (by decide))) ev_c (by show (0 : Int) < 4; decide)) ev_c)) (fun _ R hR => ?_) (fun _ R hR => hR _ _ ⟨b2, x', y', w', _, rfl, Same.refl HA, hb2, bx'⟩) ?_
    · obtain ⟨sv, atS, hsv⟩ : ∃ sv : Int, atI [V.int g.L, V.int g.R, V.int g.C] (n / 12 % 3) = some (.int sv) ∧ 1 ≤ sv ∧ sv ≤ 16 := by
        have := S.l0; have := S.l1; have := S.r0; have := S.r1; have := S.c0; have := S.c1
        rcases show n / 12 % 3 = 0 ∨ n / 12 % 3 = 1 ∨ n / 12 % 3 = 2 by omega with e | e | e <;> rw [e]
        · exact ⟨g.L, rfl, by omega, by omega⟩
        · exact ⟨g.R, rfl, by omega, by omega⟩
        · exact ⟨g.C, rfl, by omega, by omega⟩
      obtain ⟨bv, atB, hbv⟩ : ∃ bv : Int, atI [V.int (-1), V.int sv] (n / 36 % 2) = some (.int bv) ∧ -1 ≤ bv ∧ bv ≤ 16 := by
        rcases show n / 36 % 2 = 0 ∨ n / 36 % 2 = 1 by omega with e | e <;> rw [e]
        · exact ⟨-1, rfl, by omega, by omega⟩
        · exact ⟨sv, rfl, by omega, by omega⟩
      refine sq_asg (te_op (te_lst (vs := [.int (-1), .int sv]) (ea_cons (ev_U ev_c) (ea_cons (ev_ixT (v := .int sv) (ev_var rfl) (ev_I (ev_I (ev_var rfl) ev_c (cdB (by decide) (by decide))) ev_c (by show (0 : Int) < 3; decide)) (SqT.of hzA) atS) ea_nil)) (by show 2 ≤ sizeLine; decide) fun P nP => ?_))
      refine (ev_I (ev_I (ev_var rfl) ev_c (cdB (by decide) (by decide))) ev_c (by show (0 : Int) < 2; decide)) _ ⟨P, _, _, _, rfl, rfl, SqL.of upd_same, atB, ?_⟩
      have sB : Same HA (upd HA P (.lst [.int (-1), .int sv])) := (Same.refl HA).upd nP
      revert sB
      generalize upd HA P (.lst [.int (-1), .int sv]) = HB
      intro sB
      have hbB := sB _ _ hb2
      refine rd_asg0 (te_cb1 (te_lc1 (j := 3) (ea_cons ev_c ea_nil) (by decide) (by decide) fun D nD => ?_))
      generalize hus : (fun k : Nat => if (k : Int) = n / 12 % 3 then bv else [x', y', w'].getD k 0) = us
      refine lc_range (fun i τ H' => ∃ x0 : Option V, τ = [x0, some (.int bv), some (.ref b2), some (.int n)] ∧ H' = upd HB D (.lst (((List.range i).map us).map V.int))) ⟨none, rfl, rfl⟩ ?_ ?_
      · rintro k τ H' hk ⟨x0, rfl, rfl⟩
        have sD : Same HB (upd HB D (.lst (((List.range k).map us).map V.int))) := (Same.refl HB).upd nD
        have at2 : atI [V.int x', V.int y', V.int w'] (0 + (k : Int)) = some (.int ([x', y', w'].getD k 0)) := by
          rcases show k = 0 ∨ k = 1 ∨ k = 2 by omega with rfl | rfl | rfl <;> rfl
        have fin : ∃ acc, upd HB D (.lst (((List.range k).map us).map V.int)) D = some (.lst acc) ∧ acc.length < sizeLine ∧ ∃ x0 : Option V, ([some (.int (0 + (k : Int))), some (.int bv), some (.ref b2), some (.int n)] : St) = [x0, some (.int bv), some (.ref b2), some (.int n)] ∧ upd (upd HB D (.lst (((List.range k).map us).map V.int))) D (.lst (acc ++ [.int (us k)])) = upd HB D (.lst (((List.range (k + 1)).map us).map V.int)) := by
          refine ⟨_, upd_same, by rw [List.length_map, List.length_map, List.length_range]; omega, _, rfl, ?_⟩
          rw [upd_upd, List.range_succ, List.map_append, List.map_append]; rfl
        refine gn (lc_el ?_)
        by_cases e : (0 + (k : Int)) = n / 12 % 3
        · have eu : us k = bv := by rw [← hus]; exact if_pos (by omega)
          rw [eu] at fin
          exact if_T (et_of (et_test (ev_eqI (ev_var rfl) (ev_I (ev_I (ev_var rfl) ev_c (cdB (by decide) (by decide))) ev_c (by show (0 : Int) < 3; decide)))) (decide_eq_true e)) ((ev_var rfl) _ fin)
        · have eu : us k = [x', y', w'].getD k 0 := by rw [← hus]; exact if_neg (by omega)
          rw [eu] at fin
          exact if_F (et_of (et_test (ev_eqI (ev_var rfl) (ev_I (ev_I (ev_var rfl) ev_c (cdB (by decide) (by decide))) ev_c (by show (0 : Int) < 3; decide)))) (decide_eq_false e)) ((ev_ixT (v := .int ([x', y', w'].getD k 0)) (ev_var rfl) (ev_var rfl) (SqT.of (sD _ _ hbB)) at2) _ fin)
      · rintro τ H' ⟨x0, rfl, rfl⟩
        refine ⟨D, _, rfl, .inl ⟨SqL.of upd_same, fun b' nb' => hR _ _ ⟨b', us 0, us 1, us 2, _, rfl, sB.trans (((Same.refl HB).upd nD).upd nb'), upd_same, ?_⟩⟩⟩
        have hu : ∀ k, k < 3 → -10000000000000 ≤ us k ∧ us k ≤ 10000000000000 := fun k hk => by
          obtain ⟨⟨_, _⟩, ⟨_, _⟩, ⟨_, _⟩⟩ := bx'
          rw [← hus]
          show _ ≤ (if _ then _ else _) ∧ (if _ then _ else _) ≤ _
          split
          · exact ⟨by omega, by omega⟩
          · rcases show k = 0 ∨ k = 1 ∨ k = 2 by omega with rfl | rfl | rfl
            · exact ⟨by assumption, by assumption⟩
            · exact ⟨by assumption, by assumption⟩
            · exact ⟨by assumption, by assumption⟩
        exact ⟨hu 0 (by decide), hu 1 (by decide), hu 2 (by decide)⟩
    · rintro σ' HC ⟨b', x', y', w', x7, rfl, sC, hbC, bxC⟩
      have s0C := s0A.trans sC
      have s8C := (s9.trans sA).trans sC
      have s5C := (s57.trans s8).trans s8C
      exact rd_ifof ⟨_, rfl, _, rfl, _, rfl, _, rfl, fl, t, b1, b', g, x, y, w, x', y', w', rfl, hFT.same s5C, hT.same s0C, sC _ _ (sA _ _ hb1), hbC, bx, bxC, fun HD sD => ⟨_, rfl, iteF ⟨_, _, _, _, rfl, (s8.trans s8C).trans sD⟩⟩⟩
  · rintro σ H8 ⟨x4, x5, x6, x7, rfl, s8⟩
    refine st ?_
    have s08 := s07.trans s8
    have s58 := s57.trans s8
    obtain ⟨dx, zf, h1, h2⟩ := hF.ex
    refine sq_ifof ⟨_, rfl, fl, dx, _, rfl, s58 _ _ h1, ln13, _, rfl, _, _, _, _, rfl, rfl, SqT.of (s08 _ _ hz), rfl, (by show 3 ≤ sizeLine; decide), fun T1 nT1 => ⟨(by show 1 ≤ sizeLine; decide), fun W nW => ?_⟩⟩
    have s9 : Same H8 (upd (upd H8 T1 (.tup [.int g.L, .int 0, .int 0])) W (.lst [.ref T1])) := ((Same.refl H8).upd nT1).upd nW
    have nWT : T1 ≠ W := fun e => by rw [← e, upd_same] at nW; cases nW
    have hT1 : upd (upd H8 T1 (.tup [.int g.L, .int 0, .int 0])) W (.lst [.ref T1]) T1 = some (.tup ([g.L, 0, 0].map V.int)) := by rw [upd_ne nWT]; exact upd_same
    have hW : upd (upd H8 T1 (.tup [.int g.L, .int 0, .int 0])) W (.lst [.ref T1]) W = some (.lst ([T1].map V.ref)) := upd_same
    revert s9 hT1 hW
    generalize upd (upd H8 T1 (.tup [.int g.L, .int 0, .int 0])) W (.lst [.ref T1]) = H9
    intro s9 hT1 hW
    have s09 := s08.trans s9
    have s59 := s58.trans s9
    have l0 := S.l0
    have l1 := S.l1
    refine ⟨fl, pr', vi', rd', td', W, g, [[g.L, 0, 0]], rfl, hF.same s59, hg, ⟨[T1], hW, .cons hT1 .nil⟩, fun d hd => ⟨g.L, 0, 0, List.mem_singleton.mp hd, ⟨by omega, by omega⟩, ⟨by omega, by omega⟩, ⟨by omega, by omega⟩⟩, (by show 1 ≤ 100; decide), fun HA sA => ?_⟩
    rw [show wd g [[g.L, 0, 0]] = .num 0 from rfl]
    dsimp only [tEnd]
    refine ⟨rfl, _, rfl, ?_⟩
    rw [decide_eq_true rfl]
    refine iteF ?_
    have s0A := s09.trans sA
    exact rd_te ⟨_, rfl, _, rfl, _, rfl, fl, t, a, g, ns, rfl, hFT.same (s59.trans sA), hT.same s0A, (s0.trans s0A).seq hs, hl, fun H' _ => q _⟩
end
set_option maxHeartbeats 2000000 in
theorem all_mk {l : PySem.W.OpenLaw} {w : World} {K : PySem.W.Frag} {h : Heap} {mg : Str → Option Value} {fa : Addr} (X : K.In h) (G : h.Ns mainGlobals mg) (hfa : mg "law" = some (.ref fa))
    {cFloor : Addr}
    {cWireError : Addr}
    {cNotAStep : Addr}
    {cOutOfFloor : Addr}
    {cMS : Addr}
    {f0 : Addr} {od0 an0 : Option Addr} {sl0 : Array (Option Value)} {oc0 kV0 dc0 pm0 cd0 ct0 : Value}
    {f1 : Addr} {od1 an1 : Option Addr} {sl1 : Array (Option Value)} {oc1 kV1 dc1 pm1 cd1 ct1 : Value}
    {f2 : Addr} {od2 an2 : Option Addr} {sl2 : Array (Option Value)} {oc2 kV2 dc2 pm2 cd2 ct2 : Value}
    {f3 : Addr} {od3 an3 : Option Addr} {sl3 : Array (Option Value)} {oc3 kV3 dc3 pm3 cd3 ct3 : Value}
    {f4 : Addr} {od4 an4 : Option Addr} {sl4 : Array (Option Value)} {oc4 kV4 dc4 pm4 cd4 ct4 : Value}
    {f5 : Addr} {od5 an5 : Option Addr} {sl5 : Array (Option Value)} {oc5 kV5 dc5 pm5 cd5 ct5 : Value}
    {f6 : Addr} {od6 an6 : Option Addr} {sl6 : Array (Option Value)} {oc6 kV6 dc6 pm6 cd6 ct6 : Value}
    {f7 : Addr} {od7 an7 : Option Addr} {sl7 : Array (Option Value)} {oc7 kV7 dc7 pm7 cd7 ct7 : Value}
    {T7 : Addr} {do7 : Option Addr} {ds7 : Array (Option Value)} {dq7  : Value} {dn7 : Nat}
    {f8 : Addr} {od8 an8 : Option Addr} {sl8 : Array (Option Value)} {oc8 kV8 dc8 pm8 cd8 ct8 : Value}
    {f9 : Addr} {od9 an9 : Option Addr} {sl9 : Array (Option Value)} {oc9 kV9 dc9 pm9 cd9 ct9 : Value}
    {f10 : Addr} {od10 an10 : Option Addr} {sl10 : Array (Option Value)} {oc10 kV10 dc10 pm10 cd10 ct10 : Value}
    {f11 : Addr} {od11 an11 : Option Addr} {sl11 : Array (Option Value)} {oc11 kV11 dc11 pm11 cd11 ct11 : Value}
    {f12 : Addr} {od12 an12 : Option Addr} {sl12 : Array (Option Value)} {oc12 kV12 dc12 pm12 cd12 ct12 : Value}
    {f13 : Addr} {od13 an13 : Option Addr} {sl13 : Array (Option Value)} {oc13 kV13 dc13 pm13 cd13 ct13 : Value}
    {f14 : Addr} {od14 an14 : Option Addr} {sl14 : Array (Option Value)} {oc14 kV14 dc14 pm14 cd14 ct14 : Value}
    {f15 : Addr} {od15 an15 : Option Addr} {sl15 : Array (Option Value)} {oc15 kV15 dc15 pm15 cd15 ct15 : Value}
    {f16 : Addr} {od16 an16 : Option Addr} {sl16 : Array (Option Value)} {oc16 kV16 dc16 pm16 cd16 ct16 : Value}
    {f17 : Addr} {od17 an17 : Option Addr} {sl17 : Array (Option Value)} {oc17 kV17 dc17 pm17 cd17 ct17 : Value}
    {f18 : Addr} {od18 an18 : Option Addr} {sl18 : Array (Option Value)} {oc18 kV18 dc18 pm18 cd18 ct18 : Value}
    {f19 : Addr} {od19 an19 : Option Addr} {sl19 : Array (Option Value)} {oc19 kV19 dc19 pm19 cd19 ct19 : Value}
    {f20 : Addr} {od20 an20 : Option Addr} {sl20 : Array (Option Value)} {oc20 kV20 dc20 pm20 cd20 ct20 : Value}
    {f21 : Addr} {od21 an21 : Option Addr} {sl21 : Array (Option Value)} {oc21 kV21 dc21 pm21 cd21 ct21 : Value}
    {f22 : Addr} {od22 an22 : Option Addr} {sl22 : Array (Option Value)} {oc22 kV22 dc22 pm22 cd22 ct22 : Value}
    {f23 : Addr} {od23 an23 : Option Addr} {sl23 : Array (Option Value)} {oc23 kV23 dc23 pm23 cd23 ct23 : Value}
    {f24 : Addr} {od24 an24 : Option Addr} {sl24 : Array (Option Value)} {oc24 kV24 dc24 pm24 cd24 ct24 : Value}
    {f25 : Addr} {od25 an25 : Option Addr} {sl25 : Array (Option Value)} {oc25 kV25 dc25 pm25 cd25 ct25 : Value}
    {f26 : Addr} {od26 an26 : Option Addr} {sl26 : Array (Option Value)} {oc26 kV26 dc26 pm26 cd26 ct26 : Value}
    {f27 : Addr} {od27 an27 : Option Addr} {sl27 : Array (Option Value)} {oc27 kV27 dc27 pm27 cd27 ct27 : Value}
    {f28 : Addr} {od28 an28 : Option Addr} {sl28 : Array (Option Value)} {oc28 kV28 dc28 pm28 cd28 ct28 : Value}
    {f29 : Addr} {od29 an29 : Option Addr} {sl29 : Array (Option Value)} {oc29 kV29 dc29 pm29 cd29 ct29 : Value}
    {f30 : Addr} {od30 an30 : Option Addr} {sl30 : Array (Option Value)} {oc30 kV30 dc30 pm30 cd30 ct30 : Value}
    {f31 : Addr} {od31 an31 : Option Addr} {sl31 : Array (Option Value)} {oc31 kV31 dc31 pm31 cd31 ct31 : Value}
    {f32 : Addr} {od32 an32 : Option Addr} {sl32 : Array (Option Value)} {oc32 kV32 dc32 pm32 cd32 ct32 : Value}
    {f33 : Addr} {od33 an33 : Option Addr} {sl33 : Array (Option Value)} {oc33 kV33 dc33 pm33 cd33 ct33 : Value}
    {f34 : Addr} {od34 an34 : Option Addr} {sl34 : Array (Option Value)} {oc34 kV34 dc34 pm34 cd34 ct34 : Value}
    {f35 : Addr} {od35 an35 : Option Addr} {sl35 : Array (Option Value)} {oc35 kV35 dc35 pm35 cd35 ct35 : Value}
    {f36 : Addr} {od36 an36 : Option Addr} {sl36 : Array (Option Value)} {oc36 kV36 dc36 pm36 cd36 ct36 : Value}
    {tMOST_PRICE : Tok}
    {odMS : Option Addr} {slMS : Array (Option Value)} {dnMS : Nat} {tMS0 : Tok} {tMS1 : Tok} {tMS2 : Tok}
    (n_Floor : PySem.W.nsIn K mainGlobals "Floor" = some (some (.ref cFloor)))
    (a0 : PySem.W.nsIn K mainGlobals "inside" = some (some (.ref f0)))
    (l0 : K.lookup f0 = some ⟨oc0, od0, .func (PySem.W.fnOf "inside" "inside" (defArgs sInside) (defBody sInside) (defScope sInside) .none kV0 dc0 pm0 an0 cd0 ct0), sl0⟩)
    (c0 : PySem.W.codeIn K cd0 "inside" = true)
    (k0 : PySem.W.keepIn K (.ref f0) = true)
    (a1 : PySem.W.nsIn K mainGlobals "check_sizes" = some (some (.ref f1)))
    (l1 : K.lookup f1 = some ⟨oc1, od1, .func (PySem.W.fnOf "check_sizes" "check_sizes" (defArgs sCSizes) (defBody sCSizes) (defScope sCSizes) .none kV1 dc1 pm1 an1 cd1 ct1), sl1⟩)
    (c1 : PySem.W.codeIn K cd1 "check_sizes" = true)
    (k1 : PySem.W.keepIn K (.ref f1) = true)
    (a2 : PySem.W.nsIn K mainGlobals "check_price" = some (some (.ref f2)))
    (l2 : K.lookup f2 = some ⟨oc2, od2, .func (PySem.W.fnOf "check_price" "check_price" (defArgs sCPrice) (defBody sCPrice) (defScope sCPrice) .none kV2 dc2 pm2 an2 cd2 ct2), sl2⟩)
    (c2 : PySem.W.codeIn K cd2 "check_price" = true)
    (k2 : PySem.W.keepIn K (.ref f2) = true)
    (a3 : PySem.W.nsIn K mainGlobals "check_prices" = some (some (.ref f3)))
    (l3 : K.lookup f3 = some ⟨oc3, od3, .func (PySem.W.fnOf "check_prices" "check_prices" (defArgs sCPrices) (defBody sCPrices) (defScope sCPrices) .none kV3 dc3 pm3 an3 cd3 ct3), sl3⟩)
    (c3 : PySem.W.codeIn K cd3 "check_prices" = true)
    (k3 : PySem.W.keepIn K (.ref f3) = true)
    (a4 : PySem.W.nsIn K mainGlobals "check_inside" = some (some (.ref f4)))
    (l4 : K.lookup f4 = some ⟨oc4, od4, .func (PySem.W.fnOf "check_inside" "check_inside" (defArgs sCInside) (defBody sCInside) (defScope sCInside) .none kV4 dc4 pm4 an4 cd4 ct4), sl4⟩)
    (c4 : PySem.W.codeIn K cd4 "check_inside" = true)
    (k4 : PySem.W.keepIn K (.ref f4) = true)
    (a5 : PySem.W.nsIn K mainGlobals "neighbours" = some (some (.ref f5)))
    (l5 : K.lookup f5 = some ⟨oc5, od5, .func (PySem.W.fnOf "neighbours" "neighbours" (defArgs sNeigh) (defBody sNeigh) (defScope sNeigh) .none kV5 dc5 pm5 an5 cd5 ct5), sl5⟩)
    (c5 : PySem.W.codeIn K cd5 "neighbours" = true)
    (k5 : PySem.W.keepIn K (.ref f5) = true)
    (a6 : PySem.W.nsIn K mainGlobals "spots_round" = some (some (.ref f6)))
    (l6 : K.lookup f6 = some ⟨oc6, od6, .func (PySem.W.fnOf "spots_round" "spots_round" (defArgs sRound) (defBody sRound) (defScope sRound) .none kV6 dc6 pm6 an6 cd6 ct6), sl6⟩)
    (c6 : PySem.W.codeIn K cd6 "spots_round" = true)
    (k6 : PySem.W.keepIn K (.ref f6) = true)
    (a7 : PySem.W.findIn K (.ref cFloor) "__init__" = some (some (.ref f7)))
    (i7 : PySem.W.isFn K (.ref f7) = true)
    (l7 : K.lookup f7 = some ⟨oc7, od7, .func (PySem.W.fnOf "__init__" "Floor.__init__" (defArgs sFInit) (defBody sFInit) (defScope sFInit) (.ref T7) kV7 dc7 pm7 an7 cd7 ct7), sl7⟩)
    (d7 : K.lookup T7 = some ⟨dq7, do7, .seq #[.none, .none] dn7, ds7⟩)
    (c7 : PySem.W.codeIn K cd7 "Floor.__init__" = true)
    (k7 : PySem.W.keepIn K (.ref f7) = true)
    (a8 : PySem.W.findIn K (.ref cFloor) "is_rock" = some (some (.ref f8)))
    (i8 : PySem.W.isFn K (.ref f8) = true)
    (l8 : K.lookup f8 = some ⟨oc8, od8, .func (PySem.W.fnOf "is_rock" "Floor.is_rock" (defArgs sIsRock) (defBody sIsRock) (defScope sIsRock) .none kV8 dc8 pm8 an8 cd8 ct8), sl8⟩)
    (c8 : PySem.W.codeIn K cd8 "Floor.is_rock" = true)
    (k8 : PySem.W.keepIn K (.ref f8) = true)
    (a9 : PySem.W.findIn K (.ref cFloor) "is_open" = some (some (.ref f9)))
    (i9 : PySem.W.isFn K (.ref f9) = true)
    (l9 : K.lookup f9 = some ⟨oc9, od9, .func (PySem.W.fnOf "is_open" "Floor.is_open" (defArgs sIsOpen) (defBody sIsOpen) (defScope sIsOpen) .none kV9 dc9 pm9 an9 cd9 ct9), sl9⟩)
    (c9 : PySem.W.codeIn K cd9 "Floor.is_open" = true)
    (k9 : PySem.W.keepIn K (.ref f9) = true)
    (a10 : PySem.W.findIn K (.ref cFloor) "is_step" = some (some (.ref f10)))
    (i10 : PySem.W.isFn K (.ref f10) = true)
    (l10 : K.lookup f10 = some ⟨oc10, od10, .func (PySem.W.fnOf "is_step" "Floor.is_step" (defArgs sIsStep) (defBody sIsStep) (defScope sIsStep) .none kV10 dc10 pm10 an10 cd10 ct10), sl10⟩)
    (c10 : PySem.W.codeIn K cd10 "Floor.is_step" = true)
    (k10 : PySem.W.keepIn K (.ref f10) = true)
    (a11 : PySem.W.findIn K (.ref cFloor) "priced" = some (some (.ref f11)))
    (i11 : PySem.W.isFn K (.ref f11) = true)
    (l11 : K.lookup f11 = some ⟨oc11, od11, .func (PySem.W.fnOf "priced" "Floor.priced" (defArgs sPriced) (defBody sPriced) (defScope sPriced) .none kV11 dc11 pm11 an11 cd11 ct11), sl11⟩)
    (c11 : PySem.W.codeIn K cd11 "Floor.priced" = true)
    (k11 : PySem.W.keepIn K (.ref f11) = true)
    (a12 : PySem.W.findIn K (.ref cFloor) "steps" = some (some (.ref f12)))
    (i12 : PySem.W.isFn K (.ref f12) = true)
    (l12 : K.lookup f12 = some ⟨oc12, od12, .func (PySem.W.fnOf "steps" "Floor.steps" (defArgs sSteps) (defBody sSteps) (defScope sSteps) .none kV12 dc12 pm12 an12 cd12 ct12), sl12⟩)
    (c12 : PySem.W.codeIn K cd12 "Floor.steps" = true)
    (k12 : PySem.W.keepIn K (.ref f12) = true)
    (a13 : PySem.W.findIn K (.ref cFloor) "step_price" = some (some (.ref f13)))
    (i13 : PySem.W.isFn K (.ref f13) = true)
    (l13 : K.lookup f13 = some ⟨oc13, od13, .func (PySem.W.fnOf "step_price" "Floor.step_price" (defArgs sStepP) (defBody sStepP) (defScope sStepP) .none kV13 dc13 pm13 an13 cd13 ct13), sl13⟩)
    (c13 : PySem.W.codeIn K cd13 "Floor.step_price" = true)
    (k13 : PySem.W.keepIn K (.ref f13) = true)
    (a14 : PySem.W.findIn K (.ref cFloor) "way_price" = some (some (.ref f14)))
    (i14 : PySem.W.isFn K (.ref f14) = true)
    (l14 : K.lookup f14 = some ⟨oc14, od14, .func (PySem.W.fnOf "way_price" "Floor.way_price" (defArgs sWayP) (defBody sWayP) (defScope sWayP) .none kV14 dc14 pm14 an14 cd14 ct14), sl14⟩)
    (c14 : PySem.W.codeIn K cd14 "Floor.way_price" = true)
    (k14 : PySem.W.keepIn K (.ref f14) = true)
    (a15 : PySem.W.nsIn K mainGlobals "_law_cell_at" = some (some (.ref f15)))
    (l15 : K.lookup f15 = some ⟨oc15, od15, .func (PySem.W.fnOf "_law_cell_at" "_law_cell_at" (defArgs sCell) (defBody sCell) (defScope sCell) .none kV15 dc15 pm15 an15 cd15 ct15), sl15⟩)
    (c15 : PySem.W.codeIn K cd15 "_law_cell_at" = true)
    (k15 : PySem.W.keepIn K (.ref f15) = true)
    (a16 : PySem.W.nsIn K mainGlobals "_law_is_whole" = some (some (.ref f16)))
    (l16 : K.lookup f16 = some ⟨oc16, od16, .func (PySem.W.fnOf "_law_is_whole" "_law_is_whole" (defArgs sWhole) (defBody sWhole) (defScope sWhole) .none kV16 dc16 pm16 an16 cd16 ct16), sl16⟩)
    (c16 : PySem.W.codeIn K cd16 "_law_is_whole" = true)
    (k16 : PySem.W.keepIn K (.ref f16) = true)
    (a17 : PySem.W.nsIn K mainGlobals "_law_is_spot" = some (some (.ref f17)))
    (l17 : K.lookup f17 = some ⟨oc17, od17, .func (PySem.W.fnOf "_law_is_spot" "_law_is_spot" (defArgs sIsSpot) (defBody sIsSpot) (defScope sIsSpot) .none kV17 dc17 pm17 an17 cd17 ct17), sl17⟩)
    (c17 : PySem.W.codeIn K cd17 "_law_is_spot" = true)
    (k17 : PySem.W.keepIn K (.ref f17) = true)
    (a18 : PySem.W.nsIn K mainGlobals "_law_mix" = some (some (.ref f18)))
    (l18 : K.lookup f18 = some ⟨oc18, od18, .func (PySem.W.fnOf "_law_mix" "_law_mix" (defArgs sMix) (defBody sMix) (defScope sMix) .none kV18 dc18 pm18 an18 cd18 ct18), sl18⟩)
    (c18 : PySem.W.codeIn K cd18 "_law_mix" = true)
    (k18 : PySem.W.keepIn K (.ref f18) = true)
    (a19 : PySem.W.nsIn K mainGlobals "_law_price" = some (some (.ref f19)))
    (l19 : K.lookup f19 = some ⟨oc19, od19, .func (PySem.W.fnOf "_law_price" "_law_price" (defArgs sPrice) (defBody sPrice) (defScope sPrice) .none kV19 dc19 pm19 an19 cd19 ct19), sl19⟩)
    (c19 : PySem.W.codeIn K cd19 "_law_price" = true)
    (k19 : PySem.W.keepIn K (.ref f19) = true)
    (a20 : PySem.W.nsIn K mainGlobals "_law_sizes" = some (some (.ref f20)))
    (l20 : K.lookup f20 = some ⟨oc20, od20, .func (PySem.W.fnOf "_law_sizes" "_law_sizes" (defArgs sSizes) (defBody sSizes) (defScope sSizes) .none kV20 dc20 pm20 an20 cd20 ct20), sl20⟩)
    (c20 : PySem.W.codeIn K cd20 "_law_sizes" = true)
    (k20 : PySem.W.keepIn K (.ref f20) = true)
    (a21 : PySem.W.nsIn K mainGlobals "_law_spot" = some (some (.ref f21)))
    (l21 : K.lookup f21 = some ⟨oc21, od21, .func (PySem.W.fnOf "_law_spot" "_law_spot" (defArgs sSpot) (defBody sSpot) (defScope sSpot) .none kV21 dc21 pm21 an21 cd21 ct21), sl21⟩)
    (c21 : PySem.W.codeIn K cd21 "_law_spot" = true)
    (k21 : PySem.W.keepIn K (.ref f21) = true)
    (a22 : PySem.W.nsIn K mainGlobals "_law_ground" = some (some (.ref f22)))
    (l22 : K.lookup f22 = some ⟨oc22, od22, .func (PySem.W.fnOf "_law_ground" "_law_ground" (defArgs sGround) (defBody sGround) (defScope sGround) .none kV22 dc22 pm22 an22 cd22 ct22), sl22⟩)
    (c22 : PySem.W.codeIn K cd22 "_law_ground" = true)
    (k22 : PySem.W.keepIn K (.ref f22) = true)
    (a23 : PySem.W.nsIn K mainGlobals "_law_inside" = some (some (.ref f23)))
    (l23 : K.lookup f23 = some ⟨oc23, od23, .func (PySem.W.fnOf "_law_inside" "_law_inside" (defArgs sLIns) (defBody sLIns) (defScope sLIns) .none kV23 dc23 pm23 an23 cd23 ct23), sl23⟩)
    (c23 : PySem.W.codeIn K cd23 "_law_inside" = true)
    (k23 : PySem.W.keepIn K (.ref f23) = true)
    (a24 : PySem.W.nsIn K mainGlobals "_law_beside" = some (some (.ref f24)))
    (l24 : K.lookup f24 = some ⟨oc24, od24, .func (PySem.W.fnOf "_law_beside" "_law_beside" (defArgs sLBes) (defBody sLBes) (defScope sLBes) .none kV24 dc24 pm24 an24 cd24 ct24), sl24⟩)
    (c24 : PySem.W.codeIn K cd24 "_law_beside" = true)
    (k24 : PySem.W.keepIn K (.ref f24) = true)
    (a25 : PySem.W.nsIn K mainGlobals "_law_due" = some (some (.ref f25)))
    (l25 : K.lookup f25 = some ⟨oc25, od25, .func (PySem.W.fnOf "_law_due" "_law_due" (defArgs sLDue) (defBody sLDue) (defScope sLDue) .none kV25 dc25 pm25 an25 cd25 ct25), sl25⟩)
    (c25 : PySem.W.codeIn K cd25 "_law_due" = true)
    (k25 : PySem.W.keepIn K (.ref f25) = true)
    (a26 : PySem.W.nsIn K mainGlobals "_law_near" = some (some (.ref f26)))
    (l26 : K.lookup f26 = some ⟨oc26, od26, .func (PySem.W.fnOf "_law_near" "_law_near" (defArgs sLNear) (defBody sLNear) (defScope sLNear) .none kV26 dc26 pm26 an26 cd26 ct26), sl26⟩)
    (c26 : PySem.W.codeIn K cd26 "_law_near" = true)
    (k26 : PySem.W.keepIn K (.ref f26) = true)
    (a27 : PySem.W.nsIn K mainGlobals "_law_steps_told" = some (some (.ref f27)))
    (l27 : K.lookup f27 = some ⟨oc27, od27, .func (PySem.W.fnOf "_law_steps_told" "_law_steps_told" (defArgs sLTold) (defBody sLTold) (defScope sLTold) .none kV27 dc27 pm27 an27 cd27 ct27), sl27⟩)
    (c27 : PySem.W.codeIn K cd27 "_law_steps_told" = true)
    (k27 : PySem.W.keepIn K (.ref f27) = true)
    (a28 : PySem.W.nsIn K mainGlobals "_law_steps" = some (some (.ref f28)))
    (l28 : K.lookup f28 = some ⟨oc28, od28, .func (PySem.W.fnOf "_law_steps" "_law_steps" (defArgs sLSteps) (defBody sLSteps) (defScope sLSteps) .none kV28 dc28 pm28 an28 cd28 ct28), sl28⟩)
    (c28 : PySem.W.codeIn K cd28 "_law_steps" = true)
    (k28 : PySem.W.keepIn K (.ref f28) = true)
    (a29 : PySem.W.nsIn K mainGlobals "_law_asked" = some (some (.ref f29)))
    (l29 : K.lookup f29 = some ⟨oc29, od29, .func (PySem.W.fnOf "_law_asked" "_law_asked" (defArgs sLAsk) (defBody sLAsk) (defScope sLAsk) .none kV29 dc29 pm29 an29 cd29 ct29), sl29⟩)
    (c29 : PySem.W.codeIn K cd29 "_law_asked" = true)
    (k29 : PySem.W.keepIn K (.ref f29) = true)
    (a30 : PySem.W.nsIn K mainGlobals "_law_pair_due" = some (some (.ref f30)))
    (l30 : K.lookup f30 = some ⟨oc30, od30, .func (PySem.W.fnOf "_law_pair_due" "_law_pair_due" (defArgs sLPDue) (defBody sLPDue) (defScope sLPDue) .none kV30 dc30 pm30 an30 cd30 ct30), sl30⟩)
    (c30 : PySem.W.codeIn K cd30 "_law_pair_due" = true)
    (k30 : PySem.W.keepIn K (.ref f30) = true)
    (a31 : PySem.W.nsIn K mainGlobals "_law_pair" = some (some (.ref f31)))
    (l31 : K.lookup f31 = some ⟨oc31, od31, .func (PySem.W.fnOf "_law_pair" "_law_pair" (defArgs sLPair) (defBody sLPair) (defScope sLPair) .none kV31 dc31 pm31 an31 cd31 ct31), sl31⟩)
    (c31 : PySem.W.codeIn K cd31 "_law_pair" = true)
    (k31 : PySem.W.keepIn K (.ref f31) = true)
    (a32 : PySem.W.nsIn K mainGlobals "_law_spots_asked" = some (some (.ref f32)))
    (l32 : K.lookup f32 = some ⟨oc32, od32, .func (PySem.W.fnOf "_law_spots_asked" "_law_spots_asked" (defArgs sLSpots) (defBody sLSpots) (defScope sLSpots) .none kV32 dc32 pm32 an32 cd32 ct32), sl32⟩)
    (c32 : PySem.W.codeIn K cd32 "_law_spots_asked" = true)
    (k32 : PySem.W.keepIn K (.ref f32) = true)
    (a33 : PySem.W.nsIn K mainGlobals "_law_way_due" = some (some (.ref f33)))
    (l33 : K.lookup f33 = some ⟨oc33, od33, .func (PySem.W.fnOf "_law_way_due" "_law_way_due" (defArgs sLWDue) (defBody sLWDue) (defScope sLWDue) .none kV33 dc33 pm33 an33 cd33 ct33), sl33⟩)
    (c33 : PySem.W.codeIn K cd33 "_law_way_due" = true)
    (k33 : PySem.W.keepIn K (.ref f33) = true)
    (a34 : PySem.W.nsIn K mainGlobals "_law_way_asked" = some (some (.ref f34)))
    (l34 : K.lookup f34 = some ⟨oc34, od34, .func (PySem.W.fnOf "_law_way_asked" "_law_way_asked" (defArgs sLWAsk) (defBody sLWAsk) (defScope sLWAsk) .none kV34 dc34 pm34 an34 cd34 ct34), sl34⟩)
    (c34 : PySem.W.codeIn K cd34 "_law_way_asked" = true)
    (k34 : PySem.W.keepIn K (.ref f34) = true)
    (a35 : PySem.W.nsIn K mainGlobals "_law_walked" = some (some (.ref f35)))
    (l35 : K.lookup f35 = some ⟨oc35, od35, .func (PySem.W.fnOf "_law_walked" "_law_walked" (defArgs sLWalk) (defBody sLWalk) (defScope sLWalk) .none kV35 dc35 pm35 an35 cd35 ct35), sl35⟩)
    (c35 : PySem.W.codeIn K cd35 "_law_walked" = true)
    (k35 : PySem.W.keepIn K (.ref f35) = true)
    (a36 : PySem.W.nsIn K mainGlobals "law" = some (some (.ref f36)))
    (l36 : K.lookup f36 = some ⟨oc36, od36, .func (PySem.W.fnOf "law" "law" (defArgs slaw) (defBody slaw) (defScope slaw) .none kV36 dc36 pm36 an36 cd36 ct36), sl36⟩)
    (c36 : PySem.W.codeIn K cd36 "law" = true)
    (k36 : PySem.W.keepIn K (.ref f36) = true)
    (pg_Floor : PySem.W.plainGet K cFloor Str.empty = true)
    (hd_Floor : PySem.W.hasDictIn K cFloor = true)
    (po_Floor : PySem.W.plainOver K cFloor = true)
    (sa_Floor : PySem.W.findIn K (.ref cFloor) "__setattr__" = some (some (.builtin "object.__setattr__")))
    (mk_Floor : PySem.W.makesIn K cFloor = true)
    (kc_Floor : PySem.W.keepIn K (.ref cFloor) = true)
    (na_Floor_sizes : PySem.W.findIn K (.ref cFloor) "sizes" = some none)
    (na_Floor_prices : PySem.W.findIn K (.ref cFloor) "prices" = some none)
    (na_Floor_vias : PySem.W.findIn K (.ref cFloor) "vias" = some none)
    (na_Floor_rocks : PySem.W.findIn K (.ref cFloor) "rocks" = some none)
    (na_Floor_tolls : PySem.W.findIn K (.ref cFloor) "tolls" = some none)
    (n_WireError : PySem.W.nsIn K mainGlobals "WireError" = some (some (.ref cWireError)))
    (n_NotAStep : PySem.W.nsIn K mainGlobals "NotAStep" = some (some (.ref cNotAStep)))
    (x_NotAStep : PySem.W.excIn K cNotAStep [.type "ValueError", .type "Exception", .type "BaseException", .type "object"] "ValueError.__new__" = true)
    (ga_NotAStep : PySem.W.findIn K (.ref cNotAStep) "__getattribute__" = some (some (.builtin "BaseException.__getattribute__")))
    (gt_NotAStep : PySem.W.findIn K (.ref cNotAStep) "__getattr__" = some none)
    (cl_NotAStep : PySem.W.findIn K (.ref cNotAStep) "__class__" = some (some (.builtin "object.__class__")))
    (gg_NotAStep : PySem.W.specialIn K (.builtin "object.__class__") "__get__" = some (some (.builtin "getset_descriptor.__get__")))
    (tk_NotAStep : PySem.W.takesIn K (.builtin "object.__class__") = some true)
    (ob_NotAStep : PySem.W.mroIn K cNotAStep (.type "object") = some true)
    (be_NotAStep : PySem.W.mroIn K cNotAStep (.type "BaseException") = some true)
    (n_OutOfFloor : PySem.W.nsIn K mainGlobals "OutOfFloor" = some (some (.ref cOutOfFloor)))
    (x_OutOfFloor : PySem.W.excIn K cOutOfFloor [.type "ValueError", .type "Exception", .type "BaseException", .type "object"] "ValueError.__new__" = true)
    (ga_OutOfFloor : PySem.W.findIn K (.ref cOutOfFloor) "__getattribute__" = some (some (.builtin "BaseException.__getattribute__")))
    (gt_OutOfFloor : PySem.W.findIn K (.ref cOutOfFloor) "__getattr__" = some none)
    (cl_OutOfFloor : PySem.W.findIn K (.ref cOutOfFloor) "__class__" = some (some (.builtin "object.__class__")))
    (gg_OutOfFloor : PySem.W.specialIn K (.builtin "object.__class__") "__get__" = some (some (.builtin "getset_descriptor.__get__")))
    (tk_OutOfFloor : PySem.W.takesIn K (.builtin "object.__class__") = some true)
    (ob_OutOfFloor : PySem.W.mroIn K cOutOfFloor (.type "object") = some true)
    (be_OutOfFloor : PySem.W.mroIn K cOutOfFloor (.type "BaseException") = some true)
    (z_len : PySem.W.nsIn K mainGlobals "len" = some none)
    (z_range : PySem.W.nsIn K mainGlobals "range" = some none)
    (z_isinstance : PySem.W.nsIn K mainGlobals "isinstance" = some none)
    (z_int : PySem.W.nsIn K mainGlobals "int" = some none)
    (z_bool : PySem.W.nsIn K mainGlobals "bool" = some none)
    (z_tuple : PySem.W.nsIn K mainGlobals "tuple" = some none)
    (z_list : PySem.W.nsIn K mainGlobals "list" = some none)
    (z_dict : PySem.W.nsIn K mainGlobals "dict" = some none)
    (z_sorted : PySem.W.nsIn K mainGlobals "sorted" = some none)
    (z_zip : PySem.W.nsIn K mainGlobals "zip" = some none)
    (z_min : PySem.W.nsIn K mainGlobals "min" = some none)
    (z_abs : PySem.W.nsIn K mainGlobals "abs" = some none)
    (z_sum : PySem.W.nsIn K mainGlobals "sum" = some none)
    (z_str : PySem.W.nsIn K mainGlobals "str" = some none)
    (z_ValueError : PySem.W.nsIn K mainGlobals "ValueError" = some none)
    (q_MOST_PRICE : PySem.W.nsIn K mainGlobals "MOST_PRICE" = some (some (.int 1000000000000 tMOST_PRICE)))
    (q_MOST_SIZES : PySem.W.nsIn K mainGlobals "MOST_SIZES" = some (some (.ref cMS)))
    (qt_MOST_SIZES : K.lookup cMS = some ⟨.type "tuple", odMS, .seq #[.int 4 tMS0, .int 16 tMS1, .int 16 tMS2] dnMS, slMS⟩)
    (ii : PySem.W.kitOne K (.type "int") (.type "int") = some true)
    (ib : PySem.W.kitOne K (.type "int") (.type "bool") = some false)
    (tt : PySem.W.kitOne K (.type "tuple") (.type "tuple") = some true)
    (ll : PySem.W.kitOne K (.type "list") (.type "list") = some true)
    (is : PySem.W.kitOne K (.type "int") (.type "str") = some false)
    (ss : PySem.W.kitOne K (.type "str") (.type "str") = some true)
    (oo : PySem.W.kitOne K (.ref cOutOfFloor) (.ref cOutOfFloor) = some true)
    (no : PySem.W.kitOne K (.ref cNotAStep) (.ref cOutOfFloor) = some false)
    (nv : PySem.W.kitOne K (.ref cNotAStep) (.type "ValueError") = some true)
    (ov : PySem.W.kitOne K (.ref cOutOfFloor) (.type "ValueError") = some true)
    (xnn : PySem.W.exmOne K (.ref cNotAStep) (.ref cNotAStep) = some true)
    (xon : PySem.W.exmOne K (.ref cOutOfFloor) (.ref cNotAStep) = some false)
    (xow : PySem.W.exmOne K (.ref cOutOfFloor) (.ref cWireError) = some true)
    (xoo : PySem.W.exmOne K (.ref cOutOfFloor) (.ref cOutOfFloor) = some true)
    : ∃ fd : FuncData, (∀ (s : Shared) (v : Value), BindsTo s fd ⟨[v], []⟩ [("script", v)]) ∧ ∀ base : Heap, K.In base → base.Ns mainGlobals mg → FnOk l.prog w K mg base CX0 8 fa fd ["script"] (spLaw K) := by
  have e := hfa.symm.trans (PySem.W.mg_of X G a36)
  cases e
  have T : Txt K mg cFloor cWireError cNotAStep cOutOfFloor cMS := ⟨PySem.W.mg_none_of X G z_len, PySem.W.mg_none_of X G z_range, PySem.W.mg_none_of X G z_isinstance, PySem.W.mg_none_of X G z_int, PySem.W.mg_none_of X G z_bool, PySem.W.mg_none_of X G z_tuple, PySem.W.mg_none_of X G z_list, PySem.W.mg_none_of X G z_dict, PySem.W.mg_none_of X G z_sorted, PySem.W.mg_none_of X G z_zip, PySem.W.mg_none_of X G z_min, PySem.W.mg_none_of X G z_abs, PySem.W.mg_none_of X G z_sum, PySem.W.mg_none_of X G z_str, PySem.W.mg_none_of X G z_ValueError, ⟨pg_Floor, hd_Floor, po_Floor, sa_Floor⟩, PySem.W.mg_of X G n_Floor, na_Floor_sizes, na_Floor_prices, na_Floor_vias, na_Floor_rocks, na_Floor_tolls, PySem.W.mg_of X G n_WireError, ⟨PySem.W.mg_of X G n_NotAStep, x_NotAStep, ⟨ga_NotAStep, gt_NotAStep, cl_NotAStep, gg_NotAStep, tk_NotAStep, ob_NotAStep, be_NotAStep⟩⟩, ⟨PySem.W.mg_of X G n_OutOfFloor, x_OutOfFloor, ⟨ga_OutOfFloor, gt_OutOfFloor, cl_OutOfFloor, gg_OutOfFloor, tk_OutOfFloor, ob_OutOfFloor, be_OutOfFloor⟩⟩, ⟨_, PySem.W.mg_of X G q_MOST_PRICE, ⟨_, rfl⟩⟩, ⟨_, PySem.W.mg_of X G q_MOST_SIZES, rfl⟩, fun _ => .inr ⟨_, _, _, qt_MOST_SIZES, rfl, rfl, (by show 3 ≤ sizeLine; decide), (.cons ⟨_, rfl⟩ (.cons ⟨_, rfl⟩ (.cons ⟨_, rfl⟩ .nil)))⟩, ii, ib, tt, ll, is, ss, oo, no, nv, ov, xnn, xon, xow, xoo⟩
  have F0 := fun_mk (st := sInside) l0 c0 k0
  have b0 := bd2 (p0 := "sizes") (p1 := "spot") F0 fun _ _ _ _ _ _ _ _ => rfl
  have F1 := fun_mk (st := sCSizes) l1 c1 k1
  have b1 := bd3 (p0 := "sizes") (p1 := "prices") (p2 := "vias") F1 fun _ _ _ _ _ _ _ _ _ => rfl
  have F2 := fun_mk (st := sCPrice) l2 c2 k2
  have b2 := bd2 (p0 := "price") (p1 := "least") F2 fun _ _ _ _ _ _ _ _ => rfl
  have F3 := fun_mk (st := sCPrices) l3 c3 k3
  have b3 := bd3 (p0 := "prices") (p1 := "vias") (p2 := "tolls") F3 fun _ _ _ _ _ _ _ _ _ => rfl
  have F4 := fun_mk (st := sCInside) l4 c4 k4
  have b4 := bd2 (p0 := "sizes") (p1 := "spot") F4 fun _ _ _ _ _ _ _ _ => rfl
  have F5 := fun_mk (st := sNeigh) l5 c5 k5
  have b5 := bd2 (p0 := "one") (p1 := "two") F5 fun _ _ _ _ _ _ _ _ => rfl
  have F6 := fun_mk (st := sRound) l6 c6 k6
  have b6 := bd1 (p0 := "spot") F6 fun _ _ _ _ _ _ _ => rfl
  have F7 := fund_mk (st := sFInit) l7 c7
  have b7_0 : Binds K (PySem.W.fnOf "__init__" "Floor.__init__" (defArgs sFInit) (defBody sFInit) (defScope sFInit) (.ref T7) kV7 dc7 pm7 an7 cd7 ct7) ["self", "sizes", "prices", "vias", "rocks", "tolls"] ([] : List Value) := bindsM rfl d7 6 rfl fun us hl => (by obtain ⟨_, _, _, _, _, _, rfl⟩ := bl6 (us := us) hl; exact ⟨_, rfl, rfl⟩)
  have b7_1 : Binds K (PySem.W.fnOf "__init__" "Floor.__init__" (defArgs sFInit) (defBody sFInit) (defScope sFInit) (.ref T7) kV7 dc7 pm7 an7 cd7 ct7) ["self", "sizes", "prices", "vias", "rocks", "tolls"] ([Value.none] : List Value) := bindsM rfl d7 5 rfl fun us hl => (by obtain ⟨_, _, _, _, _, rfl⟩ := bl5 (us := us) hl; exact ⟨_, rfl, rfl⟩)
  have b7_2 : Binds K (PySem.W.fnOf "__init__" "Floor.__init__" (defArgs sFInit) (defBody sFInit) (defScope sFInit) (.ref T7) kV7 dc7 pm7 an7 cd7 ct7) ["self", "sizes", "prices", "vias", "rocks", "tolls"] ([Value.none, Value.none] : List Value) := bindsM rfl d7 4 rfl fun us hl => (by obtain ⟨_, _, _, _, rfl⟩ := bl4 (us := us) hl; exact ⟨_, rfl, rfl⟩)
  have F8 := fun_mk (st := sIsRock) l8 c8 k8
  have b8 := bd2 (p0 := "self") (p1 := "spot") F8 fun _ _ _ _ _ _ _ _ => rfl
  have F9 := fun_mk (st := sIsOpen) l9 c9 k9
  have b9 := bd2 (p0 := "self") (p1 := "spot") F9 fun _ _ _ _ _ _ _ _ => rfl
  have F10 := fun_mk (st := sIsStep) l10 c10 k10
  have b10 := bd3 (p0 := "self") (p1 := "one") (p2 := "two") F10 fun _ _ _ _ _ _ _ _ _ => rfl
  have F11 := fun_mk (st := sPriced) l11 c11 k11
  have b11 := bd3 (p0 := "self") (p1 := "one") (p2 := "two") F11 fun _ _ _ _ _ _ _ _ _ => rfl
  have F12 := fun_mk (st := sSteps) l12 c12 k12
  have b12 := bd2 (p0 := "self") (p1 := "spot") F12 fun _ _ _ _ _ _ _ _ => rfl
  have F13 := fun_mk (st := sStepP) l13 c13 k13
  have b13 := bd3 (p0 := "self") (p1 := "one") (p2 := "two") F13 fun _ _ _ _ _ _ _ _ _ => rfl
  have F14 := fun_mk (st := sWayP) l14 c14 k14
  have b14 := bd2 (p0 := "self") (p1 := "way") F14 fun _ _ _ _ _ _ _ _ => rfl
  have F15 := fun_mk (st := sCell) l15 c15 k15
  have b15 := bd2 (p0 := "script") (p1 := "k") F15 fun _ _ _ _ _ _ _ _ => rfl
  have F16 := fun_mk (st := sWhole) l16 c16 k16
  have b16 := bd1 (p0 := "found") F16 fun _ _ _ _ _ _ _ => rfl
  have F17 := fun_mk (st := sIsSpot) l17 c17 k17
  have b17 := bd1 (p0 := "found") F17 fun _ _ _ _ _ _ _ => rfl
  have F18 := fun_mk (st := sMix) l18 c18 k18
  have b18 := bd2 (p0 := "cell") (p1 := "k") F18 fun _ _ _ _ _ _ _ _ => rfl
  have F19 := fun_mk (st := sPrice) l19 c19 k19
  have b19 := bd2 (p0 := "cell") (p1 := "k") F19 fun _ _ _ _ _ _ _ _ => rfl
  have F20 := fun_mk (st := sSizes) l20 c20 k20
  have b20 := bd1 (p0 := "cell") F20 fun _ _ _ _ _ _ _ => rfl
  have F21 := fun_mk (st := sSpot) l21 c21 k21
  have b21 := bd2 (p0 := "sizes") (p1 := "number") F21 fun _ _ _ _ _ _ _ _ => rfl
  have F22 := fun_mk (st := sGround) l22 c22 k22
  have b22 := bd1 (p0 := "script") F22 fun _ _ _ _ _ _ _ => rfl
  have F23 := fun_mk (st := sLIns) l23 c23 k23
  have b23 := bd2 (p0 := "sizes") (p1 := "spot") F23 fun _ _ _ _ _ _ _ _ => rfl
  have F24 := fun_mk (st := sLBes) l24 c24 k24
  have b24 := bd2 (p0 := "one") (p1 := "two") F24 fun _ _ _ _ _ _ _ _ => rfl
  have F25 := fun_mk (st := sLDue) l25 c25 k25
  have b25 := bd3 (p0 := "ground") (p1 := "one") (p2 := "two") F25 fun _ _ _ _ _ _ _ _ _ => rfl
  have F26 := fun_mk (st := sLNear) l26 c26 k26
  have b26 := bd2 (p0 := "ground") (p1 := "spot") F26 fun _ _ _ _ _ _ _ _ => rfl
  have F27 := fun_mk (st := sLTold) l27 c27 k27
  have b27 := bd4 (p0 := "ground") (p1 := "spot") (p2 := "near") (p3 := "found") F27 fun _ _ _ _ _ _ _ _ _ _ => rfl
  have F28 := fun_mk (st := sLSteps) l28 c28 k28
  have b28 := bd3 (p0 := "floor") (p1 := "ground") (p2 := "spot") F28 fun _ _ _ _ _ _ _ _ _ => rfl
  have F29 := fun_mk (st := sLAsk) l29 c29 k29
  have b29 := bd3 (p0 := "floor") (p1 := "one") (p2 := "two") F29 fun _ _ _ _ _ _ _ _ _ => rfl
  have F30 := fun_mk (st := sLPDue) l30 c30 k30
  have b30 := bd3 (p0 := "ground") (p1 := "one") (p2 := "two") F30 fun _ _ _ _ _ _ _ _ _ => rfl
  have F31 := fun_mk (st := sLPair) l31 c31 k31
  have b31 := bd4 (p0 := "floor") (p1 := "ground") (p2 := "one") (p3 := "two") F31 fun _ _ _ _ _ _ _ _ _ _ => rfl
  have F32 := fun_mk (st := sLSpots) l32 c32 k32
  have b32 := bd2 (p0 := "floor") (p1 := "ground") F32 fun _ _ _ _ _ _ _ _ => rfl
  have F33 := fun_mk (st := sLWDue) l33 c33 k33
  have b33 := bd2 (p0 := "ground") (p1 := "way") F33 fun _ _ _ _ _ _ _ _ => rfl
  have F34 := fun_mk (st := sLWAsk) l34 c34 k34
  have b34 := bd2 (p0 := "floor") (p1 := "way") F34 fun _ _ _ _ _ _ _ _ => rfl
  have F35 := fun_mk (st := sLWalk) l35 c35 k35
  have b35 := bd3 (p0 := "floor") (p1 := "ground") (p2 := "script") F35 fun _ _ _ _ _ _ _ _ _ => rfl
  have F36 := fun_mk (st := slaw) l36 c36 k36
  refine ⟨PySem.W.fnOf "law" "law" (defArgs slaw) (defBody slaw) (defScope slaw) .none kV36 dc36 pm36 an36 cd36 ct36, fun s v => .of_eq rfl, fun base hB _ => ?_⟩
  have gInside : Callee l.prog w K mg base "inside" 1 ["sizes", "spot"] spInside := ⟨f0, _, ok_Inside F0 T, PySem.W.mg_of X G a0, k0, b0⟩
  have gCSizes : Callee l.prog w K mg base "check_sizes" 1 ["sizes", "prices", "vias"] spCSizes := ⟨f1, _, ok_CSizes F1 hB T, PySem.W.mg_of X G a1, k1, b1⟩
  have gCPrice : Callee l.prog w K mg base "check_price" 1 ["price", "least"] spCPrice := ⟨f2, _, ok_CPrice F2 hB T, PySem.W.mg_of X G a2, k2, b2⟩
  have gCPrices : Callee l.prog w K mg base "check_prices" 2 ["prices", "vias", "tolls"] spCPrices := ⟨f3, _, ok_CPrices F3 T gCPrice, PySem.W.mg_of X G a3, k3, b3⟩
  have gCInside : CalleeX l.prog w K mg base "check_inside" 2 ["sizes", "spot"] (spCInside cOutOfFloor) := ⟨f4, _, ok_CInside F4 hB T gInside, PySem.W.mg_of X G a4, k4, b4⟩
  have gNeigh : Callee l.prog w K mg base "neighbours" 1 ["one", "two"] spNeigh := ⟨f5, _, ok_Neigh F5 T, PySem.W.mg_of X G a5, k5, b5⟩
  have gRound : Callee l.prog w K mg base "spots_round" 1 ["spot"] spRound := ⟨f6, _, ok_Round F6 T, PySem.W.mg_of X G a6, k6, b6⟩
  have gFInit : KCalleeM l.prog w K mg base cFloor "Floor" 3 ["self", "sizes", "prices", "vias", "rocks", "tolls"] (spFInit cFloor) := ⟨f7, _, ok_FInit F7 T gCSizes gCPrices gCInside, ⟨mk_Floor, a7, i7, kc_Floor⟩, PySem.W.mg_of X G n_Floor, b7_0, b7_1, b7_2⟩
  have gIsRock : MCallee l.prog w K mg base cFloor "is_rock" 3 ["self", "spot"] (spIsRock cFloor) := ⟨f8, _, ok_IsRock F8 T gCInside, ⟨a8, i8, k8⟩, b8⟩
  have gIsOpen : MCallee l.prog w K mg base cFloor "is_open" 2 ["self", "spot"] (spIsOpen cFloor) := ⟨f9, _, ok_IsOpen F9 T gInside, ⟨a9, i9, k9⟩, b9⟩
  have gIsStep : MCallee l.prog w K mg base cFloor "is_step" 3 ["self", "one", "two"] (spIsStep cFloor) := ⟨f10, _, ok_IsStep F10 T gNeigh gIsOpen, ⟨a10, i10, k10⟩, b10⟩
  have gPriced : MCallee l.prog w K mg base cFloor "priced" 1 ["self", "one", "two"] (spPriced cFloor) := ⟨f11, _, ok_Priced F11 T, ⟨a11, i11, k11⟩, b11⟩
  have gSteps : MCallee l.prog w K mg base cFloor "steps" 4 ["self", "spot"] (spSteps cFloor) := ⟨f12, _, ok_Steps F12 T gRound gIsRock gIsOpen gPriced, ⟨a12, i12, k12⟩, b12⟩
  have gStepP : MCalleeX l.prog w K mg base cFloor "step_price" 4 ["self", "one", "two"] (spStepP cFloor cOutOfFloor cNotAStep) := ⟨f13, _, ok_StepP F13 hB T gCInside gIsStep gPriced, ⟨a13, i13, k13⟩, b13⟩
  have gWayP : MCalleeX l.prog w K mg base cFloor "way_price" 5 ["self", "way"] (spWayP cFloor cOutOfFloor cNotAStep) := ⟨f14, _, ok_WayP F14 T gStepP, ⟨a14, i14, k14⟩, b14⟩
  have gCell : Callee l.prog w K mg base "_law_cell_at" 1 ["script", "k"] (spCell K) := ⟨f15, _, ok_Cell F15 T, PySem.W.mg_of X G a15, k15, b15⟩
  have gWhole : Callee l.prog w K mg base "_law_is_whole" 1 ["found"] spWhole := ⟨f16, _, ok_Whole F16 T, PySem.W.mg_of X G a16, k16, b16⟩
  have gIsSpot : Callee l.prog w K mg base "_law_is_spot" 2 ["found"] spIsSpot := ⟨f17, _, ok_IsSpot F17 T gWhole, PySem.W.mg_of X G a17, k17, b17⟩
  have gMix : Callee l.prog w K mg base "_law_mix" 1 ["cell", "k"] spMix := ⟨f18, _, ok_Mix F18 T, PySem.W.mg_of X G a18, k18, b18⟩
  have gPrice : Callee l.prog w K mg base "_law_price" 2 ["cell", "k"] spPrice := ⟨f19, _, ok_Price F19 T gMix, PySem.W.mg_of X G a19, k19, b19⟩
  have gSizes : Callee l.prog w K mg base "_law_sizes" 1 ["cell"] spSizes := ⟨f20, _, ok_Sizes F20 T, PySem.W.mg_of X G a20, k20, b20⟩
  have gSpot : Callee l.prog w K mg base "_law_spot" 1 ["sizes", "number"] spSpot := ⟨f21, _, ok_Spot F21 T, PySem.W.mg_of X G a21, k21, b21⟩
  have gGround : Callee l.prog w K mg base "_law_ground" 3 ["script"] (spGround K) := ⟨f22, _, ok_Ground F22 T gCell gPrice gSizes gSpot, PySem.W.mg_of X G a22, k22, b22⟩
  have gLIns : Callee l.prog w K mg base "_law_inside" 1 ["sizes", "spot"] spLIns := ⟨f23, _, ok_LIns F23 T, PySem.W.mg_of X G a23, k23, b23⟩
  have gLBes : Callee l.prog w K mg base "_law_beside" 1 ["one", "two"] spLBes := ⟨f24, _, ok_LBes F24 T, PySem.W.mg_of X G a24, k24, b24⟩
  have gLDue : Callee l.prog w K mg base "_law_due" 1 ["ground", "one", "two"] spLDue := ⟨f25, _, ok_LDue F25 T, PySem.W.mg_of X G a25, k25, b25⟩
  have gLNear : Callee l.prog w K mg base "_law_near" 2 ["ground", "spot"] spLNear := ⟨f26, _, ok_LNear F26 T gLIns, PySem.W.mg_of X G a26, k26, b26⟩
  have gLTold : Callee l.prog w K mg base "_law_steps_told" 3 ["ground", "spot", "near", "found"] spLTold := ⟨f27, _, ok_LTold F27 T gWhole gIsSpot gLDue, PySem.W.mg_of X G a27, k27, b27⟩
  have gLSteps : Callee l.prog w K mg base "_law_steps" 5 ["floor", "ground", "spot"] (spLSteps cFloor) := ⟨f28, _, ok_LSteps F28 T gSteps gLNear gLTold, PySem.W.mg_of X G a28, k28, b28⟩
  have gLAsk : Callee l.prog w K mg base "_law_asked" 5 ["floor", "one", "two"] (spLAsk cFloor) := ⟨f29, _, ok_LAsk F29 T gStepP, PySem.W.mg_of X G a29, k29, b29⟩
  have gLPDue : Callee l.prog w K mg base "_law_pair_due" 2 ["ground", "one", "two"] spLPDue := ⟨f30, _, ok_LPDue F30 T gLIns gLBes gLDue, PySem.W.mg_of X G a30, k30, b30⟩
  have gLPair : Callee l.prog w K mg base "_law_pair" 6 ["floor", "ground", "one", "two"] (spLPair cFloor) := ⟨f31, _, ok_LPair F31 T gWhole gLAsk gLPDue, PySem.W.mg_of X G a31, k31, b31⟩
  have gLSpots : Callee l.prog w K mg base "_law_spots_asked" 7 ["floor", "ground"] (spLSpots cFloor) := ⟨f32, _, ok_LSpots F32 T gSpot gLNear gLSteps gLPair, PySem.W.mg_of X G a32, k32, b32⟩
  have gLWDue : Callee l.prog w K mg base "_law_way_due" 3 ["ground", "way"] spLWDue := ⟨f33, _, ok_LWDue F33 T gLPDue, PySem.W.mg_of X G a33, k33, b33⟩
  have gLWAsk : Callee l.prog w K mg base "_law_way_asked" 6 ["floor", "way"] (spLWAsk cFloor) := ⟨f34, _, ok_LWAsk F34 T gWayP, PySem.W.mg_of X G a34, k34, b34⟩
  have gLWalk : Callee l.prog w K mg base "_law_walked" 7 ["floor", "ground", "script"] (spLWalk K cFloor) := ⟨f35, _, ok_LWalk F35 T gWayP gCell gWhole gSpot gLDue gLNear gLWDue gLWAsk, PySem.W.mg_of X G a35, k35, b35⟩
  exact ok_law F36 T gFInit gWayP gSpot gGround gLPair gLSpots gLWalk
theorem walk {l : PySem.W.OpenLaw} {q : Program} {loose : List Str} {XP : (Str → Option Value) → Heap → Prop} {YP : World → Heap → Prop} {d : DefRec} {K : Params → PySem.W.Frag} (hn : l.most = some 63) (hdf : d.params.defaults = [])
    (hY : ∀ (w : World) (h : Heap), YP w h → (K w.params).In h)
    (F : ∀ (w : World) (mg : Str → Option Value) (fa : Addr) (h : Heap), (K w.params).In h → h.Ns mainGlobals mg → mg d.name = some (.ref fa) →
      ∃ fd : FuncData, (∀ (s : Shared) (u : Value), BindsTo s fd ⟨[u], []⟩ [("script", u)]) ∧ ∀ base : Heap, (K w.params).In base → base.Ns mainGlobals mg → FnOk l.prog w (K w.params) mg base CX0 8 fa fd ["script"] (spLaw (K w.params))) :
    PySem.W.WalkO q loose XP YP l.row.toRowW d [] (fun f vs => PySem.call f vs) :=
  L2.walk_of (n := 63) (k := 8) (x := "script") (CX := fun _ => CX0) (sp := fun w => spLaw (K w.params)) hn (by decide) hdf ⟨rfl, by decide, by decide, rfl⟩ hY F (fun _ _ a ns hl _ hS => ⟨a, ns, rfl, hS, hl, fun _ => rfl⟩) fun _ _ _ _ _ z => z
end K05
/-! these names are taken, so that the head lays no second forms of the greatest of its objects -/
def PySem.W.Fast.tw11890645078411400360 : Unit := ()
def PySem.W.Fast.tw15415109983745067340 : Unit := ()
def PySem.W.Fast.tw12397724057511462693 : Unit := ()
def PySem.W.Fast.tw9823111245356879485 : Unit := ()
def PySem.W.Fast.tw15374854109184306857 : Unit := ()
def PySem.W.Fast.tw7042207894562632578 : Unit := ()
def PySem.W.Fast.tw7269927864654630323 : Unit := ()
def PySem.W.Fast.tw17348360622895555999 : Unit := ()
def PySem.W.Fast.tw17174783201997244998 : Unit := ()
def PySem.W.Fast.tw3401036082850368887 : Unit := ()
def PySem.W.Fast.tw10726859461743212156 : Unit := ()
def PySem.W.Fast.tw2011785033683652247 : Unit := ()
def PySem.W.Fast.tw6940755256366287438 : Unit := ()
def PySem.W.Fast.tw9344647598159376523 : Unit := ()
def PySem.W.Fast.tw17272658941468556781 : Unit := ()
def PySem.W.Fast.tw261955576365166903 : Unit := ()
def PySem.W.Fast.tw494551093322735274 : Unit := ()
def PySem.W.Fast.tw9671022522271068465 : Unit := ()
def PySem.W.Fast.tw2471559366939207894 : Unit := ()
def PySem.W.Fast.tw16186841373398962149 : Unit := ()
def PySem.W.Fast.tw8315827328632296351 : Unit := ()
def PySem.W.Fast.tw4513881844555241187 : Unit := ()
def PySem.W.Fast.tw13847316034696236207 : Unit := ()
def PySem.W.Fast.tw10005504394438593654 : Unit := ()
def PySem.W.Fast.tw2291489951694156500 : Unit := ()
def PySem.W.Fast.tw4805871667476289113 : Unit := ()
def PySem.W.Fast.tw5380938537009630762 : Unit := ()
def PySem.W.Fast.tw15223918407586773938 : Unit := ()
def PySem.W.Fast.tw5766963943059498538 : Unit := ()
def PySem.W.Fast.tw12022136637693761118 : Unit := ()
def PySem.W.Fast.tw10727695702083476642 : Unit := ()
def PySem.W.Fast.tw4519746033434017691 : Unit := ()
def PySem.W.Fast.tw2436599199063437626 : Unit := ()
def PySem.W.Fast.tw6646154100923931728 : Unit := ()
def PySem.W.Fast.tw11085819139728316474 : Unit := ()
def PySem.W.Fast.tw3510937853870497675 : Unit := ()
def PySem.W.Fast.tw9661876768539456540 : Unit := ()
def PySem.W.Fast.tw13438885683759206213 : Unit := ()
def PySem.W.Fast.tw13728190691200869219 : Unit := ()
def PySem.W.Fast.tw3275984512713026836 : Unit := ()
def PySem.W.Fast.tw2926326435242107996 : Unit := ()
def PySem.W.Fast.tw8389305079629363925 : Unit := ()
def PySem.W.Fast.tw7650139649690583230 : Unit := ()
def PySem.W.Fast.tw14692655824578820696 : Unit := ()
def PySem.W.Fast.tw2868768623333265958 : Unit := ()
def PySem.W.Fast.tw6854042955613979838 : Unit := ()
def PySem.W.Fast.tw12800369677240282058 : Unit := ()
def PySem.W.Fast.tw6324013693681787433 : Unit := ()
def PySem.W.Fast.tw5253717865787416234 : Unit := ()
def PySem.W.Fast.tw12072115406800096475 : Unit := ()
def PySem.W.Fast.tw13449652484285672088 : Unit := ()
def PySem.W.Fast.tw10426173865078109883 : Unit := ()
def PySem.W.Fast.tw2248901478831531455 : Unit := ()
def PySem.W.Fast.tw3542977410338565296 : Unit := ()
def PySem.W.Fast.tw6428117716312053356 : Unit := ()
def PySem.W.Fast.tw706263998665765837 : Unit := ()
def PySem.W.Fast.tw11241245179896009982 : Unit := ()
def PySem.W.Fast.tw15733122084253276682 : Unit := ()
def PySem.W.Fast.tw5554418362481751469 : Unit := ()
def PySem.W.Fast.tw17410985578873802355 : Unit := ()
def PySem.W.Fast.tw2000699892687034922 : Unit := ()
def PySem.W.Fast.tw321174772820040197 : Unit := ()
def PySem.W.Fast.tw9677647814314874247 : Unit := ()
def PySem.W.Fast.tw11437023879099684979 : Unit := ()
def PySem.W.Fast.tw13052358207665017642 : Unit := ()
def PySem.W.Fast.tw15260375176531028180 : Unit := ()
def PySem.W.Fast.tw8393905621324195735 : Unit := ()
def PySem.W.Fast.tw11517722734005356058 : Unit := ()
def PySem.W.Fast.tw3420161048117689139 : Unit := ()
def PySem.W.Fast.tw1490328489230113516 : Unit := ()
def PySem.W.Fast.tw11104493849180649419 : Unit := ()
def PySem.W.Fast.tw4849762028275669039 : Unit := ()
def PySem.W.Fast.tw332056326270101741 : Unit := ()
def PySem.W.Fast.tw15051056048813738420 : Unit := ()
def PySem.W.Fast.tw6570019055331199087 : Unit := ()
def PySem.W.Fast.tw2808591606049884767 : Unit := ()
def PySem.W.Fast.tw7318678684481571790 : Unit := ()
def PySem.W.Fast.tw6412526218979196023 : Unit := ()
def PySem.W.Fast.tw10484126472591829274 : Unit := ()
def PySem.W.Fast.tw9615062377576711289 : Unit := ()
def PySem.W.Fast.tw2726828774199390108 : Unit := ()
def PySem.W.Fast.tw12423673306720658641 : Unit := ()
def PySem.W.Fast.tw3587793607185823538 : Unit := ()
def PySem.W.Fast.tw3749501169309309725 : Unit := ()
def PySem.W.Fast.tw812479209927725927 : Unit := ()
def PySem.W.Fast.tw3590560120891739246 : Unit := ()
def PySem.W.Fast.tw15205933223221836243 : Unit := ()
def PySem.W.Fast.tw8632910365947638326 : Unit := ()
open PySem PySem.W PyProof.Rows
set_option maxRecDepth 100000 in
set_option maxHeartbeats 0 in
theorem PySem.Challenge.cw_wirefloor_k05_steps_and_prices_holds : PySem.Challenge.rw_wirefloor_k05_steps_and_prices.Holds := by
  w_on; o_law; k_head; (case hw => w_witness2)
  k_fill
  refine K05.walk (l := PySem.Challenge.rw_wirefloor_k05_steps_and_prices) rfl rfl (fun w h Y => PySem.W.kIn_of Y) ?F
  case F =>
    intro w mg fa h KX G hmg
    refine' K05.all_mk KX G hmg ?n_Floor ?a0 ?l0 ?c0 ?k0 ?a1 ?l1 ?c1 ?k1 ?a2 ?l2 ?c2 ?k2 ?a3 ?l3 ?c3 ?k3 ?a4 ?l4 ?c4 ?k4 ?a5 ?l5 ?c5 ?k5 ?a6 ?l6 ?c6 ?k6 ?a7 ?i7 ?l7 ?d7 ?c7 ?k7 ?a8 ?i8 ?l8 ?c8 ?k8 ?a9 ?i9 ?l9 ?c9 ?k9 ?a10 ?i10 ?l10 ?c10 ?k10 ?a11 ?i11 ?l11 ?c11 ?k11 ?a12 ?i12 ?l12 ?c12 ?k12 ?a13 ?i13 ?l13 ?c13 ?k13 ?a14 ?i14 ?l14 ?c14 ?k14 ?a15 ?l15 ?c15 ?k15 ?a16 ?l16 ?c16 ?k16 ?a17 ?l17 ?c17 ?k17 ?a18 ?l18 ?c18 ?k18 ?a19 ?l19 ?c19 ?k19 ?a20 ?l20 ?c20 ?k20 ?a21 ?l21 ?c21 ?k21 ?a22 ?l22 ?c22 ?k22 ?a23 ?l23 ?c23 ?k23 ?a24 ?l24 ?c24 ?k24 ?a25 ?l25 ?c25 ?k25 ?a26 ?l26 ?c26 ?k26 ?a27 ?l27 ?c27 ?k27 ?a28 ?l28 ?c28 ?k28 ?a29 ?l29 ?c29 ?k29 ?a30 ?l30 ?c30 ?k30 ?a31 ?l31 ?c31 ?k31 ?a32 ?l32 ?c32 ?k32 ?a33 ?l33 ?c33 ?k33 ?a34 ?l34 ?c34 ?k34 ?a35 ?l35 ?c35 ?k35 ?a36 ?l36 ?c36 ?k36 ?pg_Floor ?hd_Floor ?po_Floor ?sa_Floor ?mk_Floor ?kc_Floor ?na_Floor_sizes ?na_Floor_prices ?na_Floor_vias ?na_Floor_rocks ?na_Floor_tolls ?n_WireError ?n_NotAStep ?x_NotAStep ?ga_NotAStep ?gt_NotAStep ?cl_NotAStep ?gg_NotAStep ?tk_NotAStep ?ob_NotAStep ?be_NotAStep ?n_OutOfFloor ?x_OutOfFloor ?ga_OutOfFloor ?gt_OutOfFloor ?cl_OutOfFloor ?gg_OutOfFloor ?tk_OutOfFloor ?ob_OutOfFloor ?be_OutOfFloor ?z_len ?z_range ?z_isinstance ?z_int ?z_bool ?z_tuple ?z_list ?z_dict ?z_sorted ?z_zip ?z_min ?z_abs ?z_sum ?z_str ?z_ValueError ?q_MOST_PRICE ?q_MOST_SIZES ?qt_MOST_SIZES ?ii ?ib ?tt ?ll ?is ?ss ?oo ?no ?nv ?ov ?xnn ?xon ?xow ?xoo
    (case n_Floor => k_is)
    (case a0 => k_is)
    (case l0 => k_is)
    (case c0 => k_is)
    (case k0 => k_is)
    (case a1 => k_is)
    (case l1 => k_is)
    (case c1 => k_is)
    (case k1 => k_is)
    (case a2 => k_is)
    (case l2 => k_is)
    (case c2 => k_is)
    (case k2 => k_is)
    (case a3 => k_is)
    (case l3 => k_is)
    (case c3 => k_is)
    (case k3 => k_is)
    (case a4 => k_is)
    (case l4 => k_is)
    (case c4 => k_is)
    (case k4 => k_is)
    (case a5 => k_is)
    (case l5 => k_is)
    (case c5 => k_is)
    (case k5 => k_is)
    (case a6 => k_is)
    (case l6 => k_is)
    (case c6 => k_is)
    (case k6 => k_is)
    (case a7 => k_is)
    (case i7 => k_is)
    (case l7 => k_is)
    (case d7 => k_is)
    (case c7 => k_is)
    (case k7 => k_is)
    (case a8 => k_is)
    (case i8 => k_is)
    (case l8 => k_is)
    (case c8 => k_is)
    (case k8 => k_is)
    (case a9 => k_is)
    (case i9 => k_is)
    (case l9 => k_is)
    (case c9 => k_is)
    (case k9 => k_is)
    (case a10 => k_is)
    (case i10 => k_is)
    (case l10 => k_is)
    (case c10 => k_is)
    (case k10 => k_is)
    (case a11 => k_is)
    (case i11 => k_is)
    (case l11 => k_is)
    (case c11 => k_is)
    (case k11 => k_is)
    (case a12 => k_is)
    (case i12 => k_is)
    (case l12 => k_is)
    (case c12 => k_is)
    (case k12 => k_is)
    (case a13 => k_is)
    (case i13 => k_is)
    (case l13 => k_is)
    (case c13 => k_is)
    (case k13 => k_is)
    (case a14 => k_is)
    (case i14 => k_is)
    (case l14 => k_is)
    (case c14 => k_is)
    (case k14 => k_is)
    (case a15 => k_is)
    (case l15 => k_is)
    (case c15 => k_is)
    (case k15 => k_is)
    (case a16 => k_is)
    (case l16 => k_is)
    (case c16 => k_is)
    (case k16 => k_is)
    (case a17 => k_is)
    (case l17 => k_is)
    (case c17 => k_is)
    (case k17 => k_is)
    (case a18 => k_is)
    (case l18 => k_is)
    (case c18 => k_is)
    (case k18 => k_is)
    (case a19 => k_is)
    (case l19 => k_is)
    (case c19 => k_is)
    (case k19 => k_is)
    (case a20 => k_is)
    (case l20 => k_is)
    (case c20 => k_is)
    (case k20 => k_is)
    (case a21 => k_is)
    (case l21 => k_is)
    (case c21 => k_is)
    (case k21 => k_is)
    (case a22 => k_is)
    (case l22 => k_is)
    (case c22 => k_is)
    (case k22 => k_is)
    (case a23 => k_is)
    (case l23 => k_is)
    (case c23 => k_is)
    (case k23 => k_is)
    (case a24 => k_is)
    (case l24 => k_is)
    (case c24 => k_is)
    (case k24 => k_is)
    (case a25 => k_is)
    (case l25 => k_is)
    (case c25 => k_is)
    (case k25 => k_is)
    (case a26 => k_is)
    (case l26 => k_is)
    (case c26 => k_is)
    (case k26 => k_is)
    (case a27 => k_is)
    (case l27 => k_is)
    (case c27 => k_is)
    (case k27 => k_is)
    (case a28 => k_is)
    (case l28 => k_is)
    (case c28 => k_is)
    (case k28 => k_is)
    (case a29 => k_is)
    (case l29 => k_is)
    (case c29 => k_is)
    (case k29 => k_is)
    (case a30 => k_is)
    (case l30 => k_is)
    (case c30 => k_is)
    (case k30 => k_is)
    (case a31 => k_is)
    (case l31 => k_is)
    (case c31 => k_is)
    (case k31 => k_is)
    (case a32 => k_is)
    (case l32 => k_is)
    (case c32 => k_is)
    (case k32 => k_is)
    (case a33 => k_is)
    (case l33 => k_is)
    (case c33 => k_is)
    (case k33 => k_is)
    (case a34 => k_is)
    (case l34 => k_is)
    (case c34 => k_is)
    (case k34 => k_is)
    (case a35 => k_is)
    (case l35 => k_is)
    (case c35 => k_is)
    (case k35 => k_is)
    (case a36 => k_is)
    (case l36 => k_is)
    (case c36 => k_is)
    (case k36 => k_is)
    (case pg_Floor => k_is)
    (case hd_Floor => k_is)
    (case po_Floor => k_is)
    (case sa_Floor => k_is)
    (case mk_Floor => k_is)
    (case kc_Floor => k_is)
    (case na_Floor_sizes => k_is)
    (case na_Floor_prices => k_is)
    (case na_Floor_vias => k_is)
    (case na_Floor_rocks => k_is)
    (case na_Floor_tolls => k_is)
    (case n_WireError => k_is)
    (case n_NotAStep => k_is)
    (case x_NotAStep => k_exc)
    (case ga_NotAStep => k_is)
    (case gt_NotAStep => k_is)
    (case cl_NotAStep => k_is)
    (case gg_NotAStep => k_is)
    (case tk_NotAStep => k_is)
    (case ob_NotAStep => k_is)
    (case be_NotAStep => k_is)
    (case n_OutOfFloor => k_is)
    (case x_OutOfFloor => k_exc)
    (case ga_OutOfFloor => k_is)
    (case gt_OutOfFloor => k_is)
    (case cl_OutOfFloor => k_is)
    (case gg_OutOfFloor => k_is)
    (case tk_OutOfFloor => k_is)
    (case ob_OutOfFloor => k_is)
    (case be_OutOfFloor => k_is)
    (case z_len => k_is)
    (case z_range => k_is)
    (case z_isinstance => k_is)
    (case z_int => k_is)
    (case z_bool => k_is)
    (case z_tuple => k_is)
    (case z_list => k_is)
    (case z_dict => k_is)
    (case z_sorted => k_is)
    (case z_zip => k_is)
    (case z_min => k_is)
    (case z_abs => k_is)
    (case z_sum => k_is)
    (case z_str => k_is)
    (case z_ValueError => k_is)
    (case q_MOST_PRICE => k_is)
    (case q_MOST_SIZES => k_is)
    (case qt_MOST_SIZES => k_is)
    (case ii => kit_is)
    (case ib => kit_is)
    (case tt => kit_is)
    (case ll => kit_is)
    (case is => kit_is)
    (case ss => kit_is)
    (case oo => kit_is)
    (case no => kit_is)
    (case nv => kit_is)
    (case ov => kit_is)
    (case xnn => kts_exm)
    (case xon => kts_exm)
    (case xow => kts_exm)
    (case xoo => kts_exm)
