import PyProof.Rows.All
import Wide.All
import OpenK.AllK
import Wide.FinOn
import Lean
import PyProof.EqAt
import PyProof.EqKinds
import PyProof.TupleCall
import OpenK.KRaise
import OpenK.KOwn
import KE.KTryMore
import KE.RegKTryMore
import PyProof.ExcArgsOwn
import KE.KIntText
import KE.KSortTup
import KE.KDictOf
import KE.KRevIter
import KE.KEqDict
import PyProof.Rows.SetFrom
import PyProof.TupleKey
import PyProof.Rows.SetObj
import PyProof.SetRoads
import PyProof.IsiH_list
import PyProof.ZipIter
import PyProof.Rows.TupIter
import PyProof.DictValues
import PyProof.DictWalks
import KE.KDictSum
import KE.KNest
import KE.KLam
import KE.KNestM
import KE.KDictList
import KE.KDictLaws
import PyProof.Rows.SetFrom
import PyProof.TupleKey
import PyProof.Rows.SetObj
import PyProof.SetRoads
import PyProof.StrLawsRepr
import PyProof.ReprStr
import PyProof.FString
import PySem.Challenge.RW_wirefloor_k06_thing_made
set_option Elab.async false
set_option linter.all false
set_option maxRecDepth 100000
noncomputable section
namespace L2
open PySem PySem.Spec PyProof.Rows
abbrev Key := Sum Int Str
def keyIs : Key → Value → Bool
  | .inl k, v => Value.isInt k v
  | .inr x, v => Value.isStrOf x v
def keyH (w : World) : Key → Int
  | .inl k => hashInt k
  | .inr x => hashStr w x
theorem keyIs_shape : ∀ {k : Key} {v : Value}, keyIs k v = true → (∃ i t, k = Sum.inl i ∧ v = Value.int i t) ∨ (∃ x t, k = Sum.inr x ∧ v = Value.str x t)
  | .inl i, v, h => by
    obtain ⟨t, e⟩ := Value.isInt_shape (k := i) (v := v) h
    exact .inl ⟨i, t, rfl, e⟩
  | .inr x, v, h => by
    obtain ⟨t, e⟩ := Value.isStrOf_shape (x := x) (v := v) h
    exact .inr ⟨x, t, rfl, e⟩
theorem key_ll (a b : Int) : decide ((Sum.inl a : Key) = Sum.inl b) = (a == b) := by
  by_cases e : a = b
  · subst e; simp
  · have h : ¬ (Sum.inl a : Key) = Sum.inl b := fun q => e (Sum.inl.inj q)
    rw [decide_eq_false h]
    exact (beq_eq_false_iff_ne.mpr e).symm
theorem key_rr (a b : Str) : decide ((Sum.inr a : Key) = Sum.inr b) = decide (a = b) := by
  by_cases e : a = b
  · subst e; simp
  · have h : ¬ (Sum.inr a : Key) = Sum.inr b := fun q => e (Sum.inr.inj q)
    rw [decide_eq_false h, decide_eq_false e]
theorem key_lr (a : Int) (b : Str) : decide ((Sum.inl a : Key) = Sum.inr b) = false := decide_eq_false (fun q => nomatch q)
theorem key_rl (a : Str) (b : Int) : decide ((Sum.inr a : Key) = Sum.inl b) = false := decide_eq_false (fun q => nomatch q)
def mixKind (prog : Program) (w : World) : PySem.KeyKind prog w Key where
  is := keyIs
  hash := keyH w
  inj := fun v a b ha hb => by
    rcases keyIs_shape ha with ⟨i, t, rfl, rfl⟩ | ⟨x, t, rfl, rfl⟩
    · rcases keyIs_shape hb with ⟨j, u, rfl, e⟩ | ⟨y, u, rfl, e⟩
      · injection e with e1 _; rw [e1]
      · exact nomatch e
    · rcases keyIs_shape hb with ⟨j, u, rfl, e⟩ | ⟨y, u, rfl, e⟩
      · exact nomatch e
      · injection e with e1 _; rw [e1]
  byValue := fun k v h => by
    rcases keyIs_shape h with ⟨i, t, rfl, rfl⟩ | ⟨x, t, rfl, rfl⟩ <;> rfl
  pyHash := fun hv h => by
    rcases keyIs_shape hv with ⟨i, t, rfl, rfl⟩ | ⟨x, t, rfl, rfl⟩
    · exact wpAny_pyHash_int h
    · exact wpAny_pyHash_str h
  eqBool := fun hu hv h => by
    rcases keyIs_shape hu with ⟨i, t, rfl, rfl⟩ | ⟨x, t, rfl, rfl⟩
    · rcases keyIs_shape hv with ⟨j, u, rfl, rfl⟩ | ⟨y, u, rfl, rfl⟩
      · rw [key_ll] at h; exact wpAny_eqBool_int h
      · rw [key_lr] at h; exact SeqAt.EqAt.int_str i t y u _ _ _ _ h
    · rcases keyIs_shape hv with ⟨j, u, rfl, rfl⟩ | ⟨y, u, rfl, rfl⟩
      · rw [key_rl] at h; exact SeqAt.EqAt.str_int x t j u _ _ _ _ h
      · rw [key_rr] at h; exact wpAny_eqBool_str h
  «strs» := fun k x t v h => by
    rcases keyIs_shape h with ⟨i, u, rfl, e⟩ | ⟨y, u, rfl, e⟩
    · exact nomatch e
    · injection e with e1 _
      subst e1
      cases v <;> rfl
end L2
namespace L2
open PySem PySem.Spec PyProof.Rows
inductive V where
  | non | bl (b : Bool) | int (i : Int) | str (x : Str) | byt (b : Array UInt8) | flt (b : UInt64) | ref (a : Addr) | ty (n : String)
  deriving DecidableEq
def RelV : V → Value → Prop
  | .non, u => u = Value.none
  | .bl b, u => u = Value.bool b
  | .int i, u => ∃ t, u = Value.int i t
  | .str x, u => ∃ t, u = Value.str x t
  | .byt b, u => ∃ t, u = Value.bytes b t
  | .flt b, u => ∃ t, u = Value.float b t
  | .ref a, u => u = Value.ref a
  | .ty n, u => u = Value.type n
abbrev Vals : List V → List Value → Prop := Paired RelV
theorem Vals.length {xs : List V} {us : List Value} (r : Vals xs us) : xs.length = us.length := Paired.length r
theorem Vals.get : ∀ {xs : List V} {us : List Value} {i : Nat} {x : V}, Vals xs us → xs[i]? = some x → ∃ u, us[i]? = some u ∧ RelV x u
  | _, _, _, _, .nil, e => by simp at e
  | _, _, 0, _, .cons r _, e => by simp at e; subst e; exact ⟨_, rfl, r⟩
  | _, _, i + 1, x, .cons _ t, e => by
    obtain ⟨u, h1, h2⟩ := Vals.get (i := i) (x := x) t (by simpa using e)
    exact ⟨u, by simpa using h1, h2⟩
theorem Vals.set {x : V} {u : Value} (r : RelV x u) : ∀ {xs : List V} {us : List Value} (i : Nat), Vals xs us → Vals (xs.set i x) (us.set i u)
  | _, _, _, .nil => .nil
  | _, _, 0, .cons _ t => .cons r t
  | _, _, i + 1, .cons q t => .cons q (Vals.set r i t)
theorem Vals.append : ∀ {xs ys : List V} {us ws : List Value}, Vals xs us → Vals ys ws → Vals (xs ++ ys) (us ++ ws)
  | _, _, _, _, .nil, s => s
  | _, _, _, _, .cons r t, s => .cons r (Vals.append t s)
theorem Vals.take : ∀ {xs : List V} {us : List Value} (n : Nat), Vals xs us → Vals (xs.take n) (us.take n)
  | _, _, 0, _ => .nil
  | _, _, _ + 1, .nil => .nil
  | _, _, n + 1, .cons r t => .cons r (Vals.take n t)
theorem Vals.drop : ∀ {xs : List V} {us : List Value} (n : Nat), Vals xs us → Vals (xs.drop n) (us.drop n)
  | _, _, 0, r => r
  | _, _, _ + 1, .nil => .nil
  | _, _, n + 1, .cons _ t => Vals.drop n t
def RelO : Option V → Option Value → Prop
  | some v, some u => RelV v u
  | none, none => True
  | _, _ => False
def KV {κ : Type} : List (κ × V) → List (κ × Value) → Prop := Paired fun (p : κ × V) (q : κ × Value) => p.1 = q.1 ∧ RelV p.2 q.2
def kV : Key → V
  | .inl i => .int i
  | .inr x => .str x
inductive HO where
  | lst (xs : List V)
  | tup (xs : List V)
  | dK (kvs : List (Key × V)) | dT (kvs : List (List Key × V))
  | set (S : Int → Bool) (n : Nat)
  | ins (C dx : Addr) (fs : List (Str × V))
  | own (x : Addr)
  | xd (fs : List (Str × V))
  | met (f x : Addr)
  | rng (lo hi : Int)
  | frz (o : Obj) (u : HO)
  | tbl (ps : Array Value)
  | ext (φ : Heap → Prop)
abbrev Hp := Addr → Option HO
def upd (H : Hp) (a : Addr) (o : HO) : Hp := fun b => if b = a then some o else H b
theorem upd_same {H : Hp} {a : Addr} {o : HO} : upd H a o a = some o := by unfold upd; rw [if_pos rfl]
theorem upd_ne {H : Hp} {a b : Addr} {o : HO} (h : b ≠ a) : upd H a o b = H b := by unfold upd; rw [if_neg h]
theorem upd_upd {H : Hp} {a : Addr} {o u : HO} : upd (upd H a o) a u = upd H a u := by
  funext b; unfold upd; split <;> rfl
theorem ne_of {H : Hp} {a b : Addr} {o u : HO} (h : H a = some o) (h' : H b = some u) (d : o ≠ u) : a ≠ b := by
  intro e; subst e; rw [h] at h'; exact d (Option.some.inj h')
theorem ne_of_none {H : Hp} {a b : Addr} {o : HO} (h : H a = some o) (h' : H b = none) : a ≠ b := by
  intro e; subst e; rw [h] at h'; cases h'
section
variable (P : Program) (w : World)
def ObjOk (H : Hp) (h : Heap) (a : Addr) : HO → Prop
  | .lst xs => xs.length ≤ sizeLine ∧ ∃ (its : List Value) (n : Nat), Vals xs its ∧ h.get? a = some { cls := .type "list", data := .seq its.toArray n }
  | .tup xs => xs.length ≤ sizeLine ∧ ∃ its : List Value, Vals xs its ∧ IsTup h a its.toArray
  | .dK kvs => kvs.length ≤ sizeLine ∧ (a == sysModules) = false ∧ ∃ vs, KV kvs vs ∧ h.DictOf (mixKind P w) a vs
  | .dT kvs => kvs.length ≤ sizeLine ∧ (a == sysModules) = false ∧ ∃ xs : List (List Key × Addr × Value),
      Paired (fun (p : List Key × V) (q : List Key × Addr × Value) => p.1 = q.1 ∧ H q.2.1 = some (.tup (p.1.map kV)) ∧ RelV p.2 q.2.2) kvs xs ∧
      ∃ o es ep, h.get? a = some o ∧ o.ExactDict ∧ o.data = .dict es ep ∧ es.toList = xs.map (entryOfKey (tupleKind (mixKind P w))) ∧ (xs.map (·.1)).Nodup
  | .set S n => h.SetOf (intKind P w) a S n
  | .ins C dx fs => H dx = some (.own a) ∧ fs.length ≤ 1000 ∧ dx ≠ a ∧ h.get? a = some (PySem.W.instObj C dx) ∧
      ∃ mA, h.Ns1 dx mA ∧ (∀ f, RelO (fs.lookup f) (mA f)) ∧ PySem.Within mA (fs.map (·.1))
  | .own _ => ∃ o, h.get? a = some o
  | .xd fs => ∃ mA, h.Ns1 a mA ∧ ∀ f, RelO (fs.lookup f) (mA f)
  | .rng lo hi => ∃ t u v, h.get? a = some { cls := .type "range", data := .fields #[.int lo t, .int hi u, .int 1 v] }
  | .frz o u => h.get? a = some o ∧ ObjOk H h a u
  | .tbl ps => h.get? a = some { cls := .none, data := .fields ps }
  | .met f x => h.get? a = some (PySem.W.methodObj (.ref f) (.ref x))
  | .ext φ => φ h ∧ (∃ o, h.get? a = some o) ∧ ∀ h1 h2 : Heap, φ h1 → (∀ o, h1.get? a = some o → h2.get? a = some o) → φ h2
def HOk (H : Hp) (h : Heap) : Prop := ∀ a o, H a = some o → ObjOk P w H h a o
end
section
variable {P : Program} {w : World} {H H' : Hp} {h h' : Heap} {a : Addr} {o : HO}
theorem ObjOk.lt (x : ObjOk P w H h a o) : a < h.objs.size := by
  cases o with
  | lst xs => obtain ⟨_, _, _, _, e⟩ := x; exact Heap.lt_size e
  | tup xs => obtain ⟨_, _, _, p⟩ := x; exact p.lt
  | dK kvs => obtain ⟨_, _, _, _, o, _, _, e, _⟩ := x; exact Heap.lt_size e
  | dT kvs => obtain ⟨_, _, _, _, o, _, _, e, _⟩ := x; exact Heap.lt_size e
  | set S n => obtain ⟨o, _, _, _, e, _⟩ := x; exact Heap.lt_size e
  | ins C dx fs => obtain ⟨_, _, _, e, _⟩ := x; exact Heap.lt_size e
  | own y => obtain ⟨_, e⟩ := x; exact Heap.lt_size e
  | xd fs => obtain ⟨_, ⟨_, _, _, e, _⟩, _⟩ := x; exact Heap.lt_size e
  | rng lo hi => obtain ⟨_, _, _, e⟩ := x; exact Heap.lt_size e
  | frz ob u => obtain ⟨e, _⟩ := x; exact Heap.lt_size e
  | tbl ps => exact Heap.lt_size (show h.get? a = some _ from x)
  | met f y => exact Heap.lt_size (show h.get? a = some _ from x)
  | ext φ => obtain ⟨_, ⟨_, e⟩, _⟩ := x; exact Heap.lt_size e
theorem Paired.mapP {α β : Type} {F G : α → β → Prop} : ∀ {l₁ : List α} {l₂ : List β}, Paired F l₁ l₂ → (∀ a b, F a b → G a b) → Paired G l₁ l₂
  | _, _, .nil, _ => .nil
  | _, _, .cons r t, f => .cons (f _ _ r) (Paired.mapP t f)
theorem ObjOk.stay (x : ObjOk P w H h a o) (k : ∀ b u, (b = a ∨ H b = some (.own a)) → h.get? b = some u → h'.get? b = some u)
    (ho : ∀ b, H b = some (.own a) → H' b = some (.own a)) (ht : ∀ b xs, H b = some (.tup xs) → H' b = some (.tup xs)) : ObjOk P w H' h' a o := by
  induction o with
  | lst xs => obtain ⟨z, its, n, r, e⟩ := x; exact ⟨z, its, n, r, k _ _ (.inl rfl) e⟩
  | tup xs => obtain ⟨z, its, r, ob, e, c⟩ := x; exact ⟨z, its, r, ob, k _ _ (.inl rfl) e, c⟩
  | dK kvs => obtain ⟨z, y, vs, r, ob, es, ep, e, c⟩ := x; exact ⟨z, y, vs, r, ob, es, ep, k _ _ (.inl rfl) e, c⟩
  | dT kvs =>
    obtain ⟨z, y, xs, r, ob, es, ep, e, c⟩ := x
    exact ⟨z, y, xs, Paired.mapP r fun p q z => ⟨z.1, ht _ _ z.2.1, z.2.2⟩, ob, es, ep, k _ _ (.inl rfl) e, c⟩
  | set S n => obtain ⟨ob, es, ep, t, e, c⟩ := x; exact ⟨ob, es, ep, t, k _ _ (.inl rfl) e, c⟩
  | ins C dx fs =>
    obtain ⟨d, z, ne, e, mA, ⟨od, es, ep, e2, c⟩, r⟩ := x
    exact ⟨ho _ d, z, ne, k _ _ (.inl rfl) e, mA, ⟨od, es, ep, k _ _ (.inr d) e2, c⟩, r⟩
  | own y => obtain ⟨ob, e⟩ := x; exact ⟨ob, k _ _ (.inl rfl) e⟩
  | xd fs => obtain ⟨mA, ⟨od, es, ep, e, c⟩, r⟩ := x; exact ⟨mA, ⟨od, es, ep, k _ _ (.inl rfl) e, c⟩, r⟩
  | rng lo hi => obtain ⟨t, u, v, e⟩ := x; exact ⟨t, u, v, k _ _ (.inl rfl) e⟩
  | frz ob u ih => obtain ⟨e, q⟩ := x; exact ⟨k _ _ (.inl rfl) e, ih q⟩
  | tbl ps =>
    have e : h.get? a = some { cls := .none, data := .fields ps } := x
    show h'.get? a = some { cls := .none, data := .fields ps }
    exact k a _ (.inl rfl) e
  | met f y =>
    have e : h.get? a = some (PySem.W.methodObj (.ref f) (.ref y)) := x
    show h'.get? a = some (PySem.W.methodObj (.ref f) (.ref y))
    exact k a _ (.inl rfl) e
  | ext φ => obtain ⟨p, ⟨o, e⟩, st⟩ := x; exact ⟨st _ _ p fun o q => k _ _ (.inl rfl) q, ⟨o, k _ _ (.inl rfl) e⟩, st⟩
theorem HOk.lt (x : HOk P w H h) (e : H a = some o) : a < h.objs.size := (x a o e).lt
theorem HOk.fresh (x : HOk P w H h) (e : h.objs.size ≤ a) : H a = none := by
  cases q : H a with
  | none => rfl
  | some u => exact absurd (Nat.lt_of_lt_of_le (x.lt q) e) (Nat.lt_irrefl _)
theorem HOk.kept (x : HOk P w H h) (k : ∀ b u, h.get? b = some u → h'.get? b = some u) : HOk P w H h' := fun a o e =>
  (x a o e).stay (fun b u _ q => k b u q) (fun _ q => q) fun _ _ q => q
theorem HOk.laid (x : HOk P w H h) (k : ∀ b u, h.get? b = some u → h'.get? b = some u) (hp : h.objs.size ≤ a) (new : ObjOk P w (upd H a o) h' a o) : HOk P w (upd H a o) h' := fun b u e => by
  have hn := x.fresh hp
  by_cases hb : b = a
  · subst hb; rw [upd_same] at e; cases e; exact new
  · rw [upd_ne hb] at e
    exact (x b u e).stay (fun c v _ q => k c v q) (fun c q => by rw [upd_ne (ne_of_none q hn)]; exact q) fun c xs q => by rw [upd_ne (ne_of_none q hn)]; exact q
end
def Rd (H : Hp) (a : Addr) (u : HO) : Prop := H a = some u ∨ ∃ o, H a = some (.frz o u)
theorem Rd.ok {P : Program} {w : World} {H : Hp} {h : Heap} {a : Addr} {u : HO} (r : Rd H a u) (x : HOk P w H h) : ObjOk P w H h a u := by
  rcases r with r | ⟨o, r⟩
  · exact x a u r
  · obtain ⟨_, q⟩ := x a _ r
    exact q
def Mut : Option HO → Prop
  | some (.lst _) => True
  | some (.dK _) => True
  | some (.dT _) => True
  | some (.set _ _) => True
  | some (.ins _ _ _) => True
  | some (.ext _) => True
  | _ => False
section
variable {P : Program} {w : World} {H : Hp} {h h' : Heap} {x e : Addr} {o' : HO}
theorem HOk.write (ok : HOk P w H h) (mu : Mut (H x)) (he : e = x ∨ H e = some (.own x)) (k : ∀ b u, b ≠ e → h.get? b = some u → h'.get? b = some u) (heo : ∃ u, h'.get? e = some u)
    (new : ObjOk P w (upd H x o') h' x o') : HOk P w (upd H x o') h' := fun b u q => by
  have nown : ∀ c y, H c = some (.own y) → c ≠ x := fun c y r z => by subst z; rw [r] at mu; exact mu
  have ntup : ∀ c xs, H c = some (.tup xs) → c ≠ x := fun c xs r z => by subst z; rw [r] at mu; exact mu
  by_cases hb : b = x
  · subst hb; rw [upd_same] at q; cases q; exact new
  · rw [upd_ne hb] at q
    by_cases hbe : b = e
    · have q' : H b = some (.own x) := by
        rcases he with z | z
        · exact absurd (hbe.trans z) hb
        · rw [hbe]; exact z
      rw [q] at q'; cases q'
      obtain ⟨v, hv⟩ := heo
      exact ⟨v, by rw [hbe]; exact hv⟩
    · refine (ok b u q).stay (fun c v hc r => k c v ?_ r) (fun c r => by rw [upd_ne (nown c b r)]; exact r) fun c xs r => by rw [upd_ne (ntup c xs r)]; exact r
      rcases hc with rfl | hc
      · exact hbe
      · rintro rfl
        rcases he with z | z
        · exact nown c b hc z
        · rw [hc] at z; cases z; exact hb rfl
end
structure Un (fs ex : List Addr) (H H' : Hp) (h h' : Heap) : Prop where
  keep : ∀ b o, h.get? b = some o → H b = none → b ∉ fs → b ∉ ex → h'.get? b = some o
  slot : ∀ b o, h.get? b = some o → H b = none → b ∈ fs → b ∉ ex → ∃ sl, h'.get? b = some { o with slots := sl }
  free : ∀ b o, h.get? b = some o → H b = none → b ∉ ex → H' b = none
  there : ∀ b o, h.get? b = some o → b ∉ ex → ∃ o', h'.get? b = some o'
  tups : ∀ b xs, H b = some (.tup xs) → H' b = some (.tup xs)
  frzs : ∀ b o u, H b = some (.frz o u) → H' b = some (.frz o u)
  tbls : ∀ b ps, H b = some (.tbl ps) → ∃ more, H' b = some (.tbl (ps ++ more))
section
variable {fs fs' ex ex' : List Addr} {H H1 H2 : Hp} {h h1 h2 h' : Heap} {a x e : Addr} {o : HO}
theorem Un.any (u : Un fs ex H H1 h h1) {b : Addr} {ob : Obj} (q : h.get? b = some ob) (n : H b = none) (hx : b ∉ ex) : ∃ sl, h1.get? b = some { ob with slots := sl } := by
  by_cases hb : b ∈ fs
  · exact u.slot b ob q n hb hx
  · exact ⟨ob.slots, u.keep b ob q n hb hx⟩
theorem Un.kept (k : ∀ b u, h.get? b = some u → h'.get? b = some u) : Un fs ex H H h h' :=
  ⟨fun b ob q _ _ _ => k b ob q, fun b ob q _ _ _ => ⟨ob.slots, k b ob q⟩, fun _ _ _ n _ => n, fun b ob q _ => ⟨ob, k b ob q⟩, fun _ _ q => q, fun _ _ _ q => q, fun _ ps q => ⟨#[], by rw [q]; simp⟩⟩
theorem Un.refl : Un fs ex H H h h := Un.kept fun _ _ q => q
theorem Un.laid (k : ∀ b u, h.get? b = some u → h'.get? b = some u) (hp : h.objs.size ≤ a) (hn : H a = none) : Un fs ex H (upd H a o) h h' where
  keep := fun b u q _ _ _ => k b u q
  slot := fun b u q _ _ _ => ⟨u.slots, k b u q⟩
  free := fun b u q n _ => by rw [upd_ne (Nat.ne_of_lt (Nat.lt_of_lt_of_le (Heap.lt_size q) hp))]; exact n
  there := fun b u q _ => ⟨u, k b u q⟩
  tups := fun b xs q => by rw [upd_ne (ne_of_none q hn)]; exact q
  frzs := fun b u xs q => by rw [upd_ne (ne_of_none q hn)]; exact q
  tbls := fun b ps q => ⟨#[], by rw [upd_ne (ne_of_none q hn), q]; simp⟩
theorem Un.write (mu : Mut (H x)) (he : e = x ∨ H e = some (.own x)) (k : ∀ b u, b ≠ e → h.get? b = some u → h'.get? b = some u) (heo : ∃ u, h'.get? e = some u) : Un fs ex H (upd H x o) h h' := by
  have hx : ∀ b, H b = none → b ≠ x := fun b n z => by subst z; rw [n] at mu; exact mu
  have hb : ∀ b, H b = none → b ≠ e := fun b n z => by
    subst z
    rcases he with r | r
    · exact hx b n r
    · rw [n] at r; cases r
  have hm : ∀ b u, H b = some u → ¬ Mut (some u) → b ≠ x := fun b u q nm z => by subst z; rw [q] at mu; exact nm mu
  refine ⟨fun b u q n _ _ => k b u (hb b n) q, fun b u q n _ _ => ⟨u.slots, k b u (hb b n) q⟩, fun b u q n _ => by rw [upd_ne (hx b n)]; exact n, fun b u q _ => ?_,
    fun b xs q => by rw [upd_ne (hm b _ q fun z => z)]; exact q, fun b u xs q => by rw [upd_ne (hm b _ q fun z => z)]; exact q, fun b ps q => ⟨#[], by rw [upd_ne (hm b _ q fun z => z), q]; simp⟩⟩
  by_cases hbe : b = e
  · subst hbe; exact heo
  · exact ⟨u, k b u hbe q⟩
end
def trk (h : Heap) (H : Hp) : List Addr := (List.range h.objs.size).filter fun a => (H a).isSome
def hidT (h : Heap) (H : Hp) : Heap := PySem.W.hideAll h (trk h H)
theorem hidT_size (h : Heap) (H : Hp) : (hidT h H).objs.size = h.objs.size := PySem.W.hideAll_size _ _
theorem hidT_get {h : Heap} {H : Hp} {b : Addr} {o : Obj} (e : h.get? b = some o) (n : H b = none) : (hidT h H).get? b = some o :=
  PySem.W.hideAll_get _ e fun hm => by
    have q : (H b).isSome = true := (List.mem_filter.mp hm).2
    rw [n] at q; simp at q
theorem of_hidT {h : Heap} {H : Hp} {b : Addr} {o : Obj} (e : (hidT h H).get? b = some o) : h.get? b = some o ∧ H b = none := by
  have e' : h.get? b = some o := PySem.W.of_hideAll (trk h H) e
  refine ⟨e', ?_⟩
  cases q : H b with
  | none => rfl
  | some x =>
    have hm : b ∈ trk h H := List.mem_filter.mpr ⟨List.mem_range.mpr (Heap.lt_size e'), by simp [q]⟩
    have z : (hidT h H).get? b = none := PySem.W.hideAll_none (trk h H) hm
    rw [z] at e; cases e
def allNews (g h : Heap) (L : Addr) : List (Addr × Obj) := (List.range h.objs.size).filterMap fun a => if a = L ∨ (g.get? a).isSome = true then none else (h.get? a).map fun o => (a, o)
def rest (g h : Heap) (L d : Addr) : List (Addr × Obj) := (allNews g h L).filter fun p => decide (p.1 ≠ d)
end L2
namespace L2
open PySem PySem.Spec PyProof.Rows
structure Mod (K : PySem.W.Frag) (mg : Str → Option Value) (base : Heap) : Prop where
  kin : K.In base
  glob : base.Ns mainGlobals mg
  blt : ∃ mb, base.Ns builtinsNs mb ∧ ∀ x : Str, x ≠ "__name__" → mb x = bootBuiltins x
  nolimit : base.NoLimit
structure Cx where
  prog : Program
  w : World
  K : PySem.W.Frag
  mg : Str → Option Value
  base : Heap
  A : Around
  N : List Str
  s₀ : Shared
  H₀ : Hp
  env : Env
  outer : List Env
  stack : List Env
  ex : List Addr
  fn : Str → Bool
  calm : Bool
  pn : List (Addr × Obj)
  xe : Value → Shared → Prop
def frs (l : List Env) : List Addr := l.filterMap (·.frame)
abbrev Cx.fs (X : Cx) : List Addr := frs X.outer
def Vis (sc : Scope) (x : Str) : Prop := sc.names.lookup x = some .local ∨ sc.names.lookup x = some .cell ∨ sc.names.lookup x = some .free
def Loc (sc : Scope) (x : Str) : Prop := sc.names.lookup x = some .local ∨ sc.names.lookup x = some .cell
def Look (env : Env) (h : Heap) (m : Str → Option Value) (x : Str) (u : Value) : Prop :=
  (env.kindOf x = some .local ∧ m x = some u) ∨ ((env.kindOf x = some .cell ∨ env.kindOf x = some .free) ∧ ∃ c, env.cells.lookup x = some c ∧ h.IsCell c (some u))
structure Cx.Ok (X : Cx) : Prop where
  mod : Mod X.K X.mg X.base
  kind : X.env.scope.kind = .function
  glob : X.env.globals = mainGlobals
  blt : X.env.builtins = builtinsNs
  above : X.s₀.heap.objs.size ≤ X.env.locals
  inj : ∀ x y c, X.env.cells.lookup x = some c → X.env.cells.lookup y = some c → x = y
  has : ∀ x, (X.env.kindOf x = some .cell ∨ X.env.kindOf x = some .free) → ∃ c, X.env.cells.lookup x = some c
  cab : ∀ x c, X.fn x = true → X.env.cells.lookup x = some c → X.s₀.heap.objs.size ≤ c
  hd : X.calm = true → X.A.handled = none
  frames : X.A.frames = some X.stack
  stk : X.stack = X.outer ∨ (X.stack = X.env :: X.outer ∧ X.env.frame = some X.env.locals)
  exf : ∀ b ∈ X.ex, b ≠ X.env.locals ∧ ∀ x c, X.env.cells.lookup x = some c → c ≠ b
  bs : ∀ b o, X.base.get? b = some o → X.s₀.heap.get? b = some o ∧ X.H₀ b = none
  bsz : X.base.objs.size ≤ X.s₀.heap.objs.size
  noex : ∀ b o, X.base.get? b = some o → b ∉ X.ex
  exfs : ∀ b ∈ X.ex, b ∉ X.fs
  funs : X.s₀.heap.FunFrames X.base X.outer
  frf : ∀ b ∈ X.fs, X.H₀ b = none
structure Inv (X : Cx) (pins : List (Addr × Obj)) (σ : List (Option V)) (H : Hp) (s : Shared) : Prop where
  ok : X.Ok
  os : s.os = X.s₀.os
  bare : AllBare s.gens
  base : Un X.fs X.ex X.H₀ H X.s₀.heap s.heap
  loc : ∃ m, s.heap.Ns X.env.locals m ∧ ∀ (i : Nat) (x : Str) (v : V), X.N[i]? = some x → σ[i]? = some (some v) → Vis X.env.scope x → ∃ u, RelV v u ∧ Look X.env s.heap m x u
  cell : ∀ x c, X.env.cells.lookup x = some c → ∃ v, s.heap.IsCell c v
  free : H X.env.locals = none
  freeC : ∀ x c, X.env.cells.lookup x = some c → H c = none
  pin : ∀ p ∈ X.pn ++ pins, s.heap.get? p.1 = some p.2 ∧ H p.1 = none ∧ p.1 ≠ X.env.locals ∧ p.1 ∉ X.fs ∧ ∀ v, p.2.data ≠ .cell v
  hok : HOk X.prog X.w H s.heap
  len : σ.length = X.N.length
section
variable {X : Cx} {pins : List (Addr × Obj)} {σ : List (Option V)} {H H' : Hp} {s : Shared} {h' : Heap}
theorem Cx.Ok.nofr (ok : X.Ok) {b : Addr} {o : Obj} (e : X.base.get? b = some o) : b ∉ X.fs := fun hb => by
  have := (ok.funs.mem hb).1
  rw [e] at this; cases this
theorem Inv.bs (I : Inv X pins σ H s) : ∀ b o, X.base.get? b = some o → s.heap.get? b = some o ∧ H b = none := fun b o e =>
  ⟨I.base.keep b o (I.ok.bs b o e).1 (I.ok.bs b o e).2 (I.ok.nofr e) (I.ok.noex b o e), I.base.free b o (I.ok.bs b o e).1 (I.ok.bs b o e).2 (I.ok.noex b o e)⟩
theorem Inv.bk (I : Inv X pins σ H s) : ∀ b o, X.base.get? b = some o → s.heap.get? b = some o := fun b o e => (I.bs b o e).1
theorem Inv.mod (I : Inv X pins σ H s) : Mod X.K X.mg X.base := I.ok.mod
theorem Inv.kIn (I : Inv X pins σ H s) : X.K.In s.heap := I.ok.mod.kin.keeps I.bk
theorem Inv.lt (I : Inv X pins σ H s) : X.env.locals < s.heap.objs.size := let ⟨_, hn, _⟩ := I.loc; hn.lt
theorem Inv.sz (I : Inv X pins σ H s) : X.s₀.heap.objs.size ≤ s.heap.objs.size := Nat.le_trans I.ok.above (Nat.le_of_lt I.lt)
theorem Inv.nofs (I : Inv X pins σ H s) {a : Addr} (h : s.heap.objs.size ≤ a) : a ∉ X.fs := fun hb => by
  obtain ⟨_, o, ho, _⟩ := I.ok.funs.mem hb
  exact absurd (Nat.lt_of_lt_of_le (Heap.lt_size ho) (Nat.le_trans I.sz h)) (Nat.lt_irrefl _)
theorem Inv.cne (I : Inv X pins σ H s) : ∀ x c, X.env.cells.lookup x = some c → c ≠ X.env.locals := fun x c e z => by
  obtain ⟨v, o, ho, hd⟩ := I.cell x c e
  obtain ⟨m, ⟨o', es, ep, ho', hd', _⟩, _⟩ := I.loc
  rw [z, ho'] at ho; cases ho; rw [hd'] at hd; cases hd
theorem Inv.funs (I : Inv X pins σ H s) : s.heap.FunFrames X.base X.outer := by
  have all : ∀ (l : List Env), (∀ b ∈ frs l, b ∈ X.fs) → X.s₀.heap.FunFrames X.base l → s.heap.FunFrames X.base l := by
    intro l
    induction l with
    | nil => intro _ _; trivial
    | cons env r ih =>
      intro hs hl
      obtain ⟨hk, ⟨L, o, hf, hn, ho, hd⟩, hr⟩ := hl
      have hL : L ∈ X.fs := hs L (by unfold frs; rw [List.filterMap_cons, hf]; exact List.mem_cons_self)
      obtain ⟨sl, e⟩ := I.base.slot L o ho (I.ok.frf L hL) hL fun z => I.ok.exfs L z hL
      exact ⟨hk, ⟨L, _, hf, hn, e, hd⟩, ih (fun b hb => hs b (by unfold frs; rw [List.filterMap_cons, hf]; exact List.mem_cons_of_mem _ hb)) hr⟩
  exact all X.outer (fun _ hb => hb) I.ok.funs
theorem Inv.stack (I : Inv X pins σ H s) : s.heap.FunFrames X.base X.stack := by
  rcases I.ok.stk with e | ⟨e, hf⟩
  · rw [e]; exact I.funs
  · rw [e]
    obtain ⟨m, hn, _⟩ := I.loc
    refine .cons (by rw [I.ok.kind]; decide) hf hn ?_ I.funs
    exact Heap.get?_none_of_le (Nat.le_trans I.ok.bsz I.ok.above)
theorem Inv.stkSub (I : Inv X pins σ H s) : ∀ b ∈ frs X.stack, b ∈ X.env.locals :: X.fs := fun b hb => by
  rcases I.ok.stk with e | ⟨e, hf⟩
  · rw [e] at hb; exact List.mem_cons_of_mem _ hb
  · rw [e] at hb
    unfold frs at hb
    rw [List.filterMap_cons, hf] at hb
    exact hb
theorem Inv.stkFree (I : Inv X pins σ H s) : ∀ b ∈ frs X.stack, H b = none := fun b hb => by
  rcases List.mem_cons.mp (I.stkSub b hb) with e | hb
  · rw [e]; exact I.free
  · obtain ⟨_, o, ho, _⟩ := I.ok.funs.mem hb
    exact I.base.free b o ho (I.ok.frf b hb) fun z => I.ok.exfs b z hb
theorem Inv.step {g' : Array GenState} {t' : Nat} {d' : Drawn} {ch : List Addr} (I : Inv X pins σ H s)
    (hch : ∀ b ∈ ch, (b ∈ X.ex ∨ X.s₀.heap.objs.size ≤ b) ∧ b ≠ X.env.locals ∧ (∀ x c, X.env.cells.lookup x = some c → c ≠ b) ∧ ∀ p ∈ X.pn ++ pins, p.1 ≠ b)
    (keep : ∀ b o, b ≠ X.env.locals → b ∉ X.fs → b ∉ ch → s.heap.get? b = some o → H b = none → h'.get? b = some o)
    (slot : ∀ b o, b ≠ X.env.locals → b ∈ X.fs → b ∉ ch → s.heap.get? b = some o → H b = none → ∃ sl, h'.get? b = some { o with slots := sl }) (free : ∀ b o, b ∉ ch → s.heap.get? b = some o → H b = none → H' b = none)
    (there : ∀ b o, b ∉ ch → s.heap.get? b = some o → ∃ o', h'.get? b = some o')
    (tups : ∀ b xs, H b = some (.tup xs) → H' b = some (.tup xs)) (frzs : ∀ b o u, H b = some (.frz o u) → H' b = some (.frz o u)) (tbls : ∀ b ps, H b = some (.tbl ps) → ∃ more, H' b = some (.tbl (ps ++ more)))
    (ns : ∀ m, s.heap.Ns X.env.locals m → h'.Ns X.env.locals m) (hok : HOk X.prog X.w H' h') (hg : AllBare g') :
    Inv X pins σ H' { s with heap := h', gens := g', drawn := d', toks := t' } := by
  have neL : ∀ b o, X.s₀.heap.get? b = some o → b ≠ X.env.locals := fun b o e => Nat.ne_of_lt (Nat.lt_of_lt_of_le (Heap.lt_size e) I.ok.above)
  have neC : ∀ b o, X.s₀.heap.get? b = some o → b ∉ X.ex → b ∉ ch := fun b o e hx hb => by
    rcases (hch b hb).1 with z | z
    · exact hx z
    · exact absurd (Nat.lt_of_lt_of_le (Heap.lt_size e) z) (Nat.lt_irrefl _)
  have cellK : ∀ x c, X.env.cells.lookup x = some c → ∀ v, s.heap.IsCell c v → h'.IsCell c v := fun x c e v ⟨o, ho, hd⟩ => by
    have nch : c ∉ ch := fun z => (hch c z).2.2.1 x c e rfl
    by_cases hc : c ∈ X.fs
    · obtain ⟨sl, q⟩ := slot c o (I.cne x c e) hc nch ho (I.freeC x c e)
      exact ⟨_, q, hd⟩
    · exact ⟨o, keep c o (I.cne x c e) hc nch ho (I.freeC x c e), hd⟩
  refine ⟨I.ok, I.os, hg, ⟨fun b o e n hb hx => ?_, fun b o e n hb hx => ?_, fun b o e n hx => ?_, fun b o e hx => ?_, fun b xs e => tups b xs (I.base.tups b xs e), fun b o xs e => frzs b o xs (I.base.frzs b o xs e), fun b ps e => ?_⟩, ?_, fun x c e => ?_, ?_, fun x c e => ?_, fun p hp => ?_, hok, I.len⟩
  · exact keep b o (neL b o e) hb (neC b o e hx) (I.base.keep b o e n hb hx) (I.base.free b o e n hx)
  · obtain ⟨sl, e1⟩ := I.base.slot b o e n hb hx
    obtain ⟨sl', e2⟩ := slot b _ (neL b o e) hb (neC b o e hx) e1 (I.base.free b o e n hx)
    exact ⟨sl', e2⟩
  · obtain ⟨o', e1⟩ := I.base.there b o e hx
    exact free b o' (neC b o e hx) e1 (I.base.free b o e n hx)
  · obtain ⟨o', e1⟩ := I.base.there b o e hx
    exact there b o' (neC b o e hx) e1
  · obtain ⟨m1, e1⟩ := I.base.tbls b ps e
    obtain ⟨m2, e2⟩ := tbls b _ e1
    exact ⟨m1 ++ m2, by rw [e2, Array.append_assoc]⟩
  · obtain ⟨m, hn, hl⟩ := I.loc
    refine ⟨m, ns m hn, fun i x v e1 e2 e3 => ?_⟩
    obtain ⟨u, r, l⟩ := hl i x v e1 e2 e3
    refine ⟨u, r, ?_⟩
    rcases l with l | ⟨k, c, e, z⟩
    · exact .inl l
    · exact .inr ⟨k, c, e, cellK x c e _ z⟩
  · obtain ⟨v, z⟩ := I.cell x c e
    exact ⟨v, cellK x c e v z⟩
  · obtain ⟨m, ⟨o, _, _, ho, _⟩, _⟩ := I.loc
    exact free _ o (fun z => (hch _ z).2.1 rfl) ho I.free
  · obtain ⟨v, o, ho, hd⟩ := I.cell x c e
    exact free c o (fun z => (hch c z).2.2.1 x c e rfl) ho (I.freeC x c e)
  · obtain ⟨e, n, ne, nf, d⟩ := I.pin p hp
    have nch : p.1 ∉ ch := fun z => (hch p.1 z).2.2.2 p hp rfl
    exact ⟨keep p.1 p.2 ne nf nch e n, free p.1 p.2 nch e n, ne, nf, d⟩
theorem Inv.un {t' : Nat} (I : Inv X pins σ H s) (u : Un X.fs [] H H' s.heap h') (hok : HOk X.prog X.w H' h') : Inv X pins σ H' { s with heap := h', toks := t' } := by
  obtain ⟨m, ⟨o, es, ep, ho, r⟩, _⟩ := id I.loc
  obtain ⟨sl, hL⟩ := u.any ho I.free (by simp)
  exact I.step (g' := s.gens) (d' := s.drawn) (ch := []) (fun _ z => nomatch z) (fun b o _ hb _ e n => u.keep b o e n hb (by simp)) (fun b o _ hb _ e n => u.slot b o e n hb (by simp)) (fun b o _ e n => u.free b o e n (by simp)) (fun b o _ e => u.there b o e (by simp)) u.tups u.frzs u.tbls (fun m' hm => by
    obtain ⟨o', es', ep', ho', r'⟩ := hm
    rw [ho] at ho'; cases ho'
    exact ⟨_, es', ep', hL, r'⟩) hok I.bare
theorem Inv.call {g' : Array GenState} {t' : Nat} {d' : Drawn} {ch : List Addr} (I : Inv X pins σ H s) (u : Un (frs X.stack) ch H H' s.heap h') (hok : HOk X.prog X.w H' h') (hg : AllBare g')
    (hch : ∀ b ∈ ch, (b ∈ X.ex ∨ X.s₀.heap.objs.size ≤ b) ∧ b ≠ X.env.locals ∧ (∀ x c, X.env.cells.lookup x = some c → c ≠ b) ∧ ∀ p ∈ X.pn ++ pins, p.1 ≠ b) :
    Inv X pins σ H' { s with heap := h', gens := g', drawn := d', toks := t' } := by
  obtain ⟨m, ⟨o, es, ep, ho, r⟩, _⟩ := id I.loc
  obtain ⟨sl, hL⟩ := u.any ho I.free fun z => (hch _ z).2.1 rfl
  exact I.step (ch := ch) hch (fun b o hL hb hc e n => u.keep b o e n (fun z => (List.mem_cons.mp (I.stkSub b z)).elim hL hb) hc) (fun b o _ _ hc e n => u.any e n hc) (fun b o hc e n => u.free b o e n hc) (fun b o hc e => u.there b o e hc) u.tups u.frzs u.tbls (fun m' hm => by
    obtain ⟨o', es', ep', ho', r'⟩ := hm
    rw [ho] at ho'; cases ho'
    exact ⟨_, es', ep', hL, r'⟩) hok hg
theorem Inv.turned {t' : Nat} {it : Addr} (I : Inv X pins σ H s) (k : ∀ b o, b ≠ it → s.heap.get? b = some o → h'.get? b = some o) (hn : H it = none) (hL : it ≠ X.env.locals)
    (h1 : it ∈ X.ex ∨ X.s₀.heap.objs.size ≤ it) (h2 : ∀ x c, X.env.cells.lookup x = some c → c ≠ it) (h3 : ∀ p ∈ X.pn ++ pins, p.1 ≠ it) : Inv X pins σ H { s with heap := h', toks := t' } := by
  have nit : ∀ b u, H b = some u → b ≠ it := fun b u e z => by rw [z, hn] at e; cases e
  refine I.step (g' := s.gens) (d' := s.drawn) (ch := [it]) (fun b hb => ?_) (fun b o _ _ hc e _ => k b o (fun z => hc (by simp [z])) e) (fun b o _ _ hc e _ => ⟨o.slots, k b o (fun z => hc (by simp [z])) e⟩) (fun _ _ _ _ n => n)
    (fun b o hc e => ⟨o, k b o (fun z => hc (by simp [z])) e⟩) (fun _ _ e => e) (fun _ _ _ e => e) (fun b ps e => ⟨#[], by rw [e]; simp⟩) (fun m hm => ?_) (fun b u e => ?_) I.bare
  · have e : b = it := by simpa using hb
    subst e
    exact ⟨h1, hL, h2, h3⟩
  · obtain ⟨o, es, ep, ho, r⟩ := hm
    exact ⟨o, es, ep, k _ o (Ne.symm hL) ho, r⟩
  · refine (I.hok b u e).stay (fun c v hc q => k c v ?_ q) (fun _ q => q) fun _ _ q => q
    rcases hc with z | z
    · rw [z]; exact nit b u e
    · exact nit c _ z
theorem Inv.tok (I : Inv X pins σ H s) (t : Nat) : Inv X pins σ H { s with toks := t } := I.un (h' := s.heap) (t' := t) Un.refl I.hok
theorem Inv.kept {t' : Nat} (I : Inv X pins σ H s) (k : ∀ b u, s.heap.get? b = some u → h'.get? b = some u) : Inv X pins σ H { s with heap := h', toks := t' } := I.un (Un.kept k) (I.hok.kept k)
theorem Inv.laid {a : Addr} {o : HO} {t' : Nat} (I : Inv X pins σ H s) (k : ∀ b u, s.heap.get? b = some u → h'.get? b = some u) (hp : s.heap.objs.size ≤ a) (new : ObjOk X.prog X.w (upd H a o) h' a o) :
    Inv X pins σ (upd H a o) { s with heap := h', toks := t' } := I.un (Un.laid k hp (I.hok.fresh hp)) (I.hok.laid k hp new)
theorem Inv.write {x e : Addr} {o : HO} {t' : Nat} (I : Inv X pins σ H s) (mu : Mut (H x)) (he : e = x ∨ H e = some (.own x)) (k : ∀ b u, b ≠ e → s.heap.get? b = some u → h'.get? b = some u) (heo : ∃ u, h'.get? e = some u)
    (new : ObjOk X.prog X.w (upd H x o) h' x o) : Inv X pins σ (upd H x o) { s with heap := h', toks := t' } := I.un (Un.write mu he k heo) (I.hok.write mu he k heo new)
theorem Inv.pins_of {pins' : List (Addr × Obj)} (I : Inv X pins σ H s) (h : ∀ p ∈ pins', s.heap.get? p.1 = some p.2 ∧ H p.1 = none ∧ p.1 ≠ X.env.locals ∧ p.1 ∉ X.fs ∧ ∀ v, p.2.data ≠ .cell v) : Inv X pins' σ H s :=
  ⟨I.ok, I.os, I.bare, I.base, I.loc, I.cell, I.free, I.freeC, fun p hp => (List.mem_append.mp hp).elim (fun z => I.pin p (List.mem_append_left _ z)) (h p), I.hok, I.len⟩
theorem nodup_ix {N : List Str} (hN : N.Nodup) {i j : Nat} {x : Str} (a : N[i]? = some x) (b : N[j]? = some x) : i = j := by
  obtain ⟨h1, e1⟩ := List.getElem?_eq_some_iff.mp a
  obtain ⟨h2, e2⟩ := List.getElem?_eq_some_iff.mp b
  exact (List.getElem_inj hN).mp (e1.trans e2.symm)
theorem store_ok2 {M : Model} {A : Around} {E : Value → Shared → Prop} {i : Nat} {x : Str} {v : V} {u : Value} {Q : Unit → Shared → Prop} (I : Inv X pins σ H s) (hN : X.N.Nodup) (hi : X.N[i]? = some x) (hx : Loc X.env.scope x) (r : RelV v u)
    (h : ∀ s', Inv X pins (σ.set i (some v)) H s' → (∃ a, Heap.SameBut a s.heap s'.heap ∧ (a = X.env.locals ∨ X.env.cells.lookup x = some a)) → Q () s') (hf : X.fn x = true ∨ X.env.scope.names.lookup x = some .local := by first | exact .inl rfl | exact .inr rfl | assumption) : wpAny M A (storeName X.env x u) Q E s := by
  obtain ⟨m, hn, hl⟩ := id I.loc
  have hcls : (X.env.scope.kind == .class || (X.env.scope.kind == .module && X.env.locals != X.env.globals)) = false := by rw [I.ok.kind]; rfl
  have hiσ : i < σ.length := by rw [I.len]; exact (List.getElem?_eq_some_iff.mp hi).1
  have cne := I.cne
  have tracked : ∀ {a : Addr} {h' : Heap}, (∃ o, s.heap.get? a = some o ∧ H a = none) → Heap.SameBut a s.heap h' → HOk X.prog X.w H h' := fun {a h'} ha hs b ob e => by
    obtain ⟨_, _, hfree⟩ := ha
    refine (I.hok b ob e).stay (fun c w' hc q => (hs.2 c ?_).trans q) (fun _ q => q) fun _ _ q => q
    rintro rfl
    rcases hc with rfl | hc
    · rw [hfree] at e; cases e
    · rw [hfree] at hc; cases hc
  rcases hx with hk | hk
  · refine wpAny_storeName_local hk hn (fun h' hn' hs => ?_) hcls
    obtain ⟨oL, _, _, hoL, _⟩ := id hn
    refine h _ ⟨I.ok, I.os, I.bare, ⟨fun b o e n hb hx => ?_, fun b o e n hb hx => ?_, I.base.free, fun b o e hx => ?_, I.base.tups, I.base.frzs, I.base.tbls⟩, ⟨_, hn', fun j y v' e1 e2 e3 => ?_⟩, fun y c e => ?_, I.free, I.freeC, fun p hp => ?_, tracked ⟨oL, hoL, I.free⟩ hs, by simpa using I.len⟩ ⟨_, hs, .inl rfl⟩
    · exact (hs.2 b (Nat.ne_of_lt (Nat.lt_of_lt_of_le (Heap.lt_size e) I.ok.above))).trans (I.base.keep b o e n hb hx)
    · obtain ⟨sl, e1⟩ := I.base.slot b o e n hb hx
      exact ⟨sl, (hs.2 b (Nat.ne_of_lt (Nat.lt_of_lt_of_le (Heap.lt_size e) I.ok.above))).trans e1⟩
    · obtain ⟨o', e1⟩ := I.base.there b o e hx
      exact ⟨o', (hs.2 b (Nat.ne_of_lt (Nat.lt_of_lt_of_le (Heap.lt_size e) I.ok.above))).trans e1⟩
    · by_cases hj : j = i
      · subst hj
        rw [hi] at e1; cases e1
        rw [List.getElem?_set_self hiσ] at e2
        cases e2
        exact ⟨u, r, .inl ⟨hk, by simp⟩⟩
      · rw [List.getElem?_set_ne (Ne.symm hj)] at e2
        obtain ⟨u', r', q⟩ := hl j y v' e1 e2 e3
        refine ⟨u', r', ?_⟩
        rcases q with ⟨k, e⟩ | ⟨k, c, e, z⟩
        · refine .inl ⟨k, ?_⟩
          have : y ≠ x := fun e => hj (nodup_ix hN e1 (e ▸ hi))
          simp [this, e]
        · exact .inr ⟨k, c, e, z.sameBut hs (cne y c e)⟩
    · obtain ⟨w', z⟩ := I.cell y c e
      exact ⟨w', z.sameBut hs (cne y c e)⟩
    · obtain ⟨e, n, ne, nf, d⟩ := I.pin p hp
      exact ⟨(hs.2 p.1 ne).trans e, n, ne, nf, d⟩
  · have hfn : X.fn x = true := by
      rcases hf with z | z
      · exact z
      · rw [z] at hk; cases hk
    obtain ⟨c, hc⟩ := I.ok.has x (.inl hk)
    obtain ⟨w', z⟩ := I.cell x c hc
    refine wpAny_storeName_cell I.ok.kind hk hc z (fun h' hc' hs => ?_)
    obtain ⟨oc, hoc, hocd⟩ := id z
    refine h { s with heap := h' } ⟨I.ok, I.os, I.bare, ⟨fun b o e n hb hx => ?_, fun b o e n hb hx => ?_, I.base.free, fun b o e hx => ?_, I.base.tups, I.base.frzs, I.base.tbls⟩, ⟨m, hn.sameBut hs (Ne.symm (cne x c hc)), fun j y v' e1 e2 e3 => ?_⟩, fun y c' e => ?_, I.free, I.freeC, fun p hp => ?_, tracked ⟨oc, hoc, I.freeC x c hc⟩ hs, by simpa using I.len⟩ ⟨c, hs, .inr hc⟩
    · exact (hs.2 b (Nat.ne_of_lt (Nat.lt_of_lt_of_le (Heap.lt_size e) (I.ok.cab x c hfn hc)))).trans (I.base.keep b o e n hb hx)
    · obtain ⟨sl, e1⟩ := I.base.slot b o e n hb hx
      exact ⟨sl, (hs.2 b (Nat.ne_of_lt (Nat.lt_of_lt_of_le (Heap.lt_size e) (I.ok.cab x c hfn hc)))).trans e1⟩
    · obtain ⟨o', e1⟩ := I.base.there b o e hx
      exact ⟨o', (hs.2 b (Nat.ne_of_lt (Nat.lt_of_lt_of_le (Heap.lt_size e) (I.ok.cab x c hfn hc)))).trans e1⟩
    · by_cases hj : j = i
      · subst hj
        rw [hi] at e1; cases e1
        rw [List.getElem?_set_self hiσ] at e2
        cases e2
        exact ⟨u, r, .inr ⟨.inl hk, c, hc, hc'⟩⟩
      · rw [List.getElem?_set_ne (Ne.symm hj)] at e2
        obtain ⟨u', r', q⟩ := hl j y v' e1 e2 e3
        refine ⟨u', r', ?_⟩
        rcases q with q | ⟨k, c', e, z'⟩
        · exact .inl q
        · refine .inr ⟨k, c', e, z'.sameBut hs ?_⟩
          rintro rfl
          exact hj (nodup_ix hN e1 (I.ok.inj _ _ _ e hc ▸ hi))
    · by_cases hcc : c' = c
      · subst hcc; exact ⟨_, hc'⟩
      · obtain ⟨w2, z2⟩ := I.cell y c' e
        exact ⟨w2, z2.sameBut hs hcc⟩
    · obtain ⟨e, n, ne, nf, d⟩ := I.pin p hp
      refine ⟨(hs.2 p.1 ?_).trans e, n, ne, nf, d⟩
      intro q
      rw [q, hoc] at e
      have q' : oc = p.2 := Option.some.inj e
      exact d w' (by rw [← q']; exact hocd)
theorem store_ok {M : Model} {A : Around} {E : Value → Shared → Prop} {i : Nat} {x : Str} {v : V} {u : Value} {Q : Unit → Shared → Prop} (I : Inv X pins σ H s) (hN : X.N.Nodup) (hi : X.N[i]? = some x) (hx : Loc X.env.scope x) (r : RelV v u)
    (h : ∀ s', Inv X pins (σ.set i (some v)) H s' → Q () s') (hf : X.fn x = true ∨ X.env.scope.names.lookup x = some .local := by first | exact .inl rfl | exact .inr rfl | assumption) : wpAny M A (storeName X.env x u) Q E s :=
  store_ok2 I hN hi hx r (fun s' I' _ => h s' I') hf
theorem Inv.call' {s' : Shared} {ch : List Addr} (I : Inv X pins σ H s) (ho : s'.os = s.os) (u : Un (frs X.stack) ch H H' s.heap s'.heap) (hok : HOk X.prog X.w H' s'.heap) (hg : AllBare s'.gens)
    (hch : ∀ b ∈ ch, (b ∈ X.ex ∨ X.s₀.heap.objs.size ≤ b) ∧ b ≠ X.env.locals ∧ (∀ x c, X.env.cells.lookup x = some c → c ≠ b) ∧ ∀ p ∈ X.pn ++ pins, p.1 ≠ b) : Inv X pins σ H' s' := by
  obtain ⟨h', g', d', t', o'⟩ := s'
  have e : o' = s.os := ho
  subst e
  exact I.call (g' := g') (t' := t') (d' := d') u hok hg hch
end
abbrev XK := Value → Option Addr → Hp → Prop
abbrev St := List (Option V)
abbrev VK := V → Hp → Prop
abbrev TE := St → Hp → VK → Prop
abbrev TT := St → Hp → (Bool → Hp → Prop) → Prop
abbrev TA := St → Hp → (List V → Hp → Prop) → Prop
structure Ends where
  nx : St → Hp → Prop
  rt : VK
  bk : St → Hp → Prop := fun _ _ => False
  ct : St → Hp → Prop := fun _ _ => False
abbrev TS := Ends → St → Hp → Prop
def EP (X : Cx) (pins : List (Addr × Obj)) (σ : St) (Q : VK) (u : Value) (s' : Shared) : Prop := ∃ v H', Inv X pins σ H' s' ∧ RelV v u ∧ Q v H'
def TP (X : Cx) (pins : List (Addr × Obj)) (σ : St) (Q : Bool → Hp → Prop) (b : Bool) (s' : Shared) : Prop := ∃ H', Inv X pins σ H' s' ∧ Q b H'
def AP (X : Cx) (pins : List (Addr × Obj)) (σ : St) (Q : List V → Hp → Prop) (us : List Value) (s' : Shared) : Prop := ∃ vs H', Inv X pins σ H' s' ∧ Vals vs us ∧ Q vs H'
def SP (X : Cx) (pins : List (Addr × Obj)) (D : Ends) (f : Flow) (s' : Shared) : Prop :=
  match f with
  | .next => ∃ σ' H', Inv X pins σ' H' s' ∧ D.nx σ' H'
  | .brk => ∃ σ' H', Inv X pins σ' H' s' ∧ D.bk σ' H'
  | .cont => ∃ σ' H', Inv X pins σ' H' s' ∧ D.ct σ' H'
  | .ret u => ∃ v σ' H', Inv X pins σ' H' s' ∧ RelV v u ∧ D.rt v H'
def PE (X : Cx) (e : Expr) (t : TE) : Prop :=
  ∀ (pins : List (Addr × Obj)) (s : Shared) (σ : St) (H : Hp) (Q : VK), Inv X pins σ H s → t σ H Q → wpAny (model X.prog X.w) X.A (eval e X.env) (EP X pins σ Q) X.xe s
def PT (X : Cx) (e : Expr) (t : TT) : Prop :=
  ∀ (pins : List (Addr × Obj)) (s : Shared) (σ : St) (H : Hp) (Q : Bool → Hp → Prop), Inv X pins σ H s → t σ H Q → wpAny (model X.prog X.w) X.A (isTrue e X.env (eval e X.env)) (TP X pins σ Q) X.xe s
def PW (X : Cx) (e : Expr) (t : TT) : Prop :=
  ∀ (whole : Sem Value) (pins : List (Addr × Obj)) (s : Shared) (σ : St) (H : Hp) (Q : Bool → Hp → Prop), Inv X pins σ H s → t σ H Q → wpAny (model X.prog X.w) X.A (isTrue e X.env whole) (TP X pins σ Q) X.xe s
theorem PW.pt {X : Cx} {e : Expr} {t : TT} (h : PW X e t) : PT X e t := h _
def PA (X : Cx) (es : List Expr) (t : TA) : Prop :=
  ∀ (pos : Pos) (pins : List (Addr × Obj)) (s : Shared) (σ : St) (H : Hp) (Q : List V → Hp → Prop), Inv X pins σ H s → t σ H Q → wpAny (model X.prog X.w) X.A (spliced (backTo pos (starEach es X.env))) (AP X pins σ Q) X.xe s
def PS (X : Cx) (st : Stmt) (t : TS) : Prop :=
  ∀ (pins : List (Addr × Obj)) (s : Shared) (σ : St) (H : Hp) (D : Ends), Inv X pins σ H s → t D σ H → wpAny (model X.prog X.w) X.A (exec st X.env) (SP X pins D) X.xe s
def PSs (X : Cx) (st : List Stmt) (t : TS) : Prop :=
  ∀ (pins : List (Addr × Obj)) (s : Shared) (σ : St) (H : Hp) (D : Ends), Inv X pins σ H s → t D σ H → wpAny (model X.prog X.w) X.A (execs st X.env) (SP X pins D) X.xe s
theorem thn {α : Type} {t : Sem α} {Q Q' : α → Shared → Prop} {M : Model} {A : Around} {E : Value → Shared → Prop} {s : Shared} (h : wpAny M A t Q E s) (hQ : ∀ a s, Q a s → Q' a s) : wpAny M A t Q' E s := wpAny_mono h hQ fun _ _ x => x
end L2
namespace L2
open PySem PySem.Spec PyProof.Rows
section
variable {X : Cx}
def tVar (i : Nat) : TE := fun σ H Q => ∃ v, σ[i]? = some (some v) ∧ Q v H
def tC (v : V) : TE := fun _ H Q => Q v H
theorem pe_var {i : Nat} {x : Str} {pos : Pos} (hN : X.N[i]? = some x) (hv : Vis X.env.scope x) (hd : (x == ("__debug__" : Str)) = false := by decide) (hcd : (x == ("__classdict__" : Str)) = false := by decide) : PE X (.Name x pos) (tVar i) := by
  intro pins s σ H Q I h
  obtain ⟨v, e, h⟩ := h
  obtain ⟨m, hn, hl⟩ := I.loc
  obtain ⟨u, r, l⟩ := hl i x v hN e hv
  have fin : EP X pins σ Q u s := ⟨v, H, I, r, h⟩
  rcases l with ⟨hk, hm⟩ | ⟨hk, c, hc, hcell⟩
  · exact wpAny_Name (wpAny_loadName_local I.ok.kind hk hn hm fin) hd
  · rcases hk with hk | hk
    · exact wpAny_Name (wpAny_loadName_cell I.ok.kind hk hc hcell fin) hd
    · exact wpAny_Name (wpAny_loadName_free I.ok.kind hk hc hcell fin hcd) hd
theorem pe_int {i j pos} : PE X (.Constant (.int i) j pos) (tC (.int i)) := fun _ _ _ H _ I h => wpAny_Constant_int ⟨.int i, H, I.tok _, ⟨_, rfl⟩, h⟩
theorem pe_bl {b j pos} : PE X (.Constant (.bool b) j pos) (tC (.bl b)) := fun _ _ _ H _ I h => Constant_bool ⟨.bl b, H, I, rfl, h⟩
theorem pe_str {x j pos} : PE X (.Constant (.str x) j pos) (tC (.str x)) := fun _ _ _ H _ I h => Calls.Constant_str ⟨.str x, H, I.tok _, ⟨_, rfl⟩, h⟩
def Gl (X : Cx) (x : Str) : Prop := X.env.kindOf x = some .globalImplicit
theorem ld_glob {E : Value → Shared → Prop} {pins : List (Addr × Obj)} {s : Shared} {σ : St} {H : Hp} {x : Str} {u : Value} {pos : Pos} {Q : Value → Shared → Prop} (I : Inv X pins σ H s) (hg : Gl X x) (hm : X.mg x = some u) (h : Q u s)
    (hd : (x == ("__debug__" : Str)) = false := by decide) : wpAny (model X.prog X.w) X.A (eval (.Name x pos) X.env) Q E s :=
  Calls.Name_function_global I.ok.kind hg (Calls.loadGlobal_global (by rw [I.ok.glob]; exact I.mod.glob.keeps I.bk) hm h) hd
theorem ld_blt {E : Value → Shared → Prop} {pins : List (Addr × Obj)} {s : Shared} {σ : St} {H : Hp} {x : Str} {u : Value} {pos : Pos} {Q : Value → Shared → Prop} (I : Inv X pins σ H s) (hg : Gl X x) (hm : X.mg x = none) (hv : bootBuiltins x = some u) (h : Q u s)
    (hn : x ≠ "__name__" := by decide) (hd : (x == ("__debug__" : Str)) = false := by decide) : wpAny (model X.prog X.w) X.A (eval (.Name x pos) X.env) Q E s := by
  obtain ⟨mb, h1, h2⟩ := I.mod.blt
  exact Calls.Name_function_global I.ok.kind hg (Calls.loadGlobal_builtin (by rw [I.ok.glob]; exact I.mod.glob.keeps I.bk) hm (by rw [I.ok.blt]; exact h1.keeps I.bk) ((h2 x hn).trans hv) h) hd
theorem pe_glob {x : Str} {v : V} {u : Value} {pos : Pos} (hg : Gl X x) (hm : X.mg x = some u) (r : RelV v u) (hd : (x == ("__debug__" : Str)) = false := by decide) : PE X (.Name x pos) (tC v) :=
  fun _ _ _ H _ I h => ld_glob I hg hm ⟨v, H, I, r, h⟩ hd
theorem pe_bltn {x : Str} {v : V} {u : Value} {pos : Pos} (hg : Gl X x) (hm : X.mg x = none) (hv : bootBuiltins x = some u) (r : RelV v u) (hn : x ≠ "__name__" := by decide) (hd : (x == ("__debug__" : Str)) = false := by decide) : PE X (.Name x pos) (tC v) :=
  fun _ _ _ H _ I h => ld_blt I hg hm hv ⟨v, H, I, r, h⟩ hn hd
variable {a b : Expr} {ta tb : TE} {pos : Pos}
def tB (t : TE) : TT := fun σ H Q => t σ H fun x H1 => ∃ c, x = .bl c ∧ Q c H1
theorem pt_val {e : Expr} {t : TE} (h : PE X e t) (he : ∀ whole, isTrue e X.env whole = (do let v ← whole; standAt e.pos; holding [v] (truthy v)) := by intro _; rfl) : PT X e (tB t) := by
  intro pins s σ H Q I hw
  refine isTrue_plain (thn (h pins s σ H _ I hw) fun v s1 ⟨x, H1, I1, r1, q1⟩ => ?_) (he _)
  obtain ⟨d, rfl, q⟩ := q1
  cases r1
  exact wpAny_truthy_bool ⟨H1, I1, q⟩
variable {tA tB' : TT} {rest : List Expr}
def tAnd (t u : TT) : TT := fun σ H Q => t σ H fun c H1 => if c = true then u σ H1 Q else Q false H1
def tOr (t u : TT) : TT := fun σ H Q => t σ H fun c H1 => if c = true then Q true H1 else u σ H1 Q
def tNot (t : TT) : TT := fun σ H Q => t σ H fun c H1 => Q (!c) H1
theorem pw_and1 (ha : PT X a tA) : PW X (.BoolOp .And [a] pos) tA := by
  intro wh pins s σ H Q I h
  refine isTrue_and (thn (ha pins s σ H Q I h) fun c s1 e => ?_)
  cases c with
  | true => exact isTrue_and_nil e
  | false => exact e
theorem pw_or1 (ha : PT X a tA) : PW X (.BoolOp .Or [a] pos) tA := by
  intro wh pins s σ H Q I h
  refine isTrue_or (thn (ha pins s σ H Q I h) fun c s1 e => ?_)
  cases c with
  | false => exact isTrue_or_nil e
  | true => exact e
theorem pw_and (ha : PT X a tA) (hb : PW X (.BoolOp .And (b :: rest) pos) tB') : PW X (.BoolOp .And (a :: b :: rest) pos) (tAnd tA tB') := by
  intro wh pins s σ H Q I h
  refine isTrue_and (thn (ha pins s σ H _ I h) fun c s1 ⟨H1, I1, q1⟩ => ?_)
  cases c with
  | true => exact hb wh pins s1 σ H1 Q I1 q1
  | false => exact ⟨H1, I1, q1⟩
theorem pw_or (ha : PT X a tA) (hb : PW X (.BoolOp .Or (b :: rest) pos) tB') : PW X (.BoolOp .Or (a :: b :: rest) pos) (tOr tA tB') := by
  intro wh pins s σ H Q I h
  refine isTrue_or (thn (ha pins s σ H _ I h) fun c s1 ⟨H1, I1, q1⟩ => ?_)
  cases c with
  | true => exact ⟨H1, I1, q1⟩
  | false => exact hb wh pins s1 σ H1 Q I1 q1
theorem pt_not (ha : PT X a tA) : PT X (.UnaryOp .Not a pos) (tNot tA) := by
  intro pins s σ H Q I h
  exact isTrue_not (ha pins s σ H (fun c H1 => Q (!c) H1) I h)
def tAndV (ta tb : TE) : TE := fun σ H Q => ta σ H fun x H1 => ∃ c, x = .bl c ∧ if c = true then tb σ H1 Q else Q (.bl false) H1
def tOrV (ta tb : TE) : TE := fun σ H Q => ta σ H fun x H1 => ∃ c, x = .bl c ∧ if c = true then Q (.bl true) H1 else tb σ H1 Q
def tNotV (ta : TE) : TE := fun σ H Q => ta σ H fun x H1 => ∃ c, x = .bl c ∧ Q (.bl (!c)) H1
theorem pe_one {op} {t : TE} (h : PE X a t) : PE X (.BoolOp op [a] pos) t := fun pins s σ H Q I hw => BoolOp_one (h pins s σ H Q I hw)
theorem pe_and (ha : PE X a ta) (hb : PE X (.BoolOp .And (b :: rest) pos) tb) : PE X (.BoolOp .And (a :: b :: rest) pos) (tAndV ta tb) := by
  intro pins s σ H Q I h
  refine BoolOp_and (thn (ha pins s σ H _ I h) fun v s1 ⟨x, H1, I1, r1, q1⟩ => ?_)
  obtain ⟨c, rfl, q1⟩ := q1
  cases r1
  refine wpAny_truthy_bool ?_
  cases c with
  | true => exact hb pins s1 σ H1 Q I1 q1
  | false => exact ⟨.bl false, H1, I1, rfl, q1⟩
theorem pe_or (ha : PE X a ta) (hb : PE X (.BoolOp .Or (b :: rest) pos) tb) : PE X (.BoolOp .Or (a :: b :: rest) pos) (tOrV ta tb) := by
  intro pins s σ H Q I h
  refine BoolOp_or (thn (ha pins s σ H _ I h) fun v s1 ⟨x, H1, I1, r1, q1⟩ => ?_)
  obtain ⟨c, rfl, q1⟩ := q1
  cases r1
  refine wpAny_truthy_bool ?_
  cases c with
  | false => exact hb pins s1 σ H1 Q I1 q1
  | true => exact ⟨.bl true, H1, I1, rfl, q1⟩
theorem pe_not (ha : PE X a ta) : PE X (.UnaryOp .Not a pos) (tNotV ta) := by
  intro pins s σ H Q I h
  refine UnaryOp_ (thn (ha pins s σ H _ I h) fun v s1 ⟨x, H1, I1, r1, q1⟩ => ?_)
  obtain ⟨c, rfl, q1⟩ := q1
  cases r1
  exact not_of (wpAny_truthy_bool ⟨.bl (!c), H1, I1, rfl, q1⟩)
end
end L2
namespace L2
open PySem PySem.Spec PyProof.Rows
def SqL (K : PySem.W.Frag) (H : Hp) (a : Addr) (xs : List V) : Prop :=
  Rd H a (.lst xs) ∨
    ∃ (o : Obj) (its : Array Value) (n : Nat), K.lookup a = some o ∧ o.cls = .type "list" ∧ o.dict = none ∧ o.data = .seq its n ∧ its.size ≤ sizeLine ∧ Vals xs its.toList
def SqT (K : PySem.W.Frag) (H : Hp) (a : Addr) (xs : List V) : Prop :=
  Rd H a (.tup xs) ∨
    ∃ (o : Obj) (its : Array Value) (n : Nat), K.lookup a = some o ∧ o.cls = .type "tuple" ∧ o.data = .seq its n ∧ its.size ≤ sizeLine ∧ Vals xs its.toList
section
variable {X : Cx} {pins : List (Addr × Obj)} {σ : St} {H : Hp} {s : Shared} {a : Addr} {xs ys : List V}
theorem SqL.of {K : PySem.W.Frag} (h : H a = some (.lst xs)) : SqL K H a xs := .inl (.inl h)
theorem SqT.of {K : PySem.W.Frag} (h : H a = some (.tup xs)) : SqT K H a xs := .inl (.inl h)
theorem Inv.list (I : Inv X pins σ H s) (h : SqL X.K H a xs) : ∃ its : List Value, Vals xs its ∧ PlainL s.heap a its.toArray ∧ xs.length ≤ sizeLine := by
  rcases h with h | ⟨o, its, n, hk, hc, hd, hs, hz, r⟩
  · obtain ⟨z, its, n, r, e⟩ := h.ok I.hok
    exact ⟨its, r, ⟨_, n, e, rfl, rfl, rfl⟩, z⟩
  · refine ⟨its.toList, r, ⟨o, n, I.kIn a o hk, hc, hd, by simpa using hs⟩, ?_⟩
    have e := r.length
    simp only [Array.length_toList] at e
    omega
theorem Inv.tuple (I : Inv X pins σ H s) (h : SqT X.K H a xs) : ∃ its : List Value, Vals xs its ∧ IsTup s.heap a its.toArray ∧ xs.length ≤ sizeLine := by
  rcases h with h | ⟨o, its, n, hk, hc, hs, hz, r⟩
  · obtain ⟨z, its, r, p⟩ := h.ok I.hok
    exact ⟨its, r, p, z⟩
  · refine ⟨its.toList, r, ⟨o, I.kIn a o hk, hc, n, by simpa using hs⟩, ?_⟩
    have e := r.length
    simp only [Array.length_toList] at e
    omega
end
abbrev Cx.wish (X : Cx) (E : Value → Shared → Prop) : Cx := { X with xe := E }
abbrev Cx.nox (X : Cx) : Cx := X.wish fun _ _ => False
theorem Cx.Ok.wish {X : Cx} (ok : X.Ok) (E : Value → Shared → Prop) : (X.wish E).Ok :=
  ⟨ok.mod, ok.kind, ok.glob, ok.blt, ok.above, ok.inj, ok.has, ok.cab, ok.hd, ok.frames, ok.stk, ok.exf, ok.bs, ok.bsz, ok.noex, ok.exfs, ok.funs, ok.frf⟩
theorem Cx.Ok.unwish {X : Cx} {E : Value → Shared → Prop} (ok : (X.wish E).Ok) : X.Ok :=
  ⟨ok.mod, ok.kind, ok.glob, ok.blt, ok.above, ok.inj, ok.has, ok.cab, ok.hd, ok.frames, ok.stk, ok.exf, ok.bs, ok.bsz, ok.noex, ok.exfs, ok.funs, ok.frf⟩
section
variable {X : Cx} {pins : List (Addr × Obj)} {σ : St} {H : Hp} {s : Shared} {E : Value → Shared → Prop}
theorem Inv.wish (I : Inv X pins σ H s) (E : Value → Shared → Prop) : Inv (X.wish E) pins σ H s := ⟨I.ok.wish E, I.os, I.bare, I.base, I.loc, I.cell, I.free, I.freeC, I.pin, I.hok, I.len⟩
theorem Inv.unwish (I : Inv (X.wish E) pins σ H s) : Inv X pins σ H s := ⟨I.ok.unwish, I.os, I.bare, I.base, I.loc, I.cell, I.free, I.freeC, I.pin, I.hok, I.len⟩
theorem SP.unwish {D : Ends} {f : Flow} {s' : Shared} (h : SP (X.wish E) pins D f s') : SP X pins D f s' := by
  cases f with
  | next => obtain ⟨σ', H', I, q⟩ := h; exact ⟨σ', H', I.unwish, q⟩
  | brk => obtain ⟨σ', H', I, q⟩ := h; exact ⟨σ', H', I.unwish, q⟩
  | cont => obtain ⟨σ', H', I, q⟩ := h; exact ⟨σ', H', I.unwish, q⟩
  | ret u => obtain ⟨v, σ', H', I, r, q⟩ := h; exact ⟨v, σ', H', I.unwish, r, q⟩
theorem PSs.nox {st : List Stmt} {t : TS} (h : PSs X.nox st t) : PSs X st t := fun pins s σ H D I hw =>
  wpAny_mono (h pins s σ H D (I.wish _) hw) (fun _ _ q => q.unwish) fun _ _ z => False.elim z
end
section
variable {X : Cx} {st : Stmt} {rest : List Stmt} {t u : TS} {e : Expr} {te : TE} {pos : Pos}
def tNext : TS := fun D σ H => D.nx σ H
def tSeq (t u : TS) : TS := fun D σ H => t { D with nx := u D } σ H
theorem pss_nil : PSs X [] tNext := fun _ _ σ H _ I h => wpAny_execs_nil ⟨σ, H, I, h⟩
theorem pss_cons (h1 : PS X st t) (h2 : PSs X rest u) : PSs X (st :: rest) (tSeq t u) := by
  intro pins s σ H D I h
  refine wpAny_execs_cons (thn (h1 pins s σ H { D with nx := u D } I h) fun f s1 q => ?_)
  cases f with
  | next =>
    obtain ⟨σ', H', I', q⟩ := q
    exact h2 pins s1 σ' H' D I' q
  | ret v => exact q
  | brk => exact q
  | cont => exact q
theorem pss_one (h1 : PS X st t) : PSs X [st] t := by
  intro pins s σ H D I h
  refine wpAny_execs_cons (thn (h1 pins s σ H D I h) fun f s1 q => ?_)
  cases f with
  | next => exact wpAny_execs_nil q
  | ret v => exact q
  | brk => exact q
  | cont => exact q
theorem Inv.quiet {pins : List (Addr × Obj)} {σ : St} {H : Hp} {s : Shared} (I : Inv X pins σ H s) : interactive X.env = false := by simp [interactive, I.ok.kind]
def tDrop (te : TE) : TS := fun D σ H => te σ H fun _ H1 => D.nx σ H1
theorem ps_expr (he : PE X e te) (hs : swapsWith e none pos.line X.env = pure false := by rfl) : PS X (.Expr e pos) (tDrop te) := by
  intro pins s σ H D I h
  exact wpAny_Expr_any (thn (he pins s σ H _ I h) fun v s1 ⟨x, H1, I1, r1, q1⟩ => ⟨σ, H1, I1, q1⟩) I.quiet hs
def tRet (te : TE) : TS := fun D σ H => te σ H D.rt
theorem ps_ret (he : PE X e te) : PS X (.Return (some e) pos) (tRet te) := by
  intro pins s σ H D I h
  exact wpAny_Return_some (thn (he pins s σ H _ I h) fun v s1 ⟨x, H1, I1, r1, q1⟩ => ⟨x, σ, H1, I1, r1, q1⟩)
def tIfS (c : TT) (t u : TS) : TS := fun D σ H => c σ H fun b H1 => if b = true then t D σ H1 else u D σ H1
theorem ps_if {c : Expr} {a b : List Stmt} {tc : TT} (hc : PT X c tc) (ha : PSs X a t) (hb : PSs X b u) : PS X (.If c a b pos) (tIfS tc t u) := by
  intro pins s σ H D I h
  refine wpAny_If (thn (hc pins s σ H _ I h) fun d s1 ⟨H1, I1, q1⟩ => ?_)
  cases d with
  | true => exact ha pins s1 σ H1 D I1 q1
  | false => exact hb pins s1 σ H1 D I1 q1
end
abbrev TG := V → St → Hp → (St → Hp → Prop) → Prop
def PG (X : Cx) (target : Expr) (t : TG) : Prop :=
  ∀ (pins : List (Addr × Obj)) (s : Shared) (σ : St) (H : Hp) (v : V) (u : Value) (Q : St → Hp → Prop), Inv X pins σ H s → RelV v u → t v σ H Q →
    wpAny (model X.prog X.w) X.A (assign target X.env u) (fun _ s' => ∃ σ' H', Inv X pins σ' H' s' ∧ Q σ' H') X.xe s
abbrev TSet := V → V → V → Hp → (Hp → Prop) → Prop
def PSet (X : Cx) (t : TSet) : Prop :=
  ∀ (pins : List (Addr × Obj)) (s : Shared) (σ : St) (H : Hp) (o i v : V) (ov iv u : Value) (Q : Hp → Prop), Inv X pins σ H s → RelV o ov → RelV i iv → RelV v u → t o i v H Q →
    wpAny (model X.prog X.w) X.A (setItem ov iv u) (fun _ s' => ∃ H', Inv X pins σ H' s' ∧ Q H') X.xe s
section
variable {X : Cx} {pos : Pos}
def gName (i : Nat) : TG := fun v σ H Q => Q (σ.set i (some v)) H
theorem pg_name {i : Nat} {x : Str} (hN : X.N.Nodup) (hi : X.N[i]? = some x) (hx : Loc X.env.scope x) (hf : X.fn x = true ∨ X.env.scope.names.lookup x = some .local := by first | exact .inl rfl | exact .inr rfl | assumption) : PG X (.Name x pos) (gName i) := by
  intro pins s σ H v u Q I r h
  exact wpAny_assign_Name (store_ok I hN hi hx r (fun s' I' => ⟨_, H, I', h⟩) hf)
def gSub (to ti : TE) (t : TSet) : TG := fun v σ H Q => to σ H fun o H1 => ti σ H1 fun i H2 => t o i v H2 fun H3 => Q σ H3
theorem pg_sub {o i : Expr} {to ti : TE} {t : TSet} (ho : PE X o to) (hi : PE X i ti) (hs : PSet X t)
    (ha : ∀ v, assign (.Subscript o i pos) X.env v = (do
      let ov ← holding [v] (eval o X.env)
      let iv ← holding [v, ov] (eval i X.env)
      standAt pos
      holding [v, ov, iv] (setItem ov iv v)
      release [v, ov, iv] []) := by intro _; rfl) : PG X (.Subscript o i pos) (gSub to ti t) := by
  intro pins s σ H v u Q I r h
  rw [ha]
  refine wpAny_bind (wpAny_holding (thn (ho pins s σ H _ I h) fun ov s1 ⟨x, H1, I1, r1, q1⟩ => ?_))
  refine wpAny_bind (wpAny_holding (thn (hi pins s1 σ H1 _ I1 q1) fun iv s2 ⟨y, H2, I2, r2, q2⟩ => ?_))
  refine wpAny_bind (wpAny_standAt (wpAny_bind (wpAny_holding (thn (hs pins s2 σ H2 x y v ov iv u _ I2 r1 r2 r q2) fun _ s3 ⟨H3, I3, q3⟩ => ?_))))
  exact wpAny_release ⟨σ, H3, I3, q3⟩
def tAsg (te : TE) (g : TG) : TS := fun D σ H => te σ H fun x H1 => g x σ H1 D.nx
theorem ps_asg {tg e : Expr} {te : TE} {g : TG} (he : PE X e te) (hg : PG X tg g) (hs : swapsWithSole [tg] e pos.line X.env = pure false := by rfl) (hw : swappedStores [tg] e X.env = pure none := by rfl)
    (h1 : (assignEach [tg] X.env).map (·.2) = [assign tg X.env] := by rfl) : PS X (.Assign [tg] e pos) (tAsg te g) := by
  intro pins s σ H D I h
  refine wpAny_Assign_stores (thn (he pins s σ H _ I h) fun v s1 ⟨x, H1, I1, r1, q1⟩ => ?_) hs hw
  rw [h1]
  exact thn (hg pins s1 σ H1 x v _ I1 r1 q1) fun _ s2 q => q
theorem ps_set {i : Nat} {x : Str} {e : Expr} {te : TE} {pos' : Pos} (hN : X.N.Nodup) (hi : X.N[i]? = some x) (hx : Loc X.env.scope x) (he : PE X e te) (hs : swapsWith e (some (.Name x pos')) pos.line X.env = pure false := by rfl) (hf : X.fn x = true ∨ X.env.scope.names.lookup x = some .local := by first | exact .inl rfl | exact .inr rfl | assumption) :
    PS X (.Assign [.Name x pos'] e pos) (tAsg te (gName i)) := by
  intro pins s σ H D I h
  refine wpAny_Assign_Name (thn (he pins s σ H _ I h) fun v s1 ⟨y, H1, I1, r1, q1⟩ => ?_) hs
  exact store_ok I1 hN hi hx r1 (fun s2 I2 => ⟨_, H1, I2, q1⟩) hf
end
section
variable {X : Cx} {pos : Pos}
end
structure It where
  go : Nat → Hp → Prop
  yld : Nat → Hp → V → Hp → Prop
  stop : Nat → Hp → Prop
def FpOk (X : Cx) (pins : List (Addr × Obj)) (H : Hp) (b : Addr) : Prop :=
  H b = none ∧ b ≠ X.env.locals ∧ b ∉ X.fs ∧ (b ∈ X.ex ∨ X.s₀.heap.objs.size ≤ b) ∧ (∀ x c, X.env.cells.lookup x = some c → c ≠ b) ∧ ∀ p ∈ X.pn ++ pins, p.1 ≠ b
theorem Inv.fpOk {X : Cx} {pins : List (Addr × Obj)} {σ : St} {H H' : Hp} {s : Shared} {b : Addr} (I : Inv X pins σ H s) (hb : s.heap.objs.size ≤ b) (hn : H' b = none) : FpOk X pins H' b := by
  refine ⟨hn, Nat.ne_of_gt (Nat.lt_of_lt_of_le I.lt hb), I.nofs hb, .inr (Nat.le_trans I.sz hb), fun x c e z => ?_, fun p hp z => ?_⟩
  · obtain ⟨v, q⟩ := I.cell x c e
    exact absurd (Nat.lt_of_lt_of_le q.lt (by rw [z]; exact hb)) (Nat.lt_irrefl _)
  · exact absurd (Nat.lt_of_lt_of_le (Heap.lt_size (I.pin p hp).1) (by rw [z]; exact hb)) (Nat.lt_irrefl _)
structure Turn (P : Program) (w : World) (K : PySem.W.Frag) (tg : Expr) (J : It) (fp : List Addr) (it : Addr) (tn : Nat → Heap → Prop) : Prop where
  mem : it ∈ fp
  obj : ∀ i h, tn i h → ∀ b ∈ fp, ∃ o, h.get? b = some o ∧ ∀ v, o.data ≠ .cell v
  keep : ∀ i h h', tn i h → (∀ b ∈ fp, ∀ o, h.get? b = some o → h'.get? b = some o) → tn i h'
  item : ∀ (X : Cx), X.prog = P → X.w = w → X.K = K → X.calm = true → ∀ (i : Nat) (pins : List (Addr × Obj)) (s : Shared) (σ : St) (H : Hp) (E : Value → Shared → Prop), Inv X pins σ H s → (∀ b ∈ fp, FpOk X pins H b) → tn i s.heap → J.go i H →
    wpAny (model P w) X.A (pyNext (.ref it)) (fun r s1 => ∃ u, r = some u ∧
      wpAny (model P w) X.A (letOwnedTupleGo tg (.ref it) u) (fun _ s2 => ∃ x H', Inv X pins σ H' s2 ∧ RelV x u ∧ J.yld i H x H' ∧ tn (i + 1) s2.heap ∧ ∀ b ∈ fp, H' b = none) E s1) E s
  done : ∀ (X : Cx), X.prog = P → X.w = w → X.K = K → X.calm = true → ∀ (i : Nat) (pins : List (Addr × Obj)) (s : Shared) (σ : St) (H : Hp) (E : Value → Shared → Prop), Inv X pins σ H s → (∀ b ∈ fp, FpOk X pins H b) → tn i s.heap → J.stop i H →
    wpAny (model P w) X.A (pyNext (.ref it)) (fun r s1 => r = none ∧ Inv X pins σ H s1) E s
  self : ∀ (A : Around) (i : Nat) (s : Shared) (Q : Value → Shared → Prop) (E : Value → Shared → Prop), tn i s.heap → Q (.ref it) s → wpAny (model P w) A (pyIter (.ref it)) Q E s
abbrev TI := St → Hp → (It → Hp → Prop) → Prop
def PIE (X : Cx) (pins : List (Addr × Obj)) (σ : St) (tg : Expr) (R : It → Hp → Prop) (itv : Value) (s2 : Shared) : Prop :=
  ∃ (it : Addr) (fp : List Addr) (tn : Nat → Heap → Prop) (J : It) (H' : Hp), itv = .ref it ∧ Inv X pins σ H' s2 ∧ Turn X.prog X.w X.K tg J fp it tn ∧ tn 0 s2.heap ∧ (∀ b ∈ fp, FpOk X pins H' b) ∧ R J H'
def PI (X : Cx) (tg iter : Expr) (wi : TI) : Prop :=
  ∀ (pins : List (Addr × Obj)) (s : Shared) (σ : St) (H : Hp) (R : It → Hp → Prop), Inv X pins σ H s → wi σ H R →
    wpAny (model X.prog X.w) X.A (eval iter X.env) (fun v s1 => wpAny (model X.prog X.w) X.A (pyIter v) (PIE X pins σ tg R) X.xe s1) X.xe s
theorem go_of {M : Model} {A : Around} {E : Value → Shared → Prop} {s : Shared} {tg : Expr} {it : Addr} {u : Value} {o : Obj} {n : String} {vs : Array Value} {Q : Unit → Shared → Prop} (ho : s.heap.get? it = some o) (hc : o.cls = .type n) (hd : o.data = .fields vs)
    (hn : ["enumerate", "zip", "dict_itemiterator", "dict_reverseitemiterator", "odict_iterator", "itertools.zip_longest", "itertools.pairwise"].contains n = false) (hQ : Q () s) : wpAny M A (letOwnedTupleGo tg (.ref it) u) Q E s := by
  unfold letOwnedTupleGo
  cases tg <;> first
    | exact wpAny_pure hQ
    | (cases u <;> first
        | exact wpAny_pure hQ
        | (refine wpAny_bind (wpAny_load ho ?_)
           rw [hc, hd]
           show wpAny M A (if (["enumerate", "zip", "dict_itemiterator", "dict_reverseitemiterator", "odict_iterator", "itertools.zip_longest", "itertools.pairwise"].contains n && vs[0]? == some (rawInt _)) = true then _ else _) Q E s
           rw [if_neg (by intro h; rw [hn, Bool.false_and] at h; cases h)]
           exact wpAny_pure hQ))
def Itr (lo : Int) (n : Nat) : It := ⟨fun i _ => i < n, fun i H x H' => H' = H ∧ x = .int (lo + i), fun i _ => n ≤ i⟩
theorem turn_range {P : Program} {w : World} {K : PySem.W.Frag} {tg : Expr} (it : Addr) (lo : Int) (n : Nat) : Turn P w K tg (Itr lo n) [it] it (fun i h => IsRangeIter h it (lo + (i : Nat) * 1) ((n : Int) - (i : Nat)) 1) where
  mem := by simp
  obj := fun i h st b hb => by
    have e : b = it := by simpa using hb
    subst e
    exact ⟨_, st, fun v z => by
      have z' : Data.fields _ = Data.cell v := z
      cases z'⟩
  keep := fun i h h' st k => k it (by simp) _ st
  item := by
    intro X hP hw hK hc i pins s σ H E I hf st hg
    subst hP hw hK
    obtain ⟨f0, f1, f2, f3, f4, f5⟩ := hf it (by simp)
    have W := Walks.range (prog := X.prog) (w := X.w) (I.ok.hd hc) it lo 1 n
    refine W.item i s _ _ hg st fun v h' tk hv st' kk => ?_
    obtain ⟨t, rfl⟩ := hv
    have I1 : Inv X pins σ H { s with heap := h', toks := tk } := I.turned (fun b o hb e => kk b o (by simpa using hb) e) f0 f1 f3 f4 f5
    refine ⟨_, rfl, go_of (s := { s with heap := h', toks := tk }) (n := "range_iterator") st' rfl rfl (by decide) ⟨.int (lo + i), H, I1, ⟨t, ?_⟩, ⟨rfl, rfl⟩, st', fun b hb => (hf b hb).1⟩⟩
    rw [Int.mul_one]
  done := by
    intro X hP hw hK hc i pins s σ H E I hf st hg
    subst hP hw hK
    obtain ⟨f0, f1, f2, f3, f4, f5⟩ := hf it (by simp)
    exact wpAny_pyNext_range_end (I.ok.hd hc) st (by have : n ≤ i := hg; omega) fun h' eb => ⟨rfl, I.turned (t' := s.toks) (fun b o hb e => eb b o hb e) f0 f1 f3 f4 f5⟩
  self := fun _ _ _ _ _ st h => wpAny_pyIter_rangeiter st h
end L2
namespace L2
open PySem PySem.Spec PyProof.Rows
section
variable {X : Cx} {tg : Expr}
theorem range_it {pins : List (Addr × Obj)} {σ : St} {H : Hp} {s : Shared} {R : It → Hp → Prop} {E : Value → Shared → Prop} {lo hi : Int} {t u v : Tok} {tk : Nat} (I : Inv X pins σ H s) (h1 : -(2 ^ 62) ≤ lo) (h2 : lo < 2 ^ 62) (h3 : -(2 ^ 62) ≤ hi) (h4 : hi < 2 ^ 62)
    (q : R (Itr lo (hi - lo).toNat) H) : wpAny (model X.prog X.w) X.A (pyIter (.ref s.heap.objs.size)) (PIE X pins σ tg R) E { s with heap := s.heap.push { cls := .type "range", data := .fields #[.int lo t, .int hi u, .int 1 v] }, toks := tk } := by
  refine wpAny_pyIter_range (IsRange.new ..) (small_one h1 h2 h3 h4) ?_
  have I1 : Inv X pins σ H { s with heap := s.heap.push { cls := .type "range", data := .fields #[.int lo t, .int hi u, .int 1 v] }, toks := tk } := I.kept fun b o e => Heap.get?_push_of_some _ e
  refine ⟨(s.heap.push { cls := .type "range", data := .fields #[.int lo t, .int hi u, .int 1 v] }).objs.size, [(s.heap.push { cls := .type "range", data := .fields #[.int lo t, .int hi u, .int 1 v] }).objs.size], _, _, H, rfl,
    I1.kept (t' := tk) fun b o e => Heap.get?_push_of_some _ e, turn_range _ lo (hi - lo).toNat, ?_, fun b hb => ?_, q⟩
  · have e1 : lo + ((0 : Nat) : Int) * 1 = lo := by simp
    have e2 : (((hi - lo).toNat : Nat) : Int) - ((0 : Nat) : Int) = Builtin.Range.rangeSize lo hi 1 := by rw [rangeSize_one]; split <;> omega
    show IsRangeIter _ _ (lo + ((0 : Nat) : Int) * 1) ((((hi - lo).toNat : Nat) : Int) - ((0 : Nat) : Int)) 1
    rw [e1, e2]
    exact Heap.get?_push_size _ rfl
  · have e : b = (s.heap.push { cls := .type "range", data := .fields #[.int lo t, .int hi u, .int 1 v] }).objs.size := by simpa using hb
    subst e
    exact I1.fpOk (Nat.le_refl _) (I1.hok.fresh (Nat.le_refl _))
def iRng1 (ta : TA) : TI := fun σ H R => ta σ H fun vs H1 => ∃ j : Int, vs = [.int j] ∧ -(2 ^ 62) ≤ j ∧ j < 2 ^ 62 ∧ R (Itr 0 j.toNat) H1
def iRng2 (ta : TA) : TI := fun σ H R => ta σ H fun vs H1 => ∃ i j : Int, vs = [.int i, .int j] ∧ (-(2 ^ 62) ≤ i ∧ i < 2 ^ 62 ∧ -(2 ^ 62) ≤ j ∧ j < 2 ^ 62) ∧ R (Itr i (j - i).toNat) H1
theorem pi_range1 {a : Expr} {ta : TA} {p pos : Pos} (hg : Gl X "range") (hm : X.mg "range" = none) (ha : PA X [a] ta) (hs : starEach [a] X.env = [(false, eval a X.env)] := by rfl) : PI X tg (.Call (.Name "range" p) [a] [] pos) (iRng1 ta) := by
  intro pins s σ H R I h
  refine Call_ (ld_blt I hg hm boot_range (PyProof.Rows.callWith_type1 (thn (ha pos pins s σ H _ I h) fun us s1 ⟨vs, H1, I1, r1, q1⟩ => ?_) hs rfl))
  obtain ⟨j, e, q1, q2, q⟩ := q1
  subst e
  cases r1 with
  | cons r rr =>
    cases rr
    obtain ⟨t, rfl⟩ := r
    exact call_range_1 (range_it I1 (by omega) (by omega) q1 q2 (by simpa using q))
theorem pi_range2 {a b : Expr} {ta : TA} {p pos : Pos} (hg : Gl X "range") (hm : X.mg "range" = none) (ha : PA X [a, b] ta) (hs : starEach [a, b] X.env = [(false, eval a X.env), (false, eval b X.env)] := by rfl) (hs2 : starEach [b] X.env = [(false, eval b X.env)] := by rfl) :
    PI X tg (.Call (.Name "range" p) [a, b] [] pos) (iRng2 ta) := by
  intro pins s σ H R I h
  refine Call_ (ld_blt I hg hm boot_range (PyProof.Rows.callWith_type1 (thn (ha pos pins s σ H _ I h) fun us s1 ⟨vs, H1, I1, r1, q1⟩ => ?_) (by rw [hs, hs2]) (by rw [hs2]; rfl)))
  obtain ⟨i, j, e, ⟨q1, q2, q3, q4⟩, q⟩ := q1
  subst e
  cases r1 with
  | cons r rr =>
    cases rr with
    | cons r' rr =>
      cases rr
      obtain ⟨t, rfl⟩ := r
      obtain ⟨t', rfl⟩ := r'
      exact call_range_2 (range_it I1 q1 q2 q3 q4 q)
def tFor (wi : TI) (g : TG) (tb : TS) : TS := fun D σ H => wi σ H fun J H1 => ∃ W : Nat → Nat → St → Hp → Prop, (∃ m, W 0 m σ H1) ∧ ∀ i m σ H, W i m σ H →
  (J.stop i H ∧ D.nx σ H) ∨ (J.go i H ∧ ∃ N : St → Hp → Prop, (∀ σ' H', N σ' H' → ∃ m', m' < m ∧ W (i + 1) m' σ' H') ∧ ∀ x H', J.yld i H x H' → g x σ H' fun σ2 H2 => tb { D with nx := N, ct := N, bk := D.nx } σ2 H2)
def pinsAt (fp : List Addr) (h : Heap) : List (Addr × Obj) := fp.filterMap fun b => (h.get? b).map fun o => (b, o)
theorem mem_pinsAt {fp : List Addr} {h : Heap} {b : Addr} {o : Obj} (hb : b ∈ fp) (e : h.get? b = some o) : (b, o) ∈ pinsAt fp h := List.mem_filterMap.mpr ⟨b, hb, by rw [e]; rfl⟩
theorem of_pinsAt {fp : List Addr} {h : Heap} {p : Addr × Obj} (hp : p ∈ pinsAt fp h) : p.1 ∈ fp ∧ h.get? p.1 = some p.2 := by
  obtain ⟨b, hb, e⟩ := List.mem_filterMap.mp hp
  cases q : h.get? b with
  | none => rw [q] at e; cases e
  | some o =>
    rw [q] at e
    have e' : (b, o) = p := Option.some.inj e
    subst e'
    exact ⟨hb, q⟩
theorem Inv.pinned {pins : List (Addr × Obj)} {σ : St} {H : Hp} {s : Shared} {fp : List Addr} (I : Inv X pins σ H s) (hf : ∀ b ∈ fp, FpOk X pins H b) (ho : ∀ b ∈ fp, ∃ o, s.heap.get? b = some o ∧ ∀ v, o.data ≠ .cell v) : Inv X (pins ++ pinsAt fp s.heap) σ H s :=
  I.pins_of fun p hp => (List.mem_append.mp hp).elim (fun z => I.pin p (List.mem_append_right _ z)) fun z => by
    obtain ⟨hb, e⟩ := of_pinsAt z
    obtain ⟨f0, f1, f2, _⟩ := hf p.1 hb
    obtain ⟨o, e', d⟩ := ho p.1 hb
    rw [e] at e'; cases e'
    exact ⟨e, f0, f1, f2, d⟩
theorem Inv.unpinned {pins pl : List (Addr × Obj)} {σ : St} {H : Hp} {s : Shared} (I : Inv X (pins ++ pl) σ H s) : Inv X pins σ H s := I.pins_of fun p hp => I.pin p (List.mem_append_right _ (List.mem_append_left _ hp))
theorem ps_for {iter : Expr} {body : List Stmt} {wi : TI} {g : TG} {tb : TS} {pos : Pos} (hp : PassesOwn (model X.prog X.w) X.A X.env X.xe) (hc : X.calm = true) (hi : PI X tg iter wi) (hg : PG X tg g) (hb : PSs X body tb)
    (hs : ∀ x, foldedSetIterable iter X.env x = pure x := by intro _; rfl) : PS X (.For tg iter body [] pos) (tFor wi g tb) := by
  intro pins s σ H D I h
  refine wpAny_For (thn (hi pins s σ H _ I h) fun v s1 h1 => thn h1 fun itv s2 h2 => ?_) hs
  obtain ⟨it, fp, tn, J, H2, e, I2, T, st2, f2, W, ⟨m0, w0⟩, turn⟩ := h2
  subst e
  have stat : ∀ {H' : Hp}, (∀ b ∈ fp, H' b = none) → ∀ b ∈ fp, FpOk X pins H' b := fun hn b hb => ⟨hn b hb, (f2 b hb).2⟩
  refine codeAny_forLoop_any (fun n s' => ∃ i σ' H', Inv X pins σ' H' s' ∧ tn i s'.heap ∧ (∀ b ∈ fp, H' b = none) ∧ W i n σ' H') ?_ m0 ⟨0, σ, H2, I2, st2, fun b hb => (f2 b hb).1, w0⟩
  rintro n s3 ⟨i, σ3, H3, I3, st3, fr3, w3⟩
  rcases turn i n σ3 H3 w3 with ⟨stop, qn⟩ | ⟨go, N, hN, step⟩
  · refine wpAny_passesOwn hp (thn (T.done X rfl rfl rfl hc i pins s3 σ3 H3 X.xe I3 (stat fr3) st3 stop) fun r s4 ⟨hr, I4⟩ => ?_)
    subst hr
    exact wpAny_execs_nil ⟨σ3, H3, I4, qn⟩
  · refine wpAny_passesOwn hp (thn (T.item X rfl rfl rfl hc i pins s3 σ3 H3 X.xe I3 (stat fr3) st3 go) fun r s4 ⟨u, hr, h4⟩ => ?_)
    subst hr
    refine wpAny_passesOwn hp (thn h4 fun _ s5 ⟨x, H5, I5, r5, y5, st5, fr5⟩ => ?_)
    have I5' := I5.pinned (stat fr5) (T.obj _ _ st5)
    refine wpAny_passesOwn hp (thn (hg _ s5 σ3 H5 x u _ I5' r5 (step x H5 y5)) fun _ s6 ⟨σ6, H6, I6, q6⟩ => ?_)
    refine wpAny_passesOwn hp (thn (hb _ s6 σ6 H6 _ I6 q6) fun f s7 q7 => ?_)
    have again : ∀ {σ7 : St} {H7 : Hp}, Inv X (pins ++ pinsAt fp s5.heap) σ7 H7 s7 → N σ7 H7 → ∃ m, m < n ∧ ∃ i σ' H', Inv X pins σ' H' s7 ∧ tn i s7.heap ∧ (∀ b ∈ fp, H' b = none) ∧ W i m σ' H' := fun {σ7 H7} I7 n7 => by
      obtain ⟨m', hm, w7⟩ := hN σ7 H7 n7
      refine ⟨m', hm, i + 1, σ7, H7, I7.unpinned, T.keep _ _ _ st5 fun b hb o e => (I7.pin (b, o) (List.mem_append_right _ (List.mem_append_right _ (mem_pinsAt hb e)))).1, fun b hb => ?_, w7⟩
      obtain ⟨o, e, d⟩ := T.obj _ _ st5 b hb
      exact (I7.pin (b, o) (List.mem_append_right _ (List.mem_append_right _ (mem_pinsAt hb e)))).2.1
    cases f with
    | next => obtain ⟨σ7, H7, I7, n7⟩ := q7; exact again I7 n7
    | cont => obtain ⟨σ7, H7, I7, n7⟩ := q7; exact again I7 n7
    | brk => obtain ⟨σ7, H7, I7, q7⟩ := q7; exact ⟨σ7, H7, I7.unpinned, q7⟩
    | ret v => obtain ⟨x7, σ7, H7, I7, r7, q7⟩ := q7; exact ⟨x7, σ7, H7, I7.unpinned, r7, q7⟩
end
theorem for_range {lo : Int} {n : Nat} {g : TG} {tb : TS} {D : Ends} {σ : St} {H : Hp} (Pv : Nat → St → Hp → Prop) (h0 : Pv 0 σ H)
    (hs : ∀ i σ H, i < n → Pv i σ H → g (.int (lo + i)) σ H fun σ2 H2 => tb { D with nx := Pv (i + 1), ct := Pv (i + 1), bk := D.nx } σ2 H2) (hd : ∀ σ H, Pv n σ H → D.nx σ H) :
    ∃ W : Nat → Nat → St → Hp → Prop, (∃ m, W 0 m σ H) ∧ ∀ i m σ H, W i m σ H →
      ((Itr lo n).stop i H ∧ D.nx σ H) ∨ ((Itr lo n).go i H ∧ ∃ N : St → Hp → Prop, (∀ σ' H', N σ' H' → ∃ m', m' < m ∧ W (i + 1) m' σ' H') ∧ ∀ x H', (Itr lo n).yld i H x H' → g x σ H' fun σ2 H2 => tb { D with nx := N, ct := N, bk := D.nx } σ2 H2) := by
  refine ⟨fun i m σ H => m = n - i ∧ i ≤ n ∧ Pv i σ H, ⟨n, by simp, Nat.zero_le _, h0⟩, ?_⟩
  rintro i m σ H ⟨rfl, hi, p⟩
  by_cases hlt : i < n
  · refine .inr ⟨hlt, Pv (i + 1), fun σ' H' p' => ⟨n - (i + 1), by omega, rfl, hlt, p'⟩, fun x H' y => ?_⟩
    obtain ⟨e, y⟩ := y
    subst e y
    exact hs i σ _ hlt p
  · have e : i = n := by omega
    subst e
    exact .inl ⟨Nat.le_refl _, hd σ H p⟩
end L2
namespace L2
open PySem PySem.Spec PyProof.Rows
abbrev R2 := V → V → Hp → VK → Prop
def OpR (X : Cx) (f : Value → Value → Sem Value) (r : R2) : Prop :=
  ∀ (pins : List (Addr × Obj)) (s : Shared) (σ : St) (H : Hp) (x y : V) (v u : Value) (Q : VK), Inv X pins σ H s → RelV x v → RelV y u → r x y H Q →
    wpAny (model X.prog X.w) X.A (f v u) (EP X pins σ Q) X.xe s
def UnR (X : Cx) (f : Value → Sem Value) (r : V → Hp → VK → Prop) : Prop :=
  ∀ (pins : List (Addr × Obj)) (s : Shared) (σ : St) (H : Hp) (x : V) (v : Value) (Q : VK), Inv X pins σ H s → RelV x v → r x H Q →
    wpAny (model X.prog X.w) X.A (f v) (EP X pins σ Q) X.xe s
def CallR (X : Cx) (f : Value) (r : List V → Hp → VK → Prop) : Prop :=
  ∀ (pins : List (Addr × Obj)) (s : Shared) (σ : St) (H : Hp) (xs : List V) (us : List Value) (Q : VK), Inv X pins σ H s → Vals xs us → r xs H Q →
    wpAny (model X.prog X.w) X.A (call f us) (EP X pins σ Q) X.xe s
def tOp (r : R2) (ta tb : TE) : TE := fun σ H Q => ta σ H fun x H1 => tb σ H1 fun y H2 => r x y H2 Q
def tUn (r : V → Hp → VK → Prop) (ta : TE) : TE := fun σ H Q => ta σ H fun x H1 => r x H1 Q
def rI (C : Int → Int → Prop) (g : Int → Int → V) : R2 := fun x y H Q => ∃ i j, x = .int i ∧ y = .int j ∧ C i j ∧ Q (g i j) H
def rI0 (g : Int → Int → V) : R2 := fun x y H Q => ∃ i j, x = .int i ∧ y = .int j ∧ Q (g i j) H
def rU (g : Int → V) : V → Hp → VK → Prop := fun x H Q => ∃ i, x = .int i ∧ Q (g i) H
section
variable {X : Cx} {a b c : Expr} {ta tb tc : TE} {pos : Pos}
theorem binT (ha : PE X a ta) (hb : PE X b tb) {pins : List (Addr × Obj)} {s : Shared} {σ : St} {H : Hp} {R : V → V → Hp → Prop} (I : Inv X pins σ H s)
    (h : ta σ H fun x H1 => tb σ H1 fun y H2 => R x y H2) {Q : Value → Shared → Prop} {f : Value → Value → Sem Value}
    (hf : ∀ v u s2 x y H2, Inv X pins σ H2 s2 → RelV x v → RelV y u → R x y H2 → wpAny (model X.prog X.w) X.A (f v u) Q X.xe s2) :
    wpAny (model X.prog X.w) X.A (eval a X.env) (fun v s₁ => wpAny (model X.prog X.w) X.A (eval b X.env) (fun u s₂ => wpAny (model X.prog X.w) X.A (f v u) Q X.xe s₂) X.xe s₁) X.xe s := by
  refine thn (ha pins s σ H _ I h) fun v s1 ⟨x, H1, I1, r1, q1⟩ => ?_
  refine thn (hb pins s1 σ H1 _ I1 q1) fun u s2 ⟨y, H2, I2, r2, q2⟩ => ?_
  exact hf v u s2 x y H2 I2 r1 r2 q2
theorem pe_op {op : Operator} {r : R2} (ho : OpR X (binaryOp op) r) (ha : PE X a ta) (hb : PE X b tb) : PE X (.BinOp a op b pos) (tOp r ta tb) := by
  intro pins s σ H Q I h
  exact wpAny_BinOp (binT ha hb I h fun v u s2 x y H2 I2 rx ry q => ho pins s2 σ H2 x y v u Q I2 rx ry q)
theorem pe_un {op : UnaryOp} {r : V → Hp → VK → Prop} (ho : UnR X (unaryOp op) r) (ha : PE X a ta) : PE X (.UnaryOp op a pos) (tUn r ta) := by
  intro pins s σ H Q I h
  exact UnaryOp_ (thn (ha pins s σ H _ I h) fun v s1 ⟨x, H1, I1, r1, q1⟩ => ho pins s1 σ H1 x v Q I1 r1 q1)
theorem opI {f : Value → Value → Sem Value} {C : Int → Int → Prop} {g : Int → Int → Int}
    (rule : ∀ (i j : Int) (t u : Tok) (s : Shared) (Q : Value → Shared → Prop) (E : Value → Shared → Prop), C i j → Q (.int (g i j) s.toks) { s with toks := s.toks + 1 } → wpAny (model X.prog X.w) X.A (f (.int i t) (.int j u)) Q E s) :
    OpR X f (rI C fun i j => .int (g i j)) := by
  intro pins s σ H x y v u Q I rx ry h
  obtain ⟨i, j, rfl, rfl, hc, q⟩ := h
  obtain ⟨t, rfl⟩ := rx
  obtain ⟨t', rfl⟩ := ry
  exact rule i j t t' s _ _ hc ⟨.int (g i j), H, I.tok _, ⟨_, rfl⟩, q⟩
theorem opI0 {f : Value → Value → Sem Value} {g : Int → Int → Int}
    (rule : ∀ (i j : Int) (t u : Tok) (s : Shared) (Q : Value → Shared → Prop) (E : Value → Shared → Prop), Q (.int (g i j) s.toks) { s with toks := s.toks + 1 } → wpAny (model X.prog X.w) X.A (f (.int i t) (.int j u)) Q E s) :
    OpR X f (rI0 fun i j => .int (g i j)) := by
  intro pins s σ H x y v u Q I rx ry h
  obtain ⟨i, j, rfl, rfl, q⟩ := h
  obtain ⟨t, rfl⟩ := rx
  obtain ⟨t', rfl⟩ := ry
  exact rule i j t t' s _ _ ⟨.int (g i j), H, I.tok _, ⟨_, rfl⟩, q⟩
theorem opB0 {f : Value → Value → Sem Value} {g : Int → Int → Bool}
    (rule : ∀ (i j : Int) (t u : Tok) (s : Shared) (Q : Value → Shared → Prop) (E : Value → Shared → Prop), Q (.bool (g i j)) s → wpAny (model X.prog X.w) X.A (f (.int i t) (.int j u)) Q E s) :
    OpR X f (rI0 fun i j => .bl (g i j)) := by
  intro pins s σ H x y v u Q I rx ry h
  obtain ⟨i, j, rfl, rfl, q⟩ := h
  obtain ⟨t, rfl⟩ := rx
  obtain ⟨t', rfl⟩ := ry
  exact rule i j t t' s _ _ ⟨.bl (g i j), H, I, rfl, q⟩
def CPow (i j : Int) : Prop := 0 ≤ j ∧ j ≤ 1000000 ∧ i.natAbs < 2 ^ 64
def CMul (i j : Int) : Prop := (-(2 ^ 64) < i ∧ i < 2 ^ 64) ∨ (-(2 ^ 64) < j ∧ j < 2 ^ 64)
theorem CMul.ok {i j : Int} (h : CMul i j) : IntMulOk i j := by
  rcases h with ⟨h1, h2⟩ | ⟨h1, h2⟩
  · exact .of_left (intBits_le_64 h1 h2)
  · exact .of_right (intBits_le_64 h1 h2)
theorem op_add : OpR X (binaryOp .Add) (rI0 fun i j => .int (i + j)) := opI0 fun _ _ _ _ _ _ _ q => add_int q
theorem op_sub : OpR X (binaryOp .Sub) (rI0 fun i j => .int (i - j)) := opI0 fun _ _ _ _ _ _ _ q => sub_int q
theorem op_mul : OpR X (binaryOp .Mult) (rI CMul fun i j => .int (i * j)) := opI fun _ _ _ _ _ _ _ hc q => mul_int q hc.ok
theorem op_mod : OpR X (binaryOp .Mod) (rI (fun _ j => 0 < j) fun i j => .int (i % j)) := opI fun i j _ _ _ _ _ hc q => by
  have h1 : (0 : Int) < j := hc
  exact mod_int' (by omega) (by rw [Int.fmod_eq_emod_of_nonneg i (by omega)]; exact q)
theorem op_pow : OpR X (binaryOp .Pow) (rI CPow fun i j => .int (i ^ j.toNat)) := opI fun _ _ _ _ _ _ _ hc q => pow_int_small hc.1 hc.2.1 hc.2.2 q
theorem unI {f : Value → Sem Value} {g : Int → Int}
    (rule : ∀ (i : Int) (t : Tok) (s : Shared) (Q : Value → Shared → Prop) (E : Value → Shared → Prop), Q (.int (g i) s.toks) { s with toks := s.toks + 1 } → wpAny (model X.prog X.w) X.A (f (.int i t)) Q E s) :
    UnR X f (rU fun i => .int (g i)) := by
  intro pins s σ H x v Q I rx h
  obtain ⟨i, rfl, q⟩ := h
  obtain ⟨t, rfl⟩ := rx
  exact rule i t s _ _ ⟨.int (g i), H, I.tok _, ⟨_, rfl⟩, q⟩
theorem un_neg : UnR X (unaryOp .USub) (rU fun i => .int (-i)) := unI fun _ _ _ _ _ q => neg_int q
end
def scal : V → V → Bool
  | .non, .non => true | .non, .int _ => true | .int _, .non => true | .non, .bl _ => true | .bl _, .non => true | .non, .str _ => true | .str _, .non => true
  | .int _, .int _ => true | .bl _, .bl _ => true | .str _, .str _ => true | .byt _, .byt _ => true
  | .int _, .str _ => true | .str _, .int _ => true | .bl _, .str _ => true | .str _, .bl _ => true
  | _, _ => false
def rEq : R2 := fun x y H Q => scal x y = true ∧ Q (.bl (decide (x = y))) H
def rNe : R2 := fun x y H Q => scal x y = true ∧ Q (.bl (!decide (x = y))) H
theorem dec_int {i j : Int} : decide (V.int i = V.int j) = (i == j) := by
  rw [Bool.eq_iff_iff]
  simp
theorem dec_bl {i j : Bool} : decide (V.bl i = V.bl j) = (i == j) := by
  rw [Bool.eq_iff_iff]
  simp
theorem dec_str {i j : Str} : decide (V.str i = V.str j) = (i == j) := by
  rw [Bool.eq_iff_iff]
  simp
theorem dec_byt {i j : Array UInt8} : decide (V.byt i = V.byt j) = (i.toList == j.toList) := by
  rw [Bool.eq_iff_iff]
  cases i
  cases j
  simp
section
variable {X : Cx} {a b c : Expr} {ta tb tc : TE} {pos : Pos}
theorem fin_bl {pins : List (Addr × Obj)} {σ : St} {H : Hp} {s : Shared} {Q : VK} {k k' : Bool} (I : Inv X pins σ H s) (q : Q (.bl k) H) (e : k = k') : EP X pins σ Q (.bool k') s := by
  subst e
  exact ⟨.bl k, H, I, rfl, q⟩
theorem op_eq : OpR X (compareOp .Eq) rEq := by
  intro pins s σ H x y v u Q I rx ry h
  obtain ⟨hs, q⟩ := h
  cases x with
  | non =>
    cases rx
    cases y with
    | non => cases ry; exact PySem.EqNone.eq_none_none (fin_bl I q (by simp))
    | bl j => cases ry; exact PySem.EqNone.eq_none_bool (fin_bl I q (by simp))
    | int j => obtain ⟨t', rfl⟩ := ry; exact PySem.EqNone.eq_none_int (fin_bl I q (by simp))
    | str j => obtain ⟨t', rfl⟩ := ry; exact PySem.EqNone.eq_none_str (fin_bl I q (by simp))
    | _ => exact absurd (show false = true from hs) Bool.false_ne_true
  | bl i =>
    cases rx
    cases y with
    | non => cases ry; exact PySem.EqNone.eq_bool_none (fin_bl I q (by simp))
    | bl j => cases ry; exact eq_bool (fin_bl I q dec_bl)
    | str j => obtain ⟨t', rfl⟩ := ry; exact PySem.EqMixed.eq_bool_str (fin_bl I q (by simp))
    | _ => exact absurd (show false = true from hs) Bool.false_ne_true
  | int i =>
    obtain ⟨t, rfl⟩ := rx
    cases y with
    | non => cases ry; exact PySem.EqNone.eq_int_none (fin_bl I q (by simp))
    | int j => obtain ⟨t', rfl⟩ := ry; exact eq_int (fin_bl I q dec_int)
    | str j => obtain ⟨t', rfl⟩ := ry; exact PySem.EqMixed.eq_int_str (fin_bl I q (by simp))
    | _ => exact absurd (show false = true from hs) Bool.false_ne_true
  | str i =>
    obtain ⟨t, rfl⟩ := rx
    cases y with
    | non => cases ry; exact PySem.EqNone.eq_str_none (fin_bl I q (by simp))
    | bl j => cases ry; exact PySem.EqMixed.eq_str_bool (fin_bl I q (by simp))
    | int j => obtain ⟨t', rfl⟩ := ry; exact PySem.EqMixed.eq_str_int (fin_bl I q (by simp))
    | str j => obtain ⟨t', rfl⟩ := ry; exact eq_str (fin_bl I q dec_str)
    | _ => exact absurd (show false = true from hs) Bool.false_ne_true
  | byt i =>
    obtain ⟨t, rfl⟩ := rx
    cases y with
    | byt j => obtain ⟨t', rfl⟩ := ry; exact PySem.W.eq_bytes (fin_bl I q dec_byt)
    | _ => exact absurd (show false = true from hs) Bool.false_ne_true
  | _ => cases y <;> exact absurd (show false = true from hs) Bool.false_ne_true
theorem op_ne : OpR X (compareOp .NotEq) rNe := by
  intro pins s σ H x y v u Q I rx ry h
  obtain ⟨hs, q⟩ := h
  cases x with
  | non =>
    cases rx
    cases y with
    | non => cases ry; exact PySem.EqNone.ne_none_none (fin_bl I q (by simp))
    | bl j => cases ry; exact PySem.EqNone.ne_none_bool (fin_bl I q (by simp))
    | int j => obtain ⟨t', rfl⟩ := ry; exact PySem.EqNone.ne_none_int (fin_bl I q (by simp))
    | str j => obtain ⟨t', rfl⟩ := ry; exact PySem.EqNone.ne_none_str (fin_bl I q (by simp))
    | _ => exact absurd (show false = true from hs) Bool.false_ne_true
  | bl i =>
    cases rx
    cases y with
    | non => cases ry; exact PySem.EqNone.ne_bool_none (fin_bl I q (by simp))
    | bl j => cases ry; exact ne_bool (fin_bl I q (congrArg not dec_bl))
    | str j => obtain ⟨t', rfl⟩ := ry; exact PySem.EqMixed.ne_bool_str (fin_bl I q (by simp))
    | _ => exact absurd (show false = true from hs) Bool.false_ne_true
  | int i =>
    obtain ⟨t, rfl⟩ := rx
    cases y with
    | non => cases ry; exact PySem.EqNone.ne_int_none (fin_bl I q (by simp))
    | int j => obtain ⟨t', rfl⟩ := ry; exact ne_int (fin_bl I q (congrArg not dec_int))
    | str j => obtain ⟨t', rfl⟩ := ry; exact PySem.EqMixed.ne_int_str (fin_bl I q (by simp))
    | _ => exact absurd (show false = true from hs) Bool.false_ne_true
  | str i =>
    obtain ⟨t, rfl⟩ := rx
    cases y with
    | non => cases ry; exact PySem.EqNone.ne_str_none (fin_bl I q (by simp))
    | bl j => cases ry; exact PySem.EqMixed.ne_str_bool (fin_bl I q (by simp))
    | int j => obtain ⟨t', rfl⟩ := ry; exact PySem.EqMixed.ne_str_int (fin_bl I q (by simp))
    | str j => obtain ⟨t', rfl⟩ := ry; exact ne_str (fin_bl I q (congrArg not dec_str))
    | _ => exact absurd (show false = true from hs) Bool.false_ne_true
  | byt i =>
    obtain ⟨t, rfl⟩ := rx
    cases y with
    | byt j => obtain ⟨t', rfl⟩ := ry; exact PySem.W.ne_bytes (fin_bl I q (congrArg not dec_byt))
    | _ => exact absurd (show false = true from hs) Bool.false_ne_true
  | _ => cases y <;> exact absurd (show false = true from hs) Bool.false_ne_true
theorem op_lt : OpR X (compareOp .Lt) (rI0 fun i j => .bl (decide (i < j))) := opB0 fun _ _ _ _ _ _ _ q => lt_int q
theorem op_le : OpR X (compareOp .LtE) (rI0 fun i j => .bl (decide (i ≤ j))) := opB0 fun _ _ _ _ _ _ _ q => le_int q
theorem op_gt : OpR X (compareOp .Gt) (rI0 fun i j => .bl (decide (j < i))) := opB0 fun _ _ _ _ _ _ _ q => gt_int q
theorem op_in_str : OpR X (compareOp .In) (fun x y H Q => ∃ i j, x = .str i ∧ y = .str j ∧ Q (.bl (!(Builtin.Str.occurrences j i 0 j.length 1).isEmpty)) H) := by
  intro pins s σ H x y v u Q I rx ry h
  obtain ⟨i, j, rfl, rfl, q⟩ := h
  obtain ⟨t, rfl⟩ := rx
  obtain ⟨t', rfl⟩ := ry
  exact in_str (fin_bl I q rfl)
theorem op_notin_str : OpR X (compareOp .NotIn) (fun x y H Q => ∃ i j, x = .str i ∧ y = .str j ∧ Q (.bl (!(!(Builtin.Str.occurrences j i 0 j.length 1).isEmpty))) H) := by
  intro pins s σ H x y v u Q I rx ry h
  obtain ⟨i, j, rfl, rfl, q⟩ := h
  obtain ⟨t, rfl⟩ := rx
  obtain ⟨t', rfl⟩ := ry
  exact notIn_str (fin_bl I q rfl)
theorem nomark (b : Expr) {op : CmpOp} (h : op ≠ .In := by decide) (h2 : op ≠ .NotIn := by decide) : behindInMarks op b = false := by
  have e1 : (op == CmpOp.In) = false := by cases op <;> first | rfl | exact absurd rfl h
  have e2 : (op == CmpOp.NotIn) = false := by cases op <;> first | rfl | exact absurd rfl h2
  cases b <;> simp [behindInMarks, e1, e2]
theorem pe_cmpR {op : CmpOp} {r : R2} (ho : OpR X (compareOp op) r) (ha : PE X a ta) (hb : PE X b tb) (hm : behindInMarks op b = false) : PE X (.Compare a [op] [b] pos) (tOp r ta tb) := by
  intro pins s σ H Q I h
  exact wpAny_Compare1 (binT ha hb I h fun v u s2 x y H2 I2 rx ry q => ho pins s2 σ H2 x y v u Q I2 rx ry q) hm
def tTest (t : TE) : TT := fun σ H Q => t σ H fun x H' => ∃ k, x = .bl k ∧ Q k H'
theorem pt_cmpR {op : CmpOp} {r : R2} (ho : OpR X (compareOp op) r) (ha : PE X a ta) (hb : PE X b tb) (hm : behindInMarks op b = false) : PT X (.Compare a [op] [b] pos) (tTest (tOp r ta tb)) := by
  intro pins s σ H Q I h
  refine wpAny_isTrue_Compare1 (thn (ha pins s σ H _ I h) fun v s1 ⟨x, H1, I1, r1, q1⟩ => thn (hb pins s1 σ H1 _ I1 q1) fun u s2 ⟨y, H2, I2, r2, q2⟩ =>
    thn (ho pins s2 σ H2 x y v u _ I2 r1 r2 q2) fun c s3 ⟨z, H3, I3, r3, k, e, q3⟩ => ?_) hm
  subst e
  cases r3
  exact wpAny_truthy_bool ⟨H3, I3, q3⟩
def tChain (r r' : R2) (ta tb tc : TE) : TE := fun σ H Q => ta σ H fun x H1 => tb σ H1 fun y H2 => r x y H2 fun z H3 => ∃ k, z = .bl k ∧
  (if k = true then tc σ H3 fun w' H4 => r' y w' H4 Q else Q (.bl false) H3)
theorem pt_chain {op op' : CmpOp} {r r' : R2} (ho : OpR X (compareOp op) r) (ho' : OpR X (compareOp op') r') (ha : PE X a ta) (hb : PE X b tb) (hc : PE X c tc)
    (hm : lastMarks [op, op'] [b, c] = false := by with_unfolding_all rfl) : PT X (.Compare a [op, op'] [b, c] pos) (tTest (tChain r r' ta tb tc)) := by
  intro pins s σ H Q I h
  refine isTrue_chain (thn (ha pins s σ H _ I h) fun v s1 ⟨x, H1, I1, r1, q1⟩ => test_link (thn (hb pins s1 σ H1 _ I1 q1) fun u s2 ⟨y, H2, I2, r2, q2⟩ =>
    thn (ho pins s2 σ H2 x y v u _ I2 r1 r2 q2) fun d s3 ⟨z, H3, I3, r3, k, e, q3⟩ => ?_)) hm
  subst e
  cases r3
  refine wpAny_truthy_bool ?_
  cases k with
  | false =>
    obtain ⟨k', e', q'⟩ := q3
    cases e'
    exact ite_ff ⟨H3, I3, q'⟩
  | true =>
    refine ite_tt (test_last (thn (hc pins s3 σ H3 _ I3 q3) fun w' s4 ⟨z', H4, I4, r4, q4⟩ => thn (ho' pins s4 σ H4 y z' u w' _ I4 r2 r4 q4) fun d' s5 ⟨z2, H5, I5, r5, k2, e2, q5⟩ => ?_))
    subst e2
    cases r5
    exact wpAny_truthy_bool ⟨H5, I5, q5⟩
theorem line63 : (sizeLine : Nat) < 2 ^ 63 := by rw [sizeLine_eq]; decide
theorem op_add_str : OpR X (binaryOp .Add) (fun x y H Q => ∃ i j, x = .str i ∧ y = .str j ∧ i.length + j.length ≤ sizeLine ∧ Q (.str (i ++ j)) H) := by
  intro pins s σ H x y v u Q I rx ry h
  obtain ⟨i, j, rfl, rfl, hz, q⟩ := h
  obtain ⟨t, rfl⟩ := rx
  obtain ⟨t', rfl⟩ := ry
  exact add_str (fun t' tk => ⟨.str (i ++ j), H, I.tok _, ⟨_, rfl⟩, q⟩) hz
theorem vals1 {x : V} {us : List Value} (r : Vals [x] us) : ∃ u, us = [u] ∧ RelV x u := by
  cases r with
  | cons r1 r2 => cases r2; exact ⟨_, rfl, r1⟩
theorem vals2 {x y : V} {us : List Value} (r : Vals [x, y] us) : ∃ u w', us = [u, w'] ∧ RelV x u ∧ RelV y w' := by
  cases r with
  | cons r1 r2 =>
    cases r2 with
    | cons r3 r4 => cases r4; exact ⟨_, _, rfl, r1, r3⟩
def LenV (K : PySem.W.Frag) (x : V) (H : Hp) (n : Nat) : Prop :=
  match x with
  | .str y => y.length ≤ sizeLine ∧ n = y.length
  | .byt y => y.size ≤ sizeLine ∧ n = y.size
  | .ref p => (∃ xs, SqL K H p xs ∧ n = xs.length) ∨ ∃ xs, SqT K H p xs ∧ n = xs.length
  | _ => False
theorem call_len : CallR X (.builtin "len") (fun xs H Q => ∃ x n, xs = [x] ∧ LenV X.K x H n ∧ Q (.int n) H) := by
  intro pins s σ H xs us Q I r h
  obtain ⟨x, n, rfl, e, q⟩ := h
  obtain ⟨u, rfl, rx⟩ := vals1 r
  have hl := line63
  have hs : sizeLine = 16777216 := sizeLine_eq
  cases x with
  | str y =>
    obtain ⟨t, rfl⟩ := rx
    obtain ⟨hy, e'⟩ : y.length ≤ sizeLine ∧ n = y.length := e
    subst e'
    exact len_str (by omega) ⟨.int _, H, I.tok _, ⟨_, rfl⟩, q⟩
  | byt y =>
    obtain ⟨t, rfl⟩ := rx
    obtain ⟨hy, e'⟩ : y.size ≤ sizeLine ∧ n = y.size := e
    subst e'
    exact PySem.W.len_bytes (by omega) ⟨.int _, H, I.tok _, ⟨_, rfl⟩, q⟩
  | ref p =>
    cases rx
    have e' : (∃ xs, SqL X.K H p xs ∧ n = xs.length) ∨ ∃ xs, SqT X.K H p xs ∧ n = xs.length := e
    rcases e' with ⟨xs, hx, e'⟩ | ⟨xs, hx, e'⟩
    · subst e'
      obtain ⟨its, r', pl, hz⟩ := I.list hx
      have hlen := r'.length
      exact Calls.call_len_list pl.isList (by simp only [List.size_toArray]; omega) ⟨.int xs.length, H, I.tok _, ⟨_, by simp only [List.size_toArray]; rw [hlen]⟩, q⟩
    · subst e'
      obtain ⟨its, r', pl, hz⟩ := I.tuple hx
      have hlen := r'.length
      exact len_tuple pl (by simp only [List.size_toArray]; omega) ⟨.int xs.length, H, I.tok _, ⟨_, by simp only [List.size_toArray]; rw [hlen]⟩, q⟩
  | _ => exact (show False from e).elim
end
end L2
namespace L2
open PySem PySem.Spec PyProof.Rows
structure ObjM (h : Heap) (x dx C : Addr) (mA : Str → Option Value) : Prop where
  obj : h.get? x = some (PySem.W.instObj C dx)
  ns : h.Ns1 dx mA
  ne : dx ≠ x
theorem lookIn_ns {h : Heap} {dx : Addr} {mA : Str → Option Value} (n : h.Ns1 dx mA) : ∃ od, h.get? dx = some od ∧ ∀ name, PySem.W.lookIn name od = some (mA name) := by
  obtain ⟨o, es, ep, ho, hd, hk, _, hm⟩ := n
  refine ⟨o, ho, fun name => ?_⟩
  have e := hm name
  unfold nsFind findBy at e
  rw [← Array.find?_toList] at e
  unfold PySem.W.lookIn
  rw [hd]
  dsimp only
  split
  · rename_i y q
    rw [q] at e
    exact congrArg some e
  · rename_i q
    rw [q] at e
    have a : es.toList.any (·.refKey) = false := by
      rw [List.any_eq_false]
      intro y hy
      obtain ⟨z, t, hkey⟩ := hk y (Array.mem_toList_iff.mp hy)
      simp [DictEntry.refKey, hkey]
    have a' : ¬ es.toList.any (·.refKey) = true := by rw [a]; exact Bool.false_ne_true
    rw [if_neg a']
    exact congrArg some e
theorem ObjM.look {h : Heap} {x dx C : Addr} {mA : Str → Option Value} (I : ObjM h x dx C mA) : ∃ od, PySem.W.InstAt h x (PySem.W.instObj C dx) C (some od) ∧ ∀ name, PySem.W.lookIn name od = some (mA name) :=
  let ⟨od, ho, hl⟩ := lookIn_ns I.ns
  ⟨od, ⟨I.obj, rfl, rfl, ho⟩, hl⟩
section
variable {prog : Program} {w : World} {A : Around} {E : Value → Shared → Prop} {s : Shared} {K : PySem.W.Frag} {x dx C f : Addr} {mA : Str → Option Value} {name : Str} {v : Value}
theorem get_map {expr : Bool} {Q : Value → Shared → Prop} (X : K.In s.heap) (I : ObjM s.heap x dx C mA) (hg : PySem.W.plainGet K C name = true) (hh : PySem.W.hasDictIn K C = true)
    (ha : PySem.W.findIn K (.ref C) name = some none) (hv : mA name = some v) (hv' : PySem.W.handedIn v = true) (h : Q v { s with toks := s.toks + 1 }) :
    wpAny (model prog w) A (getAttr (.ref x) name expr) Q E s := by
  obtain ⟨od, J, hl⟩ := I.look
  exact PySem.W.get_value X J (PySem.W.plainGet_of hg).1 (PySem.W.findObj_own hh ha rfl (by rw [hl, hv])) hv' h
theorem get_meth {pl : Sem Bool} {Q : Value × List Value → Shared → Prop} (X : K.In s.heap) (I : ObjM s.heap x dx C mA) (hg : PySem.W.plainGet K C name = true)
    (hf : PySem.W.findIn K (.ref C) name = some (some (.ref f))) (ht : PySem.W.isFn K (.ref f) = true) (hv : mA name = none) (h : Q (.ref f, [.ref x]) s) :
    wpAny (model prog w) A (getMethod (.ref x) name pl) Q E s := by
  obtain ⟨od, J, hl⟩ := I.look
  exact PySem.W.method_fn X J (PySem.W.plainGet_of hg).1 (PySem.W.plainGet_of hg).2 hf (beq_iff_eq.mp ht) (by show (PySem.W.lookIn name od).map (·.isSome) = some false; rw [hl, hv]; rfl) h
theorem set_map {ns : List Str} {Q : Unit → Shared → Prop} (X : K.In s.heap) (I : ObjM s.heap x dx C mA)
    (hs : PySem.W.findIn K (.ref C) "__setattr__" = some (some (.builtin "object.__setattr__"))) (hp : PySem.W.plainOver K C = true) (ht : PySem.W.takerIn K C name = some none) (hh : PySem.W.hasDictIn K C = true)
    (hw : PySem.Within mA ns) (hsz : ns.length ≤ sizeLine)
    (h : ∀ h', ObjM h' x dx C (fun y => if y = name then some v else mA y) → Heap.SameBut dx s.heap h' → Q () { s with heap := h', toks := s.toks + 2 }) :
    wpAny (model prog w) A (setAttr (.ref x) name v) Q E s := by
  obtain ⟨od, J, hl⟩ := I.look
  refine PySem.W.set_plain X J hs (PySem.W.osa_open (s := { s with toks := s.toks + 1 }) (r := none) X J hp ht fun b => ?_)
  obtain ⟨cd, hc, hd'⟩ := PySem.W.any_some hh
  have hx : s.heap.get? x = some ⟨.ref C, some dx, .plain, #[]⟩ := I.obj
  refine wpAny_bind (wpAny_pure (wpAny_bind (wpAny_bind (wpAny_loadPart hx (wpAny_bind (PySem.W.Looks.here (s := { s with toks := s.toks + 1 }) (PySem.W.looks_clsIn X hc) ?_))))))
  rw [hd']
  refine wpAny_pure (a := some dx) (wpAny_bind (wpAny_pure (wpAny_bind ?_)))
  refine wpAny_nsSet1 (s := { s with toks := s.toks + 1 }) I.ns fun h' hn2 hs2 => ?_
  obtain ⟨oD, esD, epD, hoD, hdD, hcD⟩ := hn2.count (PySem.Within.cons name v hw)
  refine wpAny_bind (wpAny_lookBehind hoD (by rw [hdD]; exact pastItsLine_dict (Nat.le_trans hcD (by rw [List.length_cons]; omega))) ?_)
  exact wpAny_pure (h _ ⟨(hs2.2 _ (Ne.symm I.ne)).trans I.obj, hn2, I.ne⟩ hs2)
theorem make_map {R : Result → Shared → Prop} {vs : List Value} {kw : List (Str × Value)} (X : K.In s.heap) (hm : PySem.W.makesIn K C = true)
    (hi : PySem.W.findIn K (.ref C) "__init__" = some (some (.ref f))) (hf : PySem.W.typeIn K (.ref f) = some (.type "function"))
    (h : codeAny (model prog w) (A.under (.builtin "type.__call__" ⟨.ref C :: vs, kw⟩)) (.call (.ref f) ⟨.ref (s.heap.objs.size + 1) :: vs, kw⟩) (PySem.W.InitBack (s.heap.objs.size + 1) R)
      { s with heap := (s.heap.push PySem.W.emptyDict).push (PySem.W.instObj C s.heap.objs.size) }) :
    codeAny (model prog w) A (.call (.ref C) ⟨vs, kw⟩) R s := by
  obtain ⟨hh, g, d, t, os⟩ := s
  exact PySem.W.make_core (PySem.W.makes_of X hm) (PySem.W.looks_findIn X hi) (fun self => PySem.W.bind_fn X self hf) (.inl rfl) h
end
def putF (f : Str) (v : V) : List (Str × V) → List (Str × V)
  | [] => [(f, v)]
  | (g, x) :: r => if g = f then (g, v) :: r else (g, x) :: putF f v r
theorem lookup_putF (f g : Str) (v : V) : ∀ fs : List (Str × V), (putF f v fs).lookup g = if g = f then some v else fs.lookup g
  | [] => by
    show List.lookup g [(f, v)] = _
    by_cases h : g = f
    · have hb : (g == f) = true := beq_iff_eq.mpr h
      simp only [List.lookup, hb, if_pos h]
    · have hb : (g == f) = false := beq_eq_false_iff_ne.mpr h
      simp only [List.lookup, hb, if_neg h]
  | (k, x) :: r => by
    have ih := lookup_putF f g v r
    rw [show putF f v ((k, x) :: r) = (if k = f then (k, v) :: r else (k, x) :: putF f v r) from rfl]
    by_cases hk : k = f
    · rw [if_pos hk]
      by_cases h : g = k
      · have hb : (g == k) = true := beq_iff_eq.mpr h
        simp only [List.lookup, hb, if_pos (h.trans hk)]
      · have hb : (g == k) = false := beq_eq_false_iff_ne.mpr h
        simp only [List.lookup, hb, if_neg (fun e : g = f => h (e.trans hk.symm))]
    · rw [if_neg hk]
      by_cases h : g = k
      · have hb : (g == k) = true := beq_iff_eq.mpr h
        simp only [List.lookup, hb, if_neg (fun e : g = f => hk (h.symm.trans e))]
      · have hb : (g == k) = false := beq_eq_false_iff_ne.mpr h
        simp only [List.lookup, hb]
        exact ih
theorem keys_putF (f : Str) (v : V) : ∀ fs : List (Str × V), f ∈ (putF f v fs).map (·.1) ∧ ∀ g, g ∈ fs.map (·.1) → g ∈ (putF f v fs).map (·.1)
  | [] => ⟨by simp [putF], fun g h => by simp at h⟩
  | (k, x) :: r => by
    obtain ⟨i1, i2⟩ := keys_putF f v r
    rw [show putF f v ((k, x) :: r) = (if k = f then (k, v) :: r else (k, x) :: putF f v r) from rfl]
    by_cases hk : k = f
    · rw [if_pos hk]
      subst hk
      exact ⟨by simp, fun g h => by simpa using h⟩
    · rw [if_neg hk]
      refine ⟨?_, fun g h => ?_⟩
      · rw [List.map_cons]
        exact List.mem_cons_of_mem _ i1
      · rw [List.map_cons] at h ⊢
        rcases List.mem_cons.mp h with e | e
        · exact List.mem_cons.mpr (.inl e)
        · exact List.mem_cons_of_mem _ (i2 g e)
theorem length_putF (f : Str) (v : V) : ∀ fs : List (Str × V), (putF f v fs).length ≤ fs.length + 1
  | [] => by simp [putF]
  | (k, x) :: r => by
    have ih := length_putF f v r
    rw [show putF f v ((k, x) :: r) = (if k = f then (k, v) :: r else (k, x) :: putF f v r) from rfl]
    by_cases hk : k = f
    · rw [if_pos hk, List.length_cons, List.length_cons]; omega
    · rw [if_neg hk, List.length_cons, List.length_cons]; omega
theorem RelO.some_of {v : V} {o : Option Value} (r : RelO (some v) o) : ∃ u, o = some u ∧ RelV v u := by
  cases o with
  | none => exact (show False from r).elim
  | some u => exact ⟨u, rfl, r⟩
theorem RelO.none_of {o : Option Value} (r : RelO none o) : o = none := by
  cases o with
  | none => rfl
  | some u => exact (show False from r).elim
theorem handed_of {v : V} {u : Value} (r : RelV v u) : PySem.W.handedIn u = true := by
  cases v with
  | non => cases (show u = Value.none from r); rfl
  | bl b => cases (show u = Value.bool b from r); rfl
  | int i => obtain ⟨t, e⟩ := (show ∃ t, u = Value.int i t from r); cases e; rfl
  | str x => obtain ⟨t, e⟩ := (show ∃ t, u = Value.str x t from r); cases e; rfl
  | byt b => obtain ⟨t, e⟩ := (show ∃ t, u = Value.bytes b t from r); cases e; rfl
  | flt b => obtain ⟨t, e⟩ := (show ∃ t, u = Value.float b t from r); cases e; rfl
  | ref a => cases (show u = Value.ref a from r); rfl
  | ty n => cases (show u = Value.type n from r); rfl
section
variable {P : Program} {w : World} {H H' : Hp} {h h' : Heap} {a C dx : Addr} {fs fs' : List (Str × V)}
theorem ins_get (hok : HOk P w H h) (e : H a = some (.ins C dx fs)) : ∃ mA, ObjM h a dx C mA ∧ (∀ f, RelO (fs.lookup f) (mA f)) ∧ PySem.Within mA (fs.map (·.1)) ∧ fs.length ≤ 1000 ∧ H dx = some (.own a) := by
  obtain ⟨d, z, ne, ob, mA, n, r, q⟩ := (show ObjOk P w H h a (.ins C dx fs) from hok a _ e)
  exact ⟨mA, ⟨ob, n, ne⟩, r, q, z, d⟩
end
structure Cls (K : PySem.W.Frag) (C : Addr) : Prop where
  pg : PySem.W.plainGet K C Str.empty = true
  hd : PySem.W.hasDictIn K C = true
  po : PySem.W.plainOver K C = true
  sa : PySem.W.findIn K (.ref C) "__setattr__" = some (some (.builtin "object.__setattr__"))
theorem Cls.get {K : PySem.W.Frag} {C : Addr} (c : Cls K C) (f : Str) : PySem.W.plainGet K C f = true := c.pg
def NoAttr (K : PySem.W.Frag) (C : Addr) (f : Str) : Prop := PySem.W.findIn K (.ref C) f = some none
theorem NoAttr.taker {K : PySem.W.Frag} {C : Addr} {f : Str} (n : NoAttr K C f) : PySem.W.takerIn K C f = some none := by
  unfold PySem.W.takerIn
  rw [show PySem.W.findIn K (.ref C) f = some none from n]
  rfl
structure Meth (K : PySem.W.Frag) (C : Addr) (m : Str) (f : Addr) : Prop where
  at_ : PySem.W.findIn K (.ref C) m = some (some (.ref f))
  fn : PySem.W.isFn K (.ref f) = true
  kp : PySem.W.keepIn K (.ref f) = true
section
variable {X : Cx} {pins : List (Addr × Obj)} {σ : St} {H : Hp} {s : Shared} {a C dx : Addr} {fs : List (Str × V)} {f : Str} {v : V} {A : Around} {E : Value → Shared → Prop}
theorem getattr_ok {b : Bool} {Q : Value → Shared → Prop} (I : Inv X pins σ H s) (e : H a = some (.ins C dx fs)) (c : Cls X.K C) (n : NoAttr X.K C f) (l : fs.lookup f = some v)
    (h : ∀ u s', Inv X pins σ H s' → RelV v u → Q u s') : wpAny (model X.prog X.w) A (getAttr (.ref a) f b) Q E s := by
  obtain ⟨mA, O, r, _, _, _⟩ := ins_get I.hok e
  obtain ⟨u, hu, ru⟩ := RelO.some_of (v := v) (o := mA f) (by rw [← l]; exact r f)
  exact get_map I.kIn O (c.get f) c.hd n hu (handed_of ru) (h u _ (I.tok _) ru)
theorem getmeth_ok {m : Str} {g : Addr} {pl : Sem Bool} {Q : Value × List Value → Shared → Prop} (I : Inv X pins σ H s) (e : H a = some (.ins C dx fs)) (c : Cls X.K C) (k : Meth X.K C m g) (l : fs.lookup m = none)
    (h : Q (.ref g, [.ref a]) s) : wpAny (model X.prog X.w) A (getMethod (.ref a) m pl) Q E s := by
  obtain ⟨mA, O, r, _, _, _⟩ := ins_get I.hok e
  have hn : mA m = none := RelO.none_of (by rw [← l]; exact r m)
  exact get_meth I.kIn O (c.get m) k.at_ k.fn hn h
theorem setattr_ok {y : V} {u : Value} {Q : Unit → Shared → Prop} (I : Inv X pins σ H s) (e : H a = some (.ins C dx fs)) (c : Cls X.K C) (n : NoAttr X.K C f) (hl : fs.length < 1000) (ry : RelV y u)
    (h : ∀ s', Inv X pins σ (upd H a (.ins C dx (putF f y fs))) s' → Q () s') : wpAny (model X.prog X.w) A (setAttr (.ref a) f u) Q E s := by
  obtain ⟨mA, O, r, wi, _, ho⟩ := ins_get I.hok e
  have hz : (fs.map (·.1)).length ≤ sizeLine := by rw [List.length_map, sizeLine_eq]; omega
  refine set_map I.kIn O c.sa c.po n.taker c.hd wi hz fun h' O' sb => h _ ?_
  have hd : ∃ o, h'.get? dx = some o := let ⟨o, _, _, e', _⟩ := O'.ns; ⟨o, e'⟩
  refine I.write (x := a) (e := dx) (by rw [e]; exact True.intro) (.inr ho) (fun b q hb z => (sb.2 b hb).trans z) hd ?_
  refine ⟨by rw [upd_ne O.ne]; exact ho, ?_, O.ne, O'.obj, _, O'.ns, fun g => ?_, fun g hg => ?_⟩
  · have := length_putF f y fs; omega
  · show RelO ((putF f y fs).lookup g) (if g = f then some u else mA g)
    rw [lookup_putF]
    by_cases q : g = f
    · rw [if_pos q, if_pos q]; exact ry
    · rw [if_neg q, if_neg q]; exact r g
  · by_cases q : g = f
    · rw [q]; exact (keys_putF f y fs).1
    · refine (keys_putF f y fs).2 g (wi g fun z => hg ?_)
      show (if g = f then some u else mA g) = none
      rw [if_neg q]; exact z
theorem Inv.made (I : Inv X pins σ H s) : Inv X pins σ (upd (upd H s.heap.objs.size (.own (s.heap.objs.size + 1))) (s.heap.objs.size + 1) (.ins C s.heap.objs.size []))
    { s with heap := (s.heap.push PySem.W.emptyDict).push (PySem.W.instObj C s.heap.objs.size) } := by
  have e1 : (s.heap.push PySem.W.emptyDict).get? s.heap.objs.size = some PySem.W.emptyDict := Heap.get?_push_size s.heap rfl
  have e2 : ((s.heap.push PySem.W.emptyDict).push (PySem.W.instObj C s.heap.objs.size)).get? (s.heap.objs.size + 1) = some (PySem.W.instObj C s.heap.objs.size) := by
    have := Heap.get?_push_size (s.heap.push PySem.W.emptyDict) (o := PySem.W.instObj C s.heap.objs.size) rfl
    rwa [Heap.size_push] at this
  have e3 : (s.heap.push PySem.W.emptyDict).Ns s.heap.objs.size (fun _ => none) := ⟨PySem.W.emptyDict, #[], _, e1, rfl, (fun e he => absurd he (by simp)), fun _ => rfl⟩
  have I1 := I.laid (a := s.heap.objs.size) (o := .own (s.heap.objs.size + 1)) (h' := s.heap.push PySem.W.emptyDict) (t' := s.toks) (fun b u q => Heap.get?_push_of_some _ q) (Nat.le_refl _) ⟨_, e1⟩
  refine I1.laid (a := s.heap.objs.size + 1) (o := .ins C s.heap.objs.size []) (t' := s.toks) (fun b u q => Heap.get?_push_of_some _ q) (Nat.le_of_eq (Heap.size_push _ _)) ?_
  have ne : s.heap.objs.size ≠ s.heap.objs.size + 1 := Nat.ne_of_lt (Nat.lt_succ_self _)
  refine ⟨by rw [upd_ne ne, upd_same], Nat.zero_le _, ne, e2, fun _ => none, (Heap.Ns1.of_empty e3).at fun o q => Heap.get?_push_of_some _ q, fun _ => True.intro, fun y hy => absurd rfl hy⟩
theorem attr_of {prog : Program} {w : World} {env : Env} {e : Expr} {f : Str} {pos : Pos} {s : Shared} {Q : Value → Shared → Prop} (hb : attributeBase e f env (eval e env) = eval e env)
    (h : wpAny (model prog w) A (eval e env) (fun o s₁ => wpAny (model prog w) A (getAttr o f true) Q E s₁) E s) : wpAny (model prog w) A (eval (.Attribute e f pos) env) Q E s :=
  Attribute_any_ h (by rw [arm_eval_Attribute, hb])
end
def tFld (K : PySem.W.Frag) (ta : TE) (f : Str) : TE := fun σ H Q => ta σ H fun x H1 => ∃ a C dx fs v, x = .ref a ∧ H1 a = some (.ins C dx fs) ∧ Cls K C ∧ NoAttr K C f ∧ fs.lookup f = some v ∧ Q v H1
def sFld (K : PySem.W.Frag) (ta tv : TE) (f : Str) : TS := fun D σ H => tv σ H fun y H1 => ta σ H1 fun x H2 => ∃ a C dx fs, x = .ref a ∧ H2 a = some (.ins C dx fs) ∧ Cls K C ∧ NoAttr K C f ∧ fs.length < 1000 ∧
  D.nx σ (upd H2 a (.ins C dx (putF f y fs)))
section
variable {X : Cx} {o e value : Expr} {f : Str} {pos pos' tpos : Pos} {ta tv : TE}
theorem pe_fld (he : PE X e ta) (hb : attributeBase e f X.env (eval e X.env) = eval e X.env) : PE X (.Attribute e f pos) (tFld X.K ta f) := by
  intro pins s σ H Q I h
  refine attr_of hb (thn (he pins s σ H _ I h) fun u s1 ⟨x, H1, I1, rx, a, C, dx, fs, v, ex, ea, c, n, l, q⟩ => ?_)
  subst ex
  obtain rfl : u = Value.ref a := rx
  exact getattr_ok I1 ea c n l fun u' s2 I2 ru => ⟨v, H1, I2, ru, q⟩
theorem ps_fld (ha : PE X o ta) (hv : PE X value tv) (hs : swapsWith value (some (.Attribute o f pos')) pos.line X.env = pure false) : PS X (.Assign [.Attribute o f pos'] value pos) (sFld X.K ta tv f) := by
  intro pins s σ H D I h
  refine plainObj_wpAny_Assign_Attribute (thn (hv pins s σ H _ I h) fun u s1 ⟨y, H1, I1, ry, q⟩ => thn (ha pins s1 σ H1 _ I1 q) fun ov s2 ⟨x, H2, I2, rx, a, C, dx, fs, ex, ea, c, n, l, q2⟩ => ?_) hs
  subst ex
  obtain rfl : ov = Value.ref a := rx
  exact setattr_ok I2 ea c n l ry fun s3 I3 => ⟨σ, _, I3, q2⟩
end
section
variable {X : Cx} {pins : List (Addr × Obj)} {σ : St} {H : Hp} {s : Shared} {A : Around} {E : Value → Shared → Prop} {Q : Value → Shared → Prop} {c : Value} {b : Bool}
inductive TyOf (K : PySem.W.Frag) (H : Hp) : V → Value → Prop where
  | non : TyOf K H .non (.type "NoneType")
  | bl (x : Bool) : TyOf K H (.bl x) (.type "bool")
  | int (i : Int) : TyOf K H (.int i) (.type "int")
  | str (x : Str) : TyOf K H (.str x) (.type "str")
  | flt (x : UInt64) : TyOf K H (.flt x) (.type "float")
  | lst {a : Addr} {xs : List V} (e : H a = some (.lst xs)) : TyOf K H (.ref a) (.type "list")
  | frz {a : Addr} {o : Obj} {xs : List V} (e : H a = some (.frz o (.lst xs))) : TyOf K H (.ref a) (.type "list")
  | tup {a : Addr} {xs : List V} (e : H a = some (.tup xs)) : TyOf K H (.ref a) (.type "tuple")
  | dK {a : Addr} {kvs : List (Key × V)} (e : H a = some (.dK kvs)) : TyOf K H (.ref a) (.type "dict")
  | dT {a : Addr} {kvs : List (List Key × V)} (e : H a = some (.dT kvs)) : TyOf K H (.ref a) (.type "dict")
  | ins {a C dx : Addr} {fs : List (Str × V)} (e : H a = some (.ins C dx fs)) (cl : Cls K C) (ha : PySem.W.findIn K (.ref C) "__class__" = some (some (.builtin "object.__class__")))
      (hn : PySem.W.specialIn K (.builtin "object.__class__") "__get__" = some (some (.builtin "getset_descriptor.__get__"))) (htk : PySem.W.takesIn K (.builtin "object.__class__") = some true)
      (hm : PySem.W.mroIn K C (.type "object") = some true) : TyOf K H (.ref a) (.ref C)
theorem isinst_ok {x : V} {u t : Value} (I : Inv X pins σ H s) (rx : RelV x u) (ty : TyOf X.K H x t) (e : PySem.W.kitOne X.K t c = some b) (h : ∀ tk, Q (.bool b) { s with toks := tk }) :
    wpAny (model X.prog X.w) A (call (.builtin "isinstance") [u, c]) Q E s := by
  cases ty with
  | non => cases (show u = Value.none from rx); exact PySem.W.kia_one PySem.W.kitx_none I.kIn True.intro e (fun z => nomatch z) h
  | bl y => cases (show u = Value.bool y from rx); exact PySem.W.kia_one PySem.W.kitx_bool I.kIn True.intro e (fun z => nomatch z) h
  | int i => obtain ⟨t, q⟩ := (show ∃ t, u = Value.int i t from rx); cases q; exact PySem.W.kia_one PySem.W.kitx_int I.kIn True.intro e (fun z => nomatch z) h
  | str y => obtain ⟨t, q⟩ := (show ∃ t, u = Value.str y t from rx); cases q; exact PySem.W.kia_one PySem.W.kitx_str I.kIn True.intro e (fun z => nomatch z) h
  | flt y => obtain ⟨t, q⟩ := (show ∃ t, u = Value.float y t from rx); cases q; exact PySem.W.kia_one PySem.W.kitx_float I.kIn True.intro e (fun z => nomatch z) h
  | @lst a xs ea =>
    cases (show u = Value.ref a from rx)
    obtain ⟨_, _, n, _, h1⟩ := (show ObjOk X.prog X.w H s.heap a (.lst xs) from I.hok a _ ea)
    exact PySem.W.kia_one PySem.W.kitx_list I.kIn ⟨_, h1, rfl⟩ e (fun z => nomatch z) h
  | @frz a ob xs ea =>
    cases (show u = Value.ref a from rx)
    obtain ⟨_, _, _, n, _, h1⟩ := (show ObjOk X.prog X.w H s.heap a (.frz ob (.lst xs)) from I.hok a _ ea)
    exact PySem.W.kia_one PySem.W.kitx_list I.kIn ⟨_, h1, rfl⟩ e (fun z => nomatch z) h
  | @tup a xs ea =>
    cases (show u = Value.ref a from rx)
    obtain ⟨_, _, _, p⟩ := (show ObjOk X.prog X.w H s.heap a (.tup xs) from I.hok a _ ea)
    obtain ⟨o, h1, h2, _⟩ := p
    exact PySem.W.kia_one PySem.W.kitx_tuple I.kIn ⟨o, h1, h2⟩ e (fun z => nomatch z) h
  | @dK a kvs ea =>
    cases (show u = Value.ref a from rx)
    obtain ⟨_, _, vs, _, p⟩ := (show ObjOk X.prog X.w H s.heap a (.dK kvs) from I.hok a _ ea)
    obtain ⟨o, es, ep, h1, h2, _⟩ := p
    exact PySem.W.kia_one PySem.W.kitx_dict I.kIn ⟨o, h1, h2.1⟩ e (fun z => nomatch z) h
  | @dT a kvs ea =>
    cases (show u = Value.ref a from rx)
    obtain ⟨_, _, xs, _, o, es, ep, h1, h2, _⟩ := (show ObjOk X.prog X.w H s.heap a (.dT kvs) from I.hok a _ ea)
    exact PySem.W.kia_one PySem.W.kitx_dict I.kIn ⟨o, h1, h2.1⟩ e (fun z => nomatch z) h
  | @ins a C dx fs ea cl ha hn htk hm =>
    cases (show u = Value.ref a from rx)
    obtain ⟨mA, O, _⟩ := ins_get I.hok ea
    obtain ⟨od, J, _⟩ := O.look
    exact PySem.W.kia_one (PySem.W.kitx_own (cl.get _) cl.hd ha hn htk hm) I.kIn J e (fun z => nomatch z) h
end
end L2
namespace L2
open PySem PySem.Spec PyProof.Rows
structure Room (k : Nat) (A : Around) : Prop where
  hd : A.handled = none
  dp : A.depth + 3 * k + 5 < recursionLimit
  un : A.units + 16 * k + 200 < cLine
  gd : A.guards = some []
theorem Room.mono {j k : Nat} {A : Around} (r : Room k A) (h : j ≤ k) : Room j A := ⟨r.hd, by have := r.dp; omega, by have := r.un; omega, r.gd⟩
theorem Room.deeper {k : Nat} {A : Around} (r : Room (k + 1) A) (env : Env) : Room k (A.deeper env) :=
  ⟨r.hd, by have := r.dp; show A.depth + 1 + 3 * k + 5 < _; omega, by have := r.un; show A.units + 3 + 16 * k + 200 < _; omega, r.gd⟩
theorem make_depth {A : Around} {C : Addr} {us : List Value} {kw : List (Str × Value)} : (A.under (.builtin "type.__call__" ⟨.ref C :: us, kw⟩)).depth = A.depth + 1 := by
  first | rfl | simp [Around.under, Code.weight, Code.isCreation, Code.isGuard, Code.isCaller, Code.frames, Code.isFrame, guardIds]
theorem make_units {A : Around} {C : Addr} {us : List Value} {kw : List (Str × Value)} : (A.under (.builtin "type.__call__" ⟨.ref C :: us, kw⟩)).units = A.units + 1 := by
  first | rfl | simp [Around.under, Code.cUnits, Code.frames, Code.isFrame]
theorem make_guards {A : Around} {C : Addr} {us : List Value} {kw : List (Str × Value)} : (A.under (.builtin "type.__call__" ⟨.ref C :: us, kw⟩)).guards = A.guards := by
  first | rfl | simp [Around.under, Code.isGuard, Code.guards, guardIds]
theorem Room.make {k : Nat} {A : Around} (r : Room (k + 1) A) (C : Addr) (us : List Value) (kw : List (Str × Value)) : Room k (A.under (.builtin "type.__call__" ⟨.ref C :: us, kw⟩)) :=
  ⟨r.hd, by have := r.dp; rw [make_depth]; omega, by have := r.un; rw [make_units]; omega, by rw [make_guards]; exact r.gd⟩
theorem Room.depth {k : Nat} {A : Around} (r : Room k A) : A.depth < recursionLimit := by have := r.dp; omega
theorem Room.units {k : Nat} {A : Around} (r : Room k A) : A.units + 64 < cLine := by have := r.un; omega
def tNil : TA := fun _ H Q => Q [] H
def tCons (ta : TE) (tr : TA) : TA := fun σ H Q => ta σ H fun x H1 => tr σ H1 fun xs H2 => Q (x :: xs) H2
section
variable {X : Cx} {e : Expr} {es : List Expr} {te : TE} {t : TA} {pos : Pos}
theorem pa_nil : PA X [] tNil := fun _ _ _ _ H Q I h => Calls.spliced_nil ⟨[], H, I, .nil, h⟩
theorem pa_cons (ha : PE X e te) (hr : PA X es t) (hs : starEach (e :: es) X.env = (false, eval e X.env) :: starEach es X.env := by rfl) : PA X (e :: es) (tCons te t) := by
  intro pos pins s σ H Q I h
  rw [hs]
  show wpAny _ _ (spliced ((false, eval e X.env) :: backTo pos (starEach es X.env))) _ _ s
  refine Calls.spliced_cons (thn (ha pins s σ H _ I h) fun u s1 ⟨x, H1, I1, r1, q1⟩ => ?_)
  exact thn (hr pos pins s1 σ H1 _ I1 q1) fun us s2 ⟨xs, H2, I2, r2, q2⟩ => ⟨x :: xs, H2, I2, .cons r1 r2, q2⟩
def tTup (t : TA) : TE := fun σ H Q => t σ H fun xs H1 => xs.length ≤ sizeLine ∧ ∀ p, H1 p = none → Q (.ref p) (upd H1 p (.tup xs))
def tLst (t : TA) : TE := fun σ H Q => t σ H fun xs H1 => xs.length ≤ sizeLine ∧ ∀ p, H1 p = none → Q (.ref p) (upd H1 p (.lst xs))
theorem pe_tup {x1} (h : PA X es t) : PE X (.Tuple es x1 pos) (tTup t) := by
  intro pins s σ H Q I hq
  refine wpAny_Tuple_spliced (thn (h pos pins s σ H _ I hq) fun us s1 ⟨xs, H1, I1, r, z, q⟩ => ⟨by rw [← r.length]; exact z, ?_⟩)
  have hf : H1 s1.heap.objs.size = none := I1.hok.fresh (Nat.le_refl _)
  refine ⟨.ref s1.heap.objs.size, upd H1 s1.heap.objs.size (.tup xs), I1.laid (t' := s1.toks) (fun b u e => Heap.get?_push_of_some _ e) (Nat.le_refl _) ?_, rfl, q _ hf⟩
  exact ⟨z, us, r, ⟨_, Heap.get?_push_size _ rfl, rfl, _, rfl⟩⟩
theorem pe_lst (h : PA X es t) : PE X (.List es pos) (tLst t) := by
  intro pins s σ H Q I hq
  refine wpAny_List_spliced (thn (h pos pins s σ H _ I hq) fun us s1 ⟨xs, H1, I1, r, z, q⟩ => ⟨by rw [← r.length]; exact z, ?_⟩)
  have hf : H1 s1.heap.objs.size = none := I1.hok.fresh (Nat.le_refl _)
  refine ⟨.ref s1.heap.objs.size, upd H1 s1.heap.objs.size (.lst xs), I1.laid (t' := s1.toks) (fun b u e => Heap.get?_push_of_some _ e) (Nat.le_refl _) ?_, rfl, q _ hf⟩
  exact ⟨z, us, 0, r, Heap.get?_push_size _ rfl⟩
end
abbrev Sp := List V → Hp → VK → XK → Prop
abbrev CXT := List Env → Hp → Shared → XK → Value → Shared → Prop
structure Env0 (P : Program) (w : World) (K : PySem.W.Frag) (mg : Str → Option Value) (base : Heap) (A : Around) (outer : List Env) (s : Shared) (H : Hp) : Prop where
  frames : A.frames = some outer
  mod : Mod K mg base
  bs : ∀ b o, base.get? b = some o → s.heap.get? b = some o ∧ H b = none
  bsz : base.objs.size ≤ s.heap.objs.size
  funs : s.heap.FunFrames base outer
  frf : ∀ b ∈ frs outer, H b = none
  hok : HOk P w H s.heap
  bare : AllBare s.gens
def CE (outer : List Env) (P : Program) (w : World) (H : Hp) (s : Shared) (Q : VK) (u : Value) (s' : Shared) : Prop :=
  ∃ v H', s'.os = s.os ∧ AllBare s'.gens ∧ Un (frs outer) [] H H' s.heap s'.heap ∧ HOk P w H' s'.heap ∧ RelV v u ∧ Q v H'
def CR (CX : CXT) (outer : List Env) (P : Program) (w : World) (H : Hp) (s : Shared) (Q : VK) (E : XK) (r : Result) (s' : Shared) : Prop :=
  match r with
  | .ok (.ret u) => CE outer P w H s Q u s'
  | .ok _ => False
  | .error e => CX outer H s E e s'
structure FnOk (P : Program) (w : World) (K : PySem.W.Frag) (mg : Str → Option Value) (base : Heap) (CX : CXT) (k : Nat) (f : Addr) (fd : FuncData) (ps : List Str) (sp : Sp) : Prop where
  len : ∀ vs H Q E, sp vs H Q E → vs.length = ps.length
  run : ∀ (A : Around) (outer : List Env) (s : Shared) (H : Hp) (args : Args) (us : List Value) (vs : List V) (Q : VK) (E : XK), Room k A → Env0 P w K mg base A outer s H → BindsTo s fd args (ps.zip us) → Vals vs us → sp vs H Q E →
    codeAny (model P w) A (.call (.ref f) args) (CR CX outer P w H s Q E) s
theorem Env0.make {P : Program} {w : World} {K : PySem.W.Frag} {mg : Str → Option Value} {base : Heap} {A : Around} {outer : List Env} {s : Shared} {H : Hp} (e : Env0 P w K mg base A outer s H) (C : Addr) (us : List Value) (kw : List (Str × Value)) :
    Env0 P w K mg base (A.under (.builtin "type.__call__" ⟨.ref C :: us, kw⟩)) outer s H := ⟨by first | exact e.frames | (simpa [Around.under, Code.envs, Code.isFrame, pushEnvs] using e.frames), e.mod, e.bs, e.bsz, e.funs, e.frf, e.hok, e.bare⟩
section
variable {X : Cx} {pins : List (Addr × Obj)} {σ : St} {H : Hp} {s s' : Shared}
theorem Inv.env0 (I : Inv X pins σ H s) : Env0 X.prog X.w X.K X.mg X.base X.A X.stack s H :=
  ⟨I.ok.frames, I.ok.mod, I.bs, Nat.le_trans I.ok.bsz I.sz, I.stack, I.stkFree, I.hok, I.bare⟩
theorem Inv.after {Q : VK} {u : Value} (I : Inv X pins σ H s) (h : CE X.stack X.prog X.w H s Q u s') : EP X pins σ Q u s' := by
  obtain ⟨v, H', os, bare, un, hok, r, q⟩ := h
  obtain ⟨hh, g, d, t, os'⟩ := s'
  obtain rfl : os' = s.os := os
  exact ⟨v, H', I.call (h' := hh) (g' := g) (d' := d) (t' := t) (ch := []) un hok bare (fun b z => absurd z (by simp)), r, q⟩
end
def tCall (sp : Sp) (dvs : List V) (E : XK) (t : TA) : TE := fun σ H Q => t σ H fun vs H1 => sp (vs ++ dvs) H1 Q E
def Binds (K : PySem.W.Frag) (fd : FuncData) (ps : List Str) (ds : List Value) : Prop :=
  ∀ (s : Shared) (us : List Value), K.In s.heap → (us ++ ds).length = ps.length → BindsTo s fd ⟨us, []⟩ (ps.zip (us ++ ds))
theorem Binds.all {K : PySem.W.Frag} {fd : FuncData} {ps : List Str} (h : ∀ us : List Value, us.length = ps.length → bindArgs fd ⟨us, []⟩ = pure (ps.zip us)) : Binds K fd ps [] := fun s us _ hl => by
  rw [List.append_nil] at hl ⊢
  exact .of_eq (h us hl)
def Passes (CX : CXT) (X : Cx) (E : XK) : Prop := ∀ (pins : List (Addr × Obj)) (σ : St) (H : Hp) (s : Shared) (e : Value) (s' : Shared), Inv X pins σ H s → CX X.stack H s E e s' → X.xe e s'
section
variable {X : Cx} {CX : CXT} {k : Nat} {f C : Addr} {fd : FuncData} {ps : List Str} {sp : Sp} {dvs : List V} {ds : List Value} {E : XK} {x m : Str} {p pos apos : Pos} {e o : Expr} {es : List Expr} {ta : TE} {t : TA}
theorem run_fn {pins : List (Addr × Obj)} {σ : St} {H : Hp} {s : Shared} {Q : VK} {us : List Value} {vs : List V} (F : FnOk X.prog X.w X.K X.mg X.base CX k f fd ps sp) (hr : Room k X.A) (hb : Binds X.K fd ps ds) (hd : Vals dvs ds) (hx : Passes CX X E)
    (I : Inv X pins σ H s) (r : Vals vs us) (h : sp (vs ++ dvs) H Q E) : wpAny (model X.prog X.w) X.A (call (.ref f) us) (EP X pins σ Q) X.xe s := by
  have r2 : Vals (vs ++ dvs) (us ++ ds) := r.append hd
  have hl : (us ++ ds).length = ps.length := by rw [← r2.length]; exact F.len _ _ _ _ h
  refine wpAny_call (codeAny_mono (F.run X.A X.stack s H ⟨us, []⟩ (us ++ ds) (vs ++ dvs) Q E hr I.env0 (hb s us I.kIn hl) r2 h) fun r s' hq => ?_)
  cases r with
  | error e => exact hx pins σ H s e s' I hq
  | ok fl =>
    cases fl with
    | ret u => exact I.after hq
    | next => exact False.elim hq
    | brk => exact False.elim hq
    | cont => exact False.elim hq
theorem pe_call (F : FnOk X.prog X.w X.K X.mg X.base CX k f fd ps sp) (hr : Room k X.A) (hg : Gl X x) (hm : X.mg x = some (.ref f)) (hk : PySem.W.keepIn X.K (.ref f) = true) (hb : Binds X.K fd ps ds) (hd : Vals dvs ds) (hx : Passes CX X E)
    (ha : PA X (e :: es) t) (hdb : (x == ("__debug__" : Str)) = false := by decide) (he : starEach (e :: es) X.env = (false, eval e X.env) :: starEach es X.env := by rfl) (hpl : (backTo pos (starEach es X.env)).any (·.1) = false := by rfl) :
    PE X (.Call (.Name x p) (e :: es) [] pos) (tCall sp dvs E t) := by
  intro pins s σ H Q I h
  refine wpAny_Call_Name_kw (ld_glob I hg hm ?_ hdb)
  refine PySem.W.callWith_K (h₀ := X.base) I.ok.mod.kin hk (thn (ha pos pins s σ H _ I h) fun us s1 ⟨vs, H1, I1, r, q⟩ => ⟨I1.kIn, ?_⟩) he hpl
  exact run_fn F hr hb hd hx I1 r q
structure Mk (K : PySem.W.Frag) (C f : Addr) : Prop where
  makes : PySem.W.makesIn K C = true
  init : PySem.W.findIn K (.ref C) "__init__" = some (some (.ref f))
  fn : PySem.W.isFn K (.ref f) = true
  kp : PySem.W.keepIn K (.ref C) = true
end
section
variable {X : Cx} {CX : CXT} {k : Nat} {f C : Addr} {fd : FuncData} {ps ks : List Str} {sp : Sp} {E : XK} {x m : Str} {p pos apos kpos : Pos} {e o : Expr} {es : List Expr} {kws : List Keyword} {te ta : TE} {t tk : TA} {nm : Option Str}
variable {g : List Value → List Value → List Value} {gV : List V → List V → List V}
end
structure FnScope (N P : List Str) (sc : Scope) : Prop where
  kind : sc.kind = .function
  co : sc.isCoroutine = false
  gen : sc.isGenerator = false
  nd : N.Nodup
  pre : N.take P.length = P
  par : ∀ x ∈ P, sc.names.lookup x = some .local ∨ sc.names.lookup x = some .cell
  nofree : ∀ y ∈ sc.names, y.2 ≠ .free
theorem bindL_out {kindOf : Str → Option NameKind} {x : Str} : ∀ {binds : List (Str × Value)} {m : Str → Option Value}, (∀ v, (x, v) ∉ binds) → bindL kindOf binds m x = m x
  | [], _, _ => rfl
  | (n, v) :: r, m, h => by
    unfold bindL
    rw [bindL_out fun w hw => h w (List.mem_cons_of_mem _ hw)]
    split
    · have : x ≠ n := by rintro rfl; exact h v List.mem_cons_self
      simp [this]
    · rfl
theorem bindC_out {kindOf : Str → Option NameKind} {x : Str} : ∀ {binds : List (Str × Value)} {m : Str → Option Value}, (∀ v, (x, v) ∉ binds) → bindC kindOf binds m x = m x
  | [], _, _ => rfl
  | (n, v) :: r, m, h => by
    unfold bindC
    rw [bindC_out fun w hw => h w (List.mem_cons_of_mem _ hw)]
    split
    · rfl
    · have : x ≠ n := by rintro rfl; exact h v List.mem_cons_self
      simp [this]
theorem bindL_get {kindOf : Str → Option NameKind} {x : Str} {v : Value} : ∀ {P : List Str} {vs : List Value} {i : Nat} {m : Str → Option Value}, P.Nodup → P[i]? = some x → vs[i]? = some v → kindOf x = some .local →
    bindL kindOf (P.zip vs) m x = some v
  | [], _, _, _, _, h, _, _ => by simp at h
  | _ :: _, [], _, _, _, _, h, _ => by simp at h
  | p :: P, w :: vs, 0, m, nd, h1, h2, hk => by
    simp at h1 h2; subst h1; subst h2
    show bindL kindOf ((p, w) :: P.zip vs) m p = _
    unfold bindL
    rw [bindL_out fun v hv => (List.nodup_cons.mp nd).1 (List.of_mem_zip hv).1, if_pos hk]
    simp
  | p :: P, w :: vs, i + 1, m, nd, h1, h2, hk => by
    show bindL kindOf ((p, w) :: P.zip vs) m x = _
    unfold bindL
    exact bindL_get (i := i) (List.nodup_cons.mp nd).2 (by simpa using h1) (by simpa using h2) hk
theorem bindC_get {kindOf : Str → Option NameKind} {x : Str} {v : Value} : ∀ {P : List Str} {vs : List Value} {i : Nat} {m : Str → Option Value}, P.Nodup → P[i]? = some x → vs[i]? = some v → kindOf x ≠ some .local →
    bindC kindOf (P.zip vs) m x = some v
  | [], _, _, _, _, h, _, _ => by simp at h
  | _ :: _, [], _, _, _, _, h, _ => by simp at h
  | p :: P, w :: vs, 0, m, nd, h1, h2, hk => by
    simp at h1 h2; subst h1; subst h2
    show bindC kindOf ((p, w) :: P.zip vs) m p = _
    unfold bindC
    rw [bindC_out fun v hv => (List.nodup_cons.mp nd).1 (List.of_mem_zip hv).1, if_neg hk]
    simp
  | p :: P, w :: vs, i + 1, m, nd, h1, h2, hk => by
    show bindC kindOf ((p, w) :: P.zip vs) m x = _
    unfold bindC
    exact bindC_get (i := i) (List.nodup_cons.mp nd).2 (by simpa using h1) (by simpa using h2) hk
def start (N : List Str) (vs : List V) : St := vs.map some ++ List.replicate (N.length - vs.length) none
def cxOf (CX : CXT) (P : Program) (w : World) (K : PySem.W.Frag) (mg : Str → Option Value) (base : Heap) (N : List Str) (qual : Str) (scope : Scope) (f : Addr) (cd : Value) (A : Around) (outer : List Env) (s : Shared) (H : Hp) (E : XK) : Cx where
  prog := P
  w := w
  K := K
  mg := mg
  base := base
  A := A.deeper (envOfC qual scope s.heap.objs.size f cd)
  N := N
  s₀ := s
  H₀ := H
  env := envOfC qual scope s.heap.objs.size f cd
  outer := outer
  stack := envOfC qual scope s.heap.objs.size f cd :: outer
  ex := []
  calm := true
  fn := fun _ => true
  pn := []
  xe := fun e s' => wpAny (model P w) (A.deeper (envOfC qual scope s.heap.objs.size f cd)) (leaving (envOfC qual scope s.heap.objs.size f cd) e) (fun _ s'' => CX outer H s E e s'') (fun e' s'' => CX outer H s E e' s'') s'
theorem cell_has {sc : Scope} {n : Nat} {x : Str} (h : sc.names.lookup x = some .cell) : ∃ c, (cellsFrom n sc.names []).lookup x = some c := by
  have q := PySem.W.cellsFrom_some sc.names n [] (.inl h)
  exact Option.isSome_iff_exists.mp q
theorem inv_start {CX : CXT} {P : Program} {w : World} {K : PySem.W.Frag} {mg : Str → Option Value} {base : Heap} {N ps : List Str} {qual : Str} {scope : Scope} {f : Addr} {cd : Value} {A : Around} {outer : List Env} {s s1 : Shared} {H : Hp} {E : XK} {us : List Value} {vs : List V}
    (S : FnScope N ps scope) (hd : A.handled = none) (e0 : Env0 P w K mg base A outer s H) (hl : vs.length = ps.length) (r : Vals vs us)
    (x : InCallC s s.heap.objs.size (bindL (envOfC qual scope s.heap.objs.size f cd).kindOf (ps.zip us) fun _ => none) (cellsFrom (s.heap.objs.size + 1) scope.names []) (bindC (envOfC qual scope s.heap.objs.size f cd).kindOf (ps.zip us) fun _ => none) s1) :
    Inv (cxOf CX P w K mg base N qual scope f cd A outer s H E) [] (start N vs) H s1 := by
  have hpl : ps.length ≤ N.length := by have := congrArg List.length S.pre; rw [List.length_take] at this; omega
  obtain ⟨h1, tk, rfl, hk⟩ := x.done
  have noA : ∀ b : Addr, b ∉ (cxOf CX P w K mg base N qual scope f cd A outer s H E).ex := fun b z => absurd (show b ∈ ([] : List Addr) from z) (by simp)
  refine ⟨⟨e0.mod, S.kind, rfl, rfl, Nat.le_refl _, fun y z c h1 h2 => ?_, fun y hy => ?_, fun y c _ h => ?_, fun _ => hd, Around.frames_deeper e0.frames, .inr ⟨rfl, rfl⟩, fun b z => absurd z (noA b), e0.bs, e0.bsz, fun b _ _ => noA b, fun b z => absurd z (noA b), e0.funs, e0.frf⟩,
    rfl, e0.bare, Un.kept hk, ⟨_, x.toInCall.ns, fun i y v h1 h2 h3 => ?_⟩, fun y c h => ⟨_, x.cell y c h⟩, e0.hok.fresh (Nat.le_refl _), fun y c h => ?_, fun p hp => absurd (show p ∈ ([] : List (Addr × Obj)) from hp) (by simp), e0.hok.kept hk, ?_⟩
  · exact name_of_addr x.apart (PySem.mem_of_lookup h1) (PySem.mem_of_lookup h2)
  · have hy : scope.names.lookup y = some .cell ∨ scope.names.lookup y = some .free := hy
    rcases hy with hy | hy
    · exact cell_has hy
    · exact absurd rfl (S.nofree _ (PySem.mem_of_lookup hy))
  · exact Nat.le_of_lt (x.above y c (PySem.mem_of_lookup h))
  · have hi : i < vs.length := by
      unfold start at h2
      by_cases hi : i < vs.length
      · exact hi
      · rw [List.getElem?_append_right (by simpa using hi)] at h2
        rw [List.getElem?_replicate] at h2
        split at h2 <;> cases h2
    have ha : vs[i]? = some v := by
      unfold start at h2
      rw [List.getElem?_append_left (by simpa using hi), List.getElem?_map] at h2
      cases e : vs[i]? with
      | none => rw [e] at h2; cases h2
      | some a => rw [e] at h2; cases h2; rfl
    obtain ⟨u, hu, rv⟩ := r.get ha
    have hp : ps[i]? = some y := by
      rw [← S.pre, List.getElem?_take_of_lt (by omega)]; exact h1
    have ndP : ps.Nodup := by rw [← S.pre]; exact S.nd.sublist (List.take_sublist _ _)
    refine ⟨u, rv, ?_⟩
    rcases S.par y (List.mem_of_getElem? hp) with k | k
    · exact .inl ⟨k, bindL_get ndP hp hu k⟩
    · obtain ⟨c, e⟩ := cell_has (n := s.heap.objs.size + 1) k
      refine .inr ⟨.inl k, c, e, ?_⟩
      have q := x.cell y c e
      rw [bindC_get ndP hp hu (by show scope.names.lookup y ≠ _; rw [k]; decide)] at q
      exact q
  · exact e0.hok.fresh (Nat.le_of_lt (x.above y c (PySem.mem_of_lookup h)))
  · unfold start
    show _ = N.length
    rw [List.length_append, List.length_map, List.length_replicate]
    omega
theorem fn_of {CX : CXT} {P : Program} {w : World} {K : PySem.W.Frag} {mg : Str → Option Value} {base : Heap} {k : Nat} {f : Addr} {name qual : Str} {params : Arguments} {body : List Stmt} {scope : Scope} {dV kV doc pm cdv ct oc : Value} {an od : Option Addr}
    {osl : Array (Option Value)} {N ps : List Str} {sp : Sp} (lk : K.lookup f = some ⟨oc, od, .func (PySem.W.fnOf name qual params body scope dV kV doc pm an cdv ct), osl⟩) (hcd : PySem.W.codeIn K cdv qual = true) (S : FnScope N ps scope)
    (len : ∀ vs H Q E, sp vs H Q E → vs.length = ps.length)
    (hbody : ∀ (A : Around) (outer : List Env) (s : Shared) (H : Hp) (vs : List V) (Q : VK) (E : XK), Room k (A.deeper (envOfC qual scope s.heap.objs.size f cdv)) → sp vs H Q E →
      ∃ t, PSs (cxOf CX P w K mg base N qual scope f cdv A outer s H E) body t ∧ t { nx := fun _ H' => Q .non H', rt := Q } (start N vs) H) :
    FnOk P w K mg base CX (k + 1) f (PySem.W.fnOf name qual params body scope dV kV doc pm an cdv ct) ps sp := by
  refine ⟨len, fun A outer s H args us vs Q E hr e0 hb r hsp => ?_⟩
  have hl := len _ _ _ _ hsp
  have KX : K.In s.heap := e0.mod.kin.keeps fun b o e => (e0.bs b o e).1
  have lim : s.heap.NoLimit := e0.mod.nolimit.keeps fun b o e => (e0.bs b o e).1
  have hkind : ∀ y ∈ ps.zip us, scope.names.lookup y.1 = some .local ∨ (scope.names.lookup y.1 = some .cell ∧ ((cellsFrom (s.heap.objs.size + 1) scope.names []).lookup y.1).isSome = true) := fun ⟨n, v⟩ hy => by
    rcases S.par n (List.of_mem_zip hy).1 with q | q
    · exact .inl q
    · exact .inr ⟨q, PySem.W.cellsFrom_some _ _ _ (.inl q)⟩
  refine codeAny_call_function hr.depth (KX _ _ lk) rfl S.co S.gen rfl (PySem.W.codeRec_of KX hcd) (hb _ _ _ _ ?_)
  refine wpAny_newFunctionEnv_cells S.kind hkind fun env he s1 x => ?_
  subst he
  refine ⟨lim.keeps x.toInCall.keep, codeAny_func ?_⟩
  obtain ⟨t, ht, hq⟩ := hbody A outer s H vs Q E (hr.deeper _) hsp
  have I : Inv (cxOf CX P w K mg base N qual scope f cdv A outer s H E) [] (start N vs) H s1 := inv_start S hr.hd e0 hl r x
  refine wpAny_mono (ht [] s1 (start N vs) H _ I hq) (fun fl s' hs => ?_) fun e s' hs => hs
  have fin : ∀ {σ' : St} {H' : Hp} {v : V} {u : Value}, Inv (cxOf CX P w K mg base N qual scope f cdv A outer s H E) [] σ' H' s' → RelV v u → Q v H' → CE outer P w H s Q u s' :=
    fun {σ' H' v u} J rv q => ⟨v, H', J.os, J.bare, J.base, J.hok, rv, q⟩
  cases fl with
  | ret u =>
    obtain ⟨v, σ', H', J, rv, q⟩ := hs
    exact fin J rv q
  | next =>
    obtain ⟨σ', H', J, q⟩ := hs
    exact fin (v := V.non) (u := Value.none) J rfl q
  | brk =>
    obtain ⟨_, _, _, q⟩ := hs
    exact False.elim q
  | cont =>
    obtain ⟨_, _, _, q⟩ := hs
    exact False.elim q
end L2
namespace L2
open PySem PySem.Spec PyProof.Rows
section
variable {X : Cx} {x : Str} {p pos : Pos} {e : Expr} {es : List Expr} {t : TA} {id T : String} {r : List V → Hp → VK → Prop}
def tCB (r : List V → Hp → VK → Prop) (t : TA) : TE := fun σ H Q => t σ H fun vs H1 => r vs H1 Q
theorem pe_callB (hc : CallR X (.builtin id) r) (hg : Gl X x) (hm : X.mg x = none) (hv : bootBuiltins x = some (.builtin id)) (ha : PA X (e :: es) t) (hn : x ≠ "__name__" := by decide) (hdb : (x == ("__debug__" : Str)) = false := by decide)
    (he : starEach (e :: es) X.env = (false, eval e X.env) :: starEach es X.env := by rfl) (hpl : (backTo pos (starEach es X.env)).any (·.1) = false := by rfl) : PE X (.Call (.Name x p) (e :: es) [] pos) (tCB r t) := by
  intro pins s σ H Q I h
  refine wpAny_Call_Name_kw (ld_blt I hg hm hv ?_ hn hdb)
  exact PyProof.Rows.callWith_builtin1 (thn (ha pos pins s σ H _ I h) fun us s1 ⟨vs, H1, I1, r1, q1⟩ => hc pins s1 σ H1 vs us Q I1 r1 q1) he hpl
theorem pe_callTy (hc : CallR X (.type T) r) (hg : Gl X x) (hm : X.mg x = none) (hv : bootBuiltins x = some (.type T)) (ha : PA X (e :: es) t) (hn : x ≠ "__name__" := by decide) (hdb : (x == ("__debug__" : Str)) = false := by decide)
    (he : starEach (e :: es) X.env = (false, eval e X.env) :: starEach es X.env := by rfl) (hpl : (backTo pos (starEach es X.env)).any (·.1) = false := by rfl) : PE X (.Call (.Name x p) (e :: es) [] pos) (tCB r t) := by
  intro pins s σ H Q I h
  refine wpAny_Call_Name_kw (ld_blt I hg hm hv ?_ hn hdb)
  exact PyProof.Rows.callWith_type1 (thn (ha pos pins s σ H _ I h) fun us s1 ⟨vs, H1, I1, r1, q1⟩ => hc pins s1 σ H1 vs us Q I1 r1 q1) he hpl
end
end L2
namespace HT
open PySem PyProof.Rows
def lexLt : List Int → List Int → Bool
  | [], [] => false
  | [], _ :: _ => true
  | _ :: _, [] => false
  | x :: xs, y :: ys => if x = y then lexLt xs ys else decide (x < y)
theorem lexLt_cons (x y : Int) (xs ys : List Int) : lexLt (x :: xs) (y :: ys) = if x = y then lexLt xs ys else decide (x < y) := rfl
section
open PySem.SeqAt
open PySem.AutoSeq1 (wpAny_loadPart')
open PySem.MeetsSeq PySem.MeetsSeq2 PySem.MeetsSeq3
end
section
variable {prog : Program} {w : World} {A : Around} {E : Value → Shared → Prop} {s : Shared}
theorem cat_tup {t b : Addr} {vs ws : List Value} {Q : Value → Shared → Prop} (ht : IsTup s.heap t vs.toArray) (hb : IsTup s.heap b ws.toArray) (hv : vs ≠ [])
    (h1 : ws = [] → Q (.ref t) s) (h2 : ws ≠ [] → Q (.ref s.heap.objs.size) { s with heap := s.heap.push { cls := .type "tuple", data := .seq (vs ++ ws).toArray } })
    (hsz : vs.length + ws.length ≤ sizeLine) : wpAny (model prog w) A (binaryOp .Add (.ref t) (.ref b)) Q E s := by
  obtain ⟨⟨cls, dd, data, sl⟩, ho, hc, n, hd⟩ := id ht
  obtain ⟨⟨cls2, dd2, data2, sl2⟩, ho2, hc2, n2, hd2⟩ := id hb
  simp only at hc hd hc2 hd2
  subst hc hd hc2 hd2
  have e : vs.toArray ++ ws.toArray = (vs ++ ws).toArray := by simp
  by_cases hw : ws = []
  · exact concat_meets ⟨_, ho, rfl⟩ ⟨_, ho2, rfl⟩ noFill_tuple_add seq_tuple_add PySem.F.slot_tuple_add PySem.F.entry_tuple_add (PySem.F.args_tuple_add_2 _ _)
      (tuple_addW1 t b vs.toArray ws.toArray n n2 dd dd2 sl sl2 (by simpa using hv) (by simp [hw])) ⟨ho, ho2, h1 hw⟩
  · refine concat_meets ⟨_, ho, rfl⟩ ⟨_, ho2, rfl⟩ noFill_tuple_add seq_tuple_add PySem.F.slot_tuple_add PySem.F.entry_tuple_add (PySem.F.args_tuple_add_2 _ _)
      (tuple_addW2 t b vs.toArray ws.toArray n n2 dd dd2 sl sl2 (by simpa using hv) (by simpa using hw) (by rw [List.size_toArray, List.size_toArray]; exact hsz)) ⟨ho, ho2, ?_⟩
    rw [e]
    exact h2 hw
def sIx (n d : Nat) : Option Int → Nat
  | none => d
  | some v => if v < 0 then (v + (n : Int)).toNat else min v.toNat n
theorem sIx_none (n d : Nat) : sIx n d none = d := rfl
theorem sIx_nat (n d k : Nat) : sIx n d (some (k : Int)) = min k n := by
  show (if (k : Int) < 0 then ((k : Int) + (n : Int)).toNat else min (k : Int).toNat n) = min k n
  rw [if_neg (by omega), Int.toNat_natCast]
theorem sIx_le (n d : Nat) (hd : d ≤ n) (o : Option Int) : sIx n d o ≤ n := by
  cases o with
  | none => exact hd
  | some v =>
    show (if v < 0 then (v + (n : Int)).toNat else min v.toNat n) ≤ n
    by_cases hv : v < 0
    · rw [if_pos hv]; omega
    · rw [if_neg hv]; exact Nat.min_le_right _ _
end
end HT
namespace L2
open PySem PySem.Spec PyProof.Rows
abbrev TO := St → Hp → (Option Int → Hp → Prop) → Prop
def PO (X : Cx) (e : Option Expr) (t : TO) : Prop :=
  ∀ (pins : List (Addr × Obj)) (s : Shared) (σ : St) (H : Hp) (Q : Option Int → Hp → Prop), Inv X pins σ H s → t σ H Q →
    wpAny (model X.prog X.w) X.A (evalPart e X.env) (fun u s' => ∃ o H', Inv X pins σ H' s' ∧ IsPart u o ∧ Q o H') X.xe s
def tNoPart : TO := fun _ H Q => Q none H
def tPart (t : TE) : TO := fun σ H Q => t σ H fun x H1 => ∃ i, x = .int i ∧ Q (some i) H1
theorem intsAre_of {ns : List Int} : ∀ {us : List Value}, Vals (ns.map V.int) us → IntsAre us ns := by
  induction ns with
  | nil => intro us r; rw [List.map_nil] at r; cases r; exact .nil
  | cons n ns ih =>
    intro us r
    rw [List.map_cons] at r
    cases r with
    | cons r1 r2 =>
      obtain ⟨t, e⟩ := r1
      subst e
      exact .cons n t (ih r2)
section
variable {X : Cx} {e : Expr} {te : TE} {lo hi : Option Expr} {tl th : TO} {pos p2 : Pos}
theorem po_none : PO X none tNoPart := by
  intro pins s σ H Q I h
  rw [evalPart_none]
  exact wpAny_pure ⟨none, H, I, .none, h⟩
theorem po_some (h : PE X e te) : PO X (some e) (tPart te) := by
  intro pins s σ H Q I hw
  rw [evalPart_some]
  refine thn (h pins s σ H _ I hw) fun u s1 ⟨x, H1, I1, r1, q1⟩ => ?_
  obtain ⟨i, rfl, q⟩ := q1
  obtain ⟨t, rfl⟩ := r1
  exact ⟨some i, H1, I1, .int i t, q⟩
def SlR (X : Cx) (r : V → Option Int → Option Int → Hp → VK → Prop) : Prop :=
  ∀ (pins : List (Addr × Obj)) (s : Shared) (σ : St) (H : Hp) (x : V) (v vl vu : Value) (lo hi : Option Int) (sl : Addr) (Q : VK), Inv X pins σ H s → RelV x v → s.heap.IsSliceOf sl vl vu .none → IsPart vl lo → IsPart vu hi → r x lo hi H Q →
    ∃ T id, typeLookup (.type T) "__getitem__" = pure (some (.builtin id)) ∧ s.TypeIs v T ∧ wpAny (model X.prog X.w) X.A (getItem v (.ref sl)) (EP X pins σ Q) X.xe s
def tSl (r : V → Option Int → Option Int → Hp → VK → Prop) (te : TE) (tl th : TO) : TE := fun σ H Q => te σ H fun x H1 => tl σ H1 fun l H2 => th σ H2 fun u H3 => r x l u H3 Q
theorem pe_slice {r : V → Option Int → Option Int → Hp → VK → Prop} (hr : SlR X r) (he : PE X e te) (hl : PO X lo tl) (hu : PO X hi th) : PE X (.Subscript e (.Slice lo hi none p2) pos) (tSl r te tl th) := by
  intro pins s σ H Q I h
  refine Subscript_ (thn (he pins s σ H _ I h) fun v s1 ⟨x, H1, I1, r1, q1⟩ => ?_)
  refine wpAny_Slice (thn (hl pins s1 σ H1 _ I1 q1) fun vl s2 ⟨l, H2, I2, pl, q2⟩ => thn (hu pins s2 σ H2 _ I2 q2) fun vu s3 ⟨u, H3, I3, pu, q3⟩ => ?_)
  rw [evalPart_none]
  refine wpAny_pure ?_
  have I4 : Inv X pins σ H3 { s3 with heap := s3.heap.push { cls := .type "slice", data := .fields #[vl, vu, .none] } } := I3.kept (t' := s3.toks) fun b ob q => Heap.get?_push_of_some _ q
  obtain ⟨T, id, hT, ht, hg⟩ := hr pins { s3 with heap := s3.heap.push { cls := .type "slice", data := .fields #[vl, vu, .none] } } σ H3 x v vl vu l u s3.heap.objs.size Q I4 r1 (Heap.IsSliceOf.new ..) pl pu q3
  show wpAny (model X.prog X.w) X.A (subscriptTail e (.Slice lo hi none p2) v (.ref s3.heap.objs.size)) (EP X pins σ Q) X.xe { s3 with heap := s3.heap.push { cls := .type "slice", data := .fields #[vl, vu, .none] } }
  exact tail_any (ops := [.ref s3.heap.objs.size, v]) ht hT hg (by with_unfolding_all rfl)
def cutV (xs : List V) (lo hi : Option Int) : List V := (xs.drop (HT.sIx xs.length 0 lo)).take (HT.sIx xs.length xs.length hi - HT.sIx xs.length 0 lo)
theorem cutV_length (xs : List V) (lo hi : Option Int) : (cutV xs lo hi).length ≤ xs.length := by
  unfold cutV
  rw [List.length_take, List.length_drop]
  omega
def rCatT (K : PySem.W.Frag) : R2 := fun x y H Q => ∃ a b xs ys, x = .ref a ∧ y = .ref b ∧ SqT K H a xs ∧ SqT K H b ys ∧ xs ≠ [] ∧ xs.length + ys.length ≤ sizeLine ∧
  (ys = [] → Q (.ref a) H) ∧ (ys ≠ [] → ∀ p, H p = none → Q (.ref p) (upd H p (.tup (xs ++ ys))))
theorem Vals.nil_iff {xs : List V} {us : List Value} (r : Vals xs us) : us = [] ↔ xs = [] := by
  cases r with
  | nil => simp
  | cons _ _ => simp
theorem op_catT : OpR X (binaryOp .Add) (rCatT X.K) := by
  intro pins s σ H x y v u Q I rx ry h
  obtain ⟨a, b, xs, ys, rfl, rfl, ha, hb, hx, hz, q1, q2⟩ := h
  cases rx
  cases ry
  obtain ⟨its, r1, p1, _⟩ := I.tuple ha
  obtain ⟨its2, r2, p2, _⟩ := I.tuple hb
  refine HT.cat_tup p1 p2 (fun z => hx (r1.nil_iff.mp z)) (fun z => ⟨.ref a, H, I, rfl, q1 (r2.nil_iff.mp z)⟩) (fun z => ?_) (by rw [← r1.length, ← r2.length]; exact hz)
  refine ⟨.ref s.heap.objs.size, _, I.laid (t' := s.toks) (o := .tup (xs ++ ys)) (fun b ob q => Heap.get?_push_of_some _ q) (Nat.le_refl _) ?_, rfl, q2 (fun w => z (r2.nil_iff.mpr w)) _ (I.hok.fresh (Nat.le_refl _))⟩
  exact ⟨by rw [List.length_append]; exact hz, _, r1.append r2, IsTup.new _ _⟩
end
end L2
namespace L2
open PySem PySem.Spec PyProof.Rows
def ixN (n : Nat) (i : Int) : Option Nat := if 0 ≤ i then (if i < n then some i.toNat else none) else if -(n : Int) ≤ i then some (i + n).toNat else none
def atI {α : Type} (xs : List α) (i : Int) : Option α := (ixN xs.length i).bind fun j => xs[j]?
theorem ixN_seq {n : Nat} {i : Int} {j : Nat} (h : ixN n i = some j) : seqIndex? i n = some j ∧ j < n ∧ -(n : Int) ≤ i ∧ i < n := by
  unfold ixN at h
  by_cases h0 : 0 ≤ i
  · rw [if_pos h0] at h
    by_cases h1 : i < n
    · rw [if_pos h1] at h
      have e : i.toNat = j := Option.some.inj h
      exact ⟨by rw [seqIndex_of h0 h1, e], by omega, by omega, h1⟩
    · rw [if_neg h1] at h; cases h
  · rw [if_neg h0] at h
    by_cases h1 : -(n : Int) ≤ i
    · rw [if_pos h1] at h
      have e : (i + n).toNat = j := Option.some.inj h
      exact ⟨by rw [seqIndex_neg (by omega) h1, e], by omega, h1, by omega⟩
    · rw [if_neg h1] at h; cases h
theorem atI_get {α : Type} {xs : List α} {i : Int} {v : α} (h : atI xs i = some v) : ∃ j, seqIndex? i xs.length = some j ∧ xs[j]? = some v ∧ j < xs.length ∧ -(xs.length : Int) ≤ i ∧ i < xs.length := by
  unfold atI at h
  cases e : ixN xs.length i with
  | none => rw [e] at h; cases h
  | some j =>
    rw [e] at h
    obtain ⟨h1, h2, h3, h4⟩ := ixN_seq e
    exact ⟨j, h1, h, h2, h3, h4⟩
theorem atI_nat {α : Type} {xs : List α} {j : Nat} {v : α} (h : xs[j]? = some v) : atI xs (j : Int) = some v := by
  have hj : j < xs.length := (List.getElem?_eq_some_iff.mp h).1
  have e : ixN xs.length (j : Int) = some j := by
    unfold ixN
    rw [if_pos (by omega), if_pos (by omega)]; simp
  unfold atI; rw [e]; exact h
def PlainIx (b : Expr) : Prop := ∀ o i, subscripted b false o i = operate [o, i] (getItem o i)
def IxR (X : Cx) (r : R2) : Prop :=
  ∀ (value slice : Expr) (pins : List (Addr × Obj)) (s : Shared) (σ : St) (H : Hp) (x y : V) (v u : Value) (Q : VK), Inv X pins σ H s → RelV x v → RelV y u → r x y H Q →
    subscripted slice false v u = operate [v, u] (getItem v u) → wpAny (model X.prog X.w) X.A (subscriptTail value slice v u) (EP X pins σ Q) X.xe s
def MtR (X : Cx) (id : String) (r : V → List V → Hp → VK → Prop) : Prop :=
  ∀ (pins : List (Addr × Obj)) (s : Shared) (σ : St) (H : Hp) (x : V) (xs : List V) (v : Value) (us : List Value) (Q : VK), Inv X pins σ H s → RelV x v → Vals xs us → r x xs H Q →
    wpAny (model X.prog X.w) X.A (call (.builtin id) (v :: us)) (EP X pins σ Q) X.xe s
section
variable {X : Cx} {a b : Expr} {ta tb : TE} {pos : Pos}
theorem pe_ix {r : R2} (hr : IxR X r) (ha : PE X a ta) (hb : PE X b tb) (hs : PlainIx b) : PE X (.Subscript a b pos) (tOp r ta tb) := by
  intro pins s σ H Q I h
  exact Subscript_ (binT ha hb I h fun v u s2 x y H2 I2 rx ry q => hr a b pins s2 σ H2 x y v u Q I2 rx ry q (hs _ _))
def rIxL (K : PySem.W.Frag) : R2 := fun x y H Q => ∃ p xs i v, x = .ref p ∧ y = .int i ∧ SqL K H p xs ∧ atI xs i = some v ∧ Q v H
def rIxT (K : PySem.W.Frag) : R2 := fun x y H Q => ∃ p xs i v, x = .ref p ∧ y = .int i ∧ SqT K H p xs ∧ atI xs i = some v ∧ Q v H
def rIxS : R2 := fun x y H Q => ∃ z i c, x = .str z ∧ y = .int i ∧ z.length ≤ sizeLine ∧ atI z.cps.toList i = some c ∧ Q (.str ⟨#[c]⟩) H
theorem ix_list : IxR X (rIxL X.K) := by
  intro value slice pins s σ H x y v u Q I rx ry h hs
  obtain ⟨p, xs, i, z, rfl, rfl, hq, he, q⟩ := h
  cases rx
  obtain ⟨t, rfl⟩ := ry
  obtain ⟨its, r, pl, hz⟩ := I.list hq
  obtain ⟨j, h1, h2, h3, h4, h5⟩ := atI_get he
  obtain ⟨w, ew, rw'⟩ := r.get h2
  have hl := r.length
  have hn := line63
  have fin : EP X pins σ Q w s := ⟨z, H, I, rw', q⟩
  by_cases h0 : 0 ≤ i
  · have hj : i.toNat = j := by
      rw [seqIndex_of h0 h5] at h1
      exact Option.some.inj h1
    exact item_listR pl.isList h0 (by omega) (by rw [hj]; simpa using ew) fin hs
  · have hj : (i + (its.toArray.size : Int)).toNat = j := by
      rw [seqIndex_neg (by omega) h4] at h1
      rw [List.size_toArray, ← hl]
      exact Option.some.inj h1
    exact subscriptTail_builtinR (x := w) pl.isList.typeIs slot_list_getitem.lookup
      (wpAny_getItem_list_neg (Q := fun r s' => r = w ∧ EP X pins σ Q r s') pl.isList (by omega) (by rw [List.size_toArray] <;> omega) (by omega) (by rw [hj]; simpa using ew) ⟨rfl, fin⟩) hs
theorem ix_tup : IxR X (rIxT X.K) := by
  intro value slice pins s σ H x y v u Q I rx ry h hs
  obtain ⟨p, xs, i, z, rfl, rfl, hq, he, q⟩ := h
  cases rx
  obtain ⟨t, rfl⟩ := ry
  obtain ⟨its, r, pl, hz⟩ := I.tuple hq
  obtain ⟨j, h1, h2, h3, h4, h5⟩ := atI_get he
  obtain ⟨w, ew, rw'⟩ := r.get h2
  have hl := r.length
  have hn := line63
  have fin : EP X pins σ Q w s := ⟨z, H, I, rw', q⟩
  exact subscriptTail_builtinR (x := w) pl.typeIs slot_tuple_getitem.lookup
    (getItem_tuple (j := j) (Q := fun r s' => r = w ∧ EP X pins σ Q r s') pl (by omega) (by omega) (by rw [List.size_toArray, ← hl]; exact h1) (by simpa using ew) ⟨rfl, fin⟩) hs
theorem ix_str : IxR X rIxS := by
  intro value slice pins s σ H x y v u Q I rx ry h hs
  obtain ⟨z, i, c, rfl, rfl, hz, he, q⟩ := h
  obtain ⟨t, rfl⟩ := rx
  obtain ⟨t', rfl⟩ := ry
  obtain ⟨j, h1, h2, h3, h4, h5⟩ := atI_get he
  have hl : z.cps.toList.length = z.length := by simp [Str.length]
  rw [hl] at h1 h4 h5
  have hn := line63
  exact tail_any (typeIs_str s z t) slot_str_getitem.lookup (getItem_str (c := c) (by
    have e1 : decide (i < -(2 ^ 63 : Int)) = false := decide_eq_false (by omega)
    have e2 : decide (i ≥ 2 ^ 63) = false := decide_eq_false (by omega)
    rw [e1, e2, Bool.or_false]) (by rw [h1]; simpa using h2) ⟨.str ⟨#[c]⟩, H, I.tok _, ⟨_, rfl⟩, q⟩) hs
theorem mapSeq_set (its : List Value) (n j : Nat) (u : Value) : Obj.mapSeq (·.setIfInBounds j u) { cls := .type "list", data := .seq its.toArray n } = { cls := .type "list", data := .seq (its.set j u).toArray n } := by
  simp [Obj.mapSeq]
theorem Inv.lst {pins : List (Addr × Obj)} {σ : St} {H : Hp} {s : Shared} {p : Addr} {xs : List V} (I : Inv X pins σ H s) (h : H p = some (.lst xs)) :
    ∃ (its : List Value) (n : Nat), Vals xs its ∧ s.heap.get? p = some { cls := .type "list", data := .seq its.toArray n } ∧ xs.length ≤ sizeLine := by
  obtain ⟨z, its, n, r, e⟩ := I.hok p _ h
  exact ⟨its, n, r, e, z⟩
theorem Inv.lstUpd {pins : List (Addr × Obj)} {σ : St} {H : Hp} {s : Shared} {p : Addr} {xs ys : List V} {its its' : List Value} {n n' : Nat} {f : Obj → Obj} (I : Inv X pins σ H s) (h : H p = some (.lst xs))
    (ho : s.heap.get? p = some { cls := .type "list", data := .seq its.toArray n }) (hf : f { cls := .type "list", data := .seq its.toArray n } = { cls := .type "list", data := .seq its'.toArray n' }) (r : Vals ys its') (hz : ys.length ≤ sizeLine) (t : Nat) :
    Inv X pins σ (upd H p (.lst ys)) { s with heap := s.heap.update p f, toks := t } := by
  have e : (s.heap.update p f).get? p = some { cls := .type "list", data := .seq its'.toArray n' } := by
    rw [Heap.get?_update_self f ho (by rw [hf] <;> rfl), hf]
  refine I.write (x := p) (e := p) (by rw [h]; trivial) (.inl rfl) (fun b u hb q => (Heap.get?_update_other _ _ (Ne.symm hb)).trans q) ⟨_, e⟩ ?_
  exact ⟨hz, its', n', r, e⟩
def rSetL : V → V → V → Hp → (Hp → Prop) → Prop := fun o i v H Q => ∃ p xs k j, o = .ref p ∧ i = .int k ∧ H p = some (.lst xs) ∧ ixN xs.length k = some j ∧ Q (upd H p (.lst (xs.set j v)))
theorem set_list : PSet X rSetL := by
  intro pins s σ H o i v ov iv u Q I ro ri rv h
  obtain ⟨p, xs, k, j, rfl, rfl, hp, hj, q⟩ := h
  cases ro
  obtain ⟨t, rfl⟩ := ri
  obtain ⟨its, n, r, ho, hz⟩ := I.lst hp
  obtain ⟨h1, h2, h3, h4⟩ := ixN_seq hj
  have hl := r.length
  have hn := line63
  have I' : Inv X pins σ (upd H p (.lst (xs.set j v))) { s with heap := s.heap.update p (Obj.mapSeq (·.setIfInBounds j u)) } :=
    I.lstUpd hp ho (mapSeq_set its n j u) (r.set rv j) (by rw [List.length_set]; exact hz) s.toks
  by_cases h0 : 0 ≤ k
  · have hk : k.toNat = j := by
      rw [seqIndex_of h0 h4] at h1
      exact Option.some.inj h1
    exact PySem.W.ki_setAt ho h0 (by omega) (by rw [List.size_toArray, ← hl]; exact h4) (by rw [hk]; exact ⟨_, I', q⟩)
  · have hk : (k + (its.toArray.size : Int)).toNat = j := by
      rw [seqIndex_neg (by omega) h3] at h1
      rw [List.size_toArray, ← hl]
      exact Option.some.inj h1
    exact PySem.W.ki_setBack ho (by omega) (by rw [List.size_toArray, ← hl]; exact h3) (by omega) (by rw [hk]; exact ⟨_, I', q⟩)
theorem slice_bounds (lo hi : Option Int) (n : Nat) : (sliceBounds lo hi none n).1 = ((HT.sIx n 0 lo : Nat) : Int) ∧ (sliceBounds lo hi none n).2.1 = ((HT.sIx n n hi : Nat) : Int) ∧ (sliceBounds lo hi none n).2.2 = 1 := by
  refine ⟨?_, ?_, rfl⟩
  · cases lo with
    | none => simp [sliceBounds, HT.sIx]
    | some i =>
      simp only [sliceBounds, HT.sIx, Option.getD_none, show (1 : Int) > 0 by decide, if_true]
      by_cases h : i < 0
      · simp only [h, if_true] <;> omega
      · simp only [h, if_false] <;> omega
  · cases hi with
    | none => simp [sliceBounds, HT.sIx]
    | some i =>
      simp only [sliceBounds, HT.sIx, Option.getD_none, show (1 : Int) > 0 by decide, if_true]
      by_cases h : i < 0
      · simp only [h, if_true] <;> omega
      · simp only [h, if_false] <;> omega
theorem slicePick_cut (its : List Value) (lo hi : Option Int) : slicePick its.toArray lo hi none = ((its.drop (HT.sIx its.length 0 lo)).take (HT.sIx its.length its.length hi - HT.sIx its.length 0 lo)).toArray := by
  obtain ⟨h1, h2, h3⟩ := slice_bounds lo hi its.toArray.size
  unfold slicePick
  rw [h1, h2, h3]
  simp only [sliceRange_one, pick_run, List.size_toArray] <;> rfl
def rSlL (K : PySem.W.Frag) : V → Option Int → Option Int → Hp → VK → Prop := fun x lo hi H Q => ∃ a xs, x = .ref a ∧ SqL K H a xs ∧ ∀ p, H p = none → Q (.ref p) (upd H p (.lst (cutV xs lo hi)))
theorem sl_list : SlR X (rSlL X.K) := by
  intro pins s σ H x v vl vu lo hi sl Q I rx hs pl pu h
  obtain ⟨a, xs, rfl, hx, q⟩ := h
  cases rx
  obtain ⟨its, r, ht, hz⟩ := I.list hx
  have hlen := r.length
  refine ⟨"list", _, slot_list_getitem.lookup, ht.isList.typeIs, ?_⟩
  refine wpAny_getItem_list_slice ht.isList hs pl pu .none (by simp) ?_ (by rw [List.size_toArray] <;> omega)
  rw [slicePick_cut, ← hlen]
  refine ⟨.ref s.heap.objs.size, _, I.laid (t' := s.toks) (o := .lst (cutV xs lo hi)) (fun b ob q => Heap.get?_push_of_some _ q) (Nat.le_refl _) ?_, rfl, q _ (I.hok.fresh (Nat.le_refl _))⟩
  exact ⟨Nat.le_trans (cutV_length xs lo hi) hz, _, 0, (r.drop (HT.sIx xs.length 0 lo)).take (HT.sIx xs.length xs.length hi - HT.sIx xs.length 0 lo), Heap.get?_push_size _ rfl⟩
theorem call_len_str : CallR X (.builtin "len") (fun xs H Q => ∃ z, xs = [.str z] ∧ z.length ≤ sizeLine ∧ Q (.int z.length) H) := by
  intro pins s σ H xs us Q I r h
  obtain ⟨z, rfl, hz, q⟩ := h
  obtain ⟨u, rfl, t, rfl⟩ := vals1 r
  have hn := line63
  exact len_str (by omega) ⟨.int z.length, H, I.tok _, ⟨_, rfl⟩, q⟩
theorem call_list_of : CallR X (.type "list") (fun xs H Q => ∃ p ys, xs = [.ref p] ∧ (SqL X.K H p ys ∨ SqT X.K H p ys) ∧ ∀ l, H l = none → Q (.ref l) (upd H l (.lst ys))) := by
  intro pins s σ H xs us Q I r h
  obtain ⟨p, ys, rfl, hq, q⟩ := h
  obtain ⟨u, rfl, rx⟩ := vals1 r
  cases rx
  have fin : ∀ (its : List Value), Vals ys its → ys.length ≤ sizeLine → ∀ (h' : Heap) (c' : Nat), (∀ b o', s.heap.get? b = some o' → h'.get? b = some o') →
      h'.get? s.heap.objs.size = some { cls := .type "list", dict := none, data := .seq its.toArray c', slots := #[] } → EP X pins σ Q (.ref s.heap.objs.size) { s with heap := h' } := fun its r' hz h' c' kp e =>
    ⟨.ref s.heap.objs.size, _, I.laid (t' := s.toks) kp (Nat.le_refl _) (show ObjOk X.prog X.w _ h' _ (.lst ys) from ⟨hz, its, c', r', e⟩), rfl, q _ (I.hok.fresh (Nat.le_refl _))⟩
  rcases hq with hq | hq
  · obtain ⟨its, r', pl, hz⟩ := I.list hq
    have hlen := r'.length
    obtain ⟨o, ho, hc, n, hd⟩ := pl.isList
    exact call_list_seq p (.inl rfl) ho hc hd (fun h' c' kp e => fin its r' hz h' c' kp e) (by simp only [List.size_toArray] <;> omega)
  · obtain ⟨its, r', pl, hz⟩ := I.tuple hq
    have hlen := r'.length
    obtain ⟨o, ho, hc, n, hd⟩ := pl
    exact call_list_seq p (.inr rfl) ho hc hd (fun h' c' kp e => fin its r' hz h' c' kp e) (by simp only [List.size_toArray] <;> omega)
theorem call_tuple_of : CallR X (.type "tuple") (fun xs H Q => ∃ p ys, xs = [.ref p] ∧ ((SqL X.K H p ys ∧ ∀ l, H l = none → Q (.ref l) (upd H l (.tup ys))) ∨ (SqT X.K H p ys ∧ Q (.ref p) H))) := by
  intro pins s σ H xs us Q I r h
  obtain ⟨p, ys, rfl, h⟩ := h
  obtain ⟨u, rfl, rx⟩ := vals1 r
  cases rx
  rcases h with ⟨hq, q⟩ | ⟨hq, q⟩
  · obtain ⟨its, r', pl, hz⟩ := I.list hq
    have hlen := r'.length
    refine call_tuple_list pl.isList (fun h' kp => ?_) (by simp only [List.size_toArray] <;> omega)
    have I1 : Inv X pins σ H { s with heap := h' } := I.kept (t' := s.toks) kp
    have I2 : Inv X pins σ (upd H h'.objs.size (.tup ys)) { s with heap := h'.push { cls := .type "tuple", data := .seq its.toArray } } :=
      I1.laid (t' := s.toks) (fun b o e => Heap.get?_push_of_some _ e) (Nat.le_refl _) (show ObjOk X.prog X.w _ _ _ (.tup ys) from ⟨hz, its, r', IsTup.new _ _⟩)
    exact ⟨.ref h'.objs.size, _, I2, rfl, q _ (I1.hok.fresh (Nat.le_refl _))⟩
  · obtain ⟨its, r', pl, hz⟩ := I.tuple hq
    exact call_tuple_same pl ⟨.ref p, H, I, rfl, q⟩
def tyV (K : PySem.W.Frag) (T : String) (x : V) (H : Hp) : Prop := match x with
  | .str _ => T = "str"
  | .int _ => T = "int"
  | .ref p => (T = "list" ∧ ∃ xs, SqL K H p xs) ∨ (T = "tuple" ∧ ∃ o, K.lookup p = some o ∧ o.cls = .type "tuple" ∧ o.dict = none) ∨
      (T = "dict" ∧ ((∃ kvs, H p = some (.dK kvs)) ∨ ∃ kvs, H p = some (.dT kvs))) ∨ (T = "set" ∧ ∃ S n, H p = some (.set S n))
  | _ => False
theorem tyV_is {pins : List (Addr × Obj)} {σ : St} {H : Hp} {s : Shared} {T : String} {x : V} {v : Value} (I : Inv X pins σ H s) (r : RelV x v) (ty : tyV X.K T x H) :
    s.TypeIs v T ∧ ∀ a, v = .ref a → ∃ ob, s.heap.get? a = some ob ∧ ob.dict = none := by
  cases x with
  | str z =>
    obtain ⟨t, rfl⟩ := r
    cases (show T = "str" from ty)
    exact ⟨typeIs_str s z t, fun _ e => nomatch e⟩
  | int i =>
    obtain ⟨t, rfl⟩ := r
    cases (show T = "int" from ty)
    exact ⟨typeIs_int s i t, fun _ e => nomatch e⟩
  | ref p =>
    cases r
    rcases ty with ⟨rfl, xs, hq⟩ | ⟨rfl, o, hk, hc, hd⟩ | ⟨rfl, hk⟩ | ⟨rfl, S, n, hk⟩
    · obtain ⟨its, _, pl, _⟩ := I.list hq
      refine ⟨pl.isList.typeIs, fun a e => ?_⟩
      cases e
      obtain ⟨o, n, e, c, hd, _⟩ := pl
      exact ⟨o, e, hd⟩
    · refine ⟨⟨o, I.kIn p o hk, hc⟩, fun a e => ?_⟩
      cases e
      exact ⟨o, I.kIn _ o hk, hd⟩
    · have z : ∃ o, s.heap.get? p = some o ∧ o.ExactDict := by
        rcases hk with ⟨kvs, hk⟩ | ⟨kvs, hk⟩
        · obtain ⟨_, _, _, _, o, _, _, e, ex, _⟩ := I.hok p _ hk
          exact ⟨o, e, ex⟩
        · obtain ⟨_, _, _, _, o, _, _, e, ex, _⟩ := I.hok p _ hk
          exact ⟨o, e, ex⟩
      obtain ⟨o, e, ex⟩ := z
      refine ⟨⟨o, e, ex.1⟩, fun a e2 => ?_⟩
      cases e2
      exact ⟨o, e, ex.2.1⟩
    · obtain ⟨o, _, _, _, e, ex, _⟩ := I.hok p _ hk
      refine ⟨⟨o, e, ex.1⟩, fun a e2 => ?_⟩
      cases e2
      exact ⟨o, e, ex.2.1⟩
  | _ => exact False.elim ty
def tBM0 (K : PySem.W.Frag) (T : String) (r : V → List V → Hp → VK → Prop) (to : TE) : TE := fun σ H Q => to σ H fun x H1 => tyV K T x H1 ∧ r x [] H1 Q
def tBM (K : PySem.W.Frag) (T : String) (r : V → List V → Hp → VK → Prop) (to : TE) (t : TA) : TE := fun σ H Q => to σ H fun x H1 => tyV K T x H1 ∧ t σ H1 fun xs H2 => r x xs H2 Q
variable {o e : Expr} {es : List Expr} {to : TE} {t : TA} {name : Str} {apos cpos : Pos} {T id : String} {r : V → List V → Hp → VK → Prop}
theorem pe_bm0 (pa : PlainAttrs T) (slot : Slot T name id) (hty : typeOf (.builtin id) = pure (.type "method_descriptor")) (hm : MtR X id r) (ho : PE X o to)
    (hbase : attributeBase o name X.env (eval o X.env) = eval o X.env := by rfl) (hline : (apos.endLine == cpos.line) = true := by rfl) : PE X (.Call (.Attribute o name apos) [] [] cpos) (tBM0 X.K T r to) := by
  intro pins s σ H Q I h
  refine wpAny_Call_method0_late hbase hline (thn (ho pins s σ H _ I h) fun v s1 ⟨x, H1, I1, r1, ty, q1⟩ => ?_)
  obtain ⟨h1, h2⟩ := tyV_is I1 r1 ty
  exact ⟨T, id, pa, slot, hty, h1, h2, Calls.callWith_builtin rfl (PySem.evalArgs_none (hm pins s1 σ H1 x [] v [] Q I1 r1 .nil q1))⟩
theorem pe_bm (pa : PlainAttrs T) (slot : Slot T name id) (hty : typeOf (.builtin id) = pure (.type "method_descriptor")) (hm : MtR X id r) (ho : PE X o to) (ha : PA X (e :: es) t)
    (hbase : attributeBase o name X.env (eval o X.env) = eval o X.env := by rfl)
    (hfew : ((backTo cpos (starEach (e :: es) X.env)).all (fun x => !x.1) && (backToKw cpos (keywordEach [] X.env)).all (fun x => x.1.isSome)
      && decide ((e :: es).length + ([] : List Keyword).length + (if ([] : List Keyword).isEmpty then 0 else 1) < 30)) = true := by rfl)
    (hline : (apos.endLine == cpos.line) = true := by rfl) (hs : starEach (e :: es) X.env = (false, eval e X.env) :: starEach es X.env := by rfl) (hplain : (backTo cpos (starEach es X.env)).any (·.1) = false := by rfl) :
    PE X (.Call (.Attribute o name apos) (e :: es) [] cpos) (tBM X.K T r to t) := by
  intro pins s σ H Q I h
  refine wpAny_Call_method_late hbase hfew hline rfl (thn (ho pins s σ H _ I h) fun v s1 ⟨x, H1, I1, r1, ty, q1⟩ => ?_)
  obtain ⟨h1, h2⟩ := tyV_is I1 r1 ty
  refine ⟨T, id, pa, slot, hty, h1, h2, ?_⟩
  have hA := ha cpos pins s1 σ H1 _ I1 q1
  rw [hs] at hA ⊢
  refine Calls.callWith_builtin (by show (false || (backTo cpos (starEach es X.env)).any (·.1)) = false; rw [hplain] <;> rfl) (Calls.evalArgs_plain ?_)
  exact thn hA fun us s2 ⟨vs, H2, I2, r2, q2⟩ => hm pins s2 σ H2 x vs v us Q I2 r1 r2 q2
end
end L2
namespace L2
open PySem PySem.Spec PyProof.Rows
def MtM (X : Cx) (id : String) (r : V → List V → Hp → VK → Prop) : Prop :=
  ∀ (pins : List (Addr × Obj)) (s : Shared) (σ : St) (H : Hp) (x : V) (xs : List V) (v : Value) (us : List Value) (Q : VK), Inv X pins σ H s → RelV x v → Vals xs us → r x xs H Q →
    wpAny (model X.prog X.w) X.A (call (.builtin id) (v :: us)) (EP X pins σ Q) X.xe s
theorem Vals.one : ∀ {x : V} {us : List Value}, Vals [x] us → ∃ u, us = [u] ∧ RelV x u
  | _, _, .cons r .nil => ⟨_, rfl, r⟩
theorem Vals.zero : ∀ {us : List Value}, Vals [] us → us = []
  | _, .nil => rfl
section
variable {X : Cx} {pins : List (Addr × Obj)} {σ : St} {H : Hp} {s : Shared} {l b : Addr} {xs ys zs : List V}
theorem Inv.lset {its its' : List Value} {n : Nat} {f : Array Value → Array Value} {t' : Nat} (I : Inv X pins σ H s) (hH : H l = some (.lst xs))
    (e : s.heap.get? l = some { cls := .type "list", data := .seq its.toArray n }) (hf : f its.toArray = its'.toArray) (hv : Vals ys its') (hz : ys.length ≤ sizeLine) :
    Inv X pins σ (upd H l (.lst ys)) { s with heap := s.heap.update l (Obj.mapSeq f), toks := t' } := by
  have q := PySem.IsL.update e f
  rw [hf] at q
  refine I.write (x := l) (e := l) (by rw [hH]; exact trivial) (.inl rfl) (fun b' u hb hu => (Heap.get?_update_other s.heap (Obj.mapSeq f) (Ne.symm hb)).trans hu) ⟨_, q⟩ ?_
  exact ⟨hz, its', _, hv, q⟩
theorem Inv.lnew {its : List Value} {t' : Nat} (I : Inv X pins σ H s) (hv : Vals ys its) (hz : ys.length ≤ sizeLine) :
    Inv X pins σ (upd H s.heap.objs.size (.lst ys)) { s with heap := s.heap.push { cls := .type "list", data := .seq its.toArray }, toks := t' } :=
  I.laid (fun _ _ q => Heap.get?_push_of_some _ q) (Nat.le_refl _) ⟨hz, its, 0, hv, Heap.get?_push_size _ rfl⟩
theorem Inv.fresh (I : Inv X pins σ H s) : H s.heap.objs.size = none := I.hok.fresh (Nat.le_refl _)
theorem Inv.lstM (I : Inv X pins σ H s) (hH : H l = some (.lst xs)) : xs.length ≤ sizeLine ∧ ∃ (its : List Value) (n : Nat), Vals xs its ∧ xs.length = its.length ∧ s.heap.get? l = some { cls := .type "list", data := .seq its.toArray n } := by
  obtain ⟨z, its, n, r, e⟩ := I.hok l _ hH
  exact ⟨z, its, n, r, r.length, e⟩
end
section
variable {X : Cx}
def rAppend : V → List V → Hp → VK → Prop := fun x vs H Q => ∃ l xs y, x = .ref l ∧ vs = [y] ∧ H l = some (.lst xs) ∧ xs.length < sizeLine ∧ Q .non (upd H l (.lst (xs ++ [y])))
theorem mt_append : MtM X "list.append" rAppend := by
  intro pins s σ H x vs v us Q I rx rv h
  obtain ⟨l, xs, y, rfl, rfl, hH, hz, q⟩ := h
  cases rx
  obtain ⟨u, rfl, ru⟩ := rv.one
  obtain ⟨z, its, n, r, hl, e⟩ := I.lstM hH
  refine call_meets F.slot_list_append ⟨_, e, rfl⟩ F.entry_list_append (F.args_list_append_2 _ _) (PySem.list_append l its.toArray n u (by rw [List.size_toArray]; omega)) ⟨e, ?_⟩
  refine ⟨.non, _, I.lset (its' := its ++ [u]) hH e (by simp) (r.append (.cons ru .nil)) ?_, rfl, q⟩
  rw [List.length_append, List.length_singleton]
  omega
def rClear : V → List V → Hp → VK → Prop := fun x vs H Q => ∃ l xs, x = .ref l ∧ vs = [] ∧ H l = some (.lst xs) ∧ Q .non (upd H l (.lst []))
theorem mt_clear : MtM X "list.clear" rClear := by
  intro pins s σ H x vs v us Q I rx rv h
  obtain ⟨l, xs, rfl, rfl, hH, q⟩ := h
  cases rx
  have hus := rv.zero
  subst hus
  obtain ⟨z, its, n, r, hl, e⟩ := I.lstM hH
  refine call_meets F.slot_list_clear ⟨_, e, rfl⟩ F.entry_list_clear (F.args_list_clear_1 _) (AutoSeq1.list_clear_list_0 l its.toArray n (by rw [List.size_toArray]; omega)) ⟨e, ?_⟩
  exact ⟨.non, _, I.lset (its' := []) (ys := []) hH e rfl .nil (Nat.zero_le _), rfl, q⟩
def rCat : R2 := fun x y H Q => ∃ l b xs zs, x = .ref l ∧ y = .ref b ∧ H l = some (.lst xs) ∧ H b = some (.lst zs) ∧ xs.length + zs.length ≤ sizeLine ∧ ∀ p, H p = none → Q (.ref p) (upd H p (.lst (xs ++ zs)))
theorem op_cat : OpR X (binaryOp .Add) rCat := by
  intro pins s σ H x y v u Q I rx ry h
  obtain ⟨l, b, xs, zs, rfl, rfl, hH, hB, hz, q⟩ := h
  cases rx
  cases ry
  obtain ⟨z, its, n, r, hl, e⟩ := I.lstM hH
  obtain ⟨z2, its2, n2, r2, hl2, e2⟩ := I.lstM hB
  refine PySem.P.add_list e e2 ?_ (by rw [List.size_toArray, List.size_toArray]; omega)
  have ea : its.toArray ++ its2.toArray = (its ++ its2).toArray := by simp
  rw [ea]
  exact ⟨.ref _, _, I.lnew (t' := s.toks) (r.append r2) (by rw [List.length_append]; omega), rfl, q _ I.fresh⟩
end
section
variable {prog : Program} {w : World} {A : Around} {E : Value → Shared → Prop} {s : Shared}
end
section
variable {X : Cx}
end
end L2
namespace L2
open PySem PySem.Spec PyProof.Rows
section
variable {κ : Type} [DecidableEq κ]
end
section
variable {P : Program} {w : World} {H : Hp} {h : Heap} {a : Addr}
end
section
variable {X : Cx} {pins : List (Addr × Obj)} {σ : St} {H : Hp} {s : Shared} {a : Addr} {y v : V} {u r : Value} {o : Option V} {A : Around} {E : Value → Shared → Prop}
end
section
variable {X : Cx} {pins : List (Addr × Obj)} {σ : St} {H : Hp} {s : Shared} {a : Addr} {kvs : List (Key × V)} {k : Key} {u : Value} {A : Around} {E : Value → Shared → Prop}
end
section
variable {X : Cx} {o i e value : Expr} {pos pos' tpos : Pos} {td ty tv : TE}
end
section
variable {X : Cx} {pos : Pos}
end
section
variable {X : Cx} {pins : List (Addr × Obj)} {σ : St} {H : Hp} {s : Shared} {a : Addr} {y d : V} {u r : Value} {o : Option V} {A : Around} {E : Value → Shared → Prop}
end
section
variable {X : Cx} {o e f : Expr} {apos cpos : Pos} {td ty tx : TE}
end
section
variable {X : Cx} {pins : List (Addr × Obj)} {σ : St} {H : Hp} {s : Shared} {a : Addr} {kvs : List (Key × V)} {A : Around} {E : Value → Shared → Prop}
end
section
variable {X : Cx} {pins : List (Addr × Obj)} {σ : St} {H : Hp} {s : Shared} {a : Addr} {y : V} {u : Value} {A : Around} {E : Value → Shared → Prop}
end
end L2
namespace Att
open PySem PySem.W PySem.Calls PyProof.Rows
theorem ints_of_wellAll {P : Params} {h : Heap} : ∀ (ns : List Int) (vs : List Value), WellAll P h vs (ns.map WData.int) → IntsAre vs ns := by
  intro ns
  induction ns with
  | nil =>
    intro vs w
    rw [List.map_nil] at w
    cases w
    exact .nil
  | cons n ns ih =>
    intro vs w
    rw [List.map_cons] at w
    cases w with
    | cons a b =>
      cases a
      exact .cons _ _ (ih _ b)
theorem script_of {l : OpenLaw} {n : Nat} (hn : l.most = some n) {P : Params} {h : Heap} {args : List WData} {vals : List Value}
    (hpre : l.row.toRowW.claim.pre args = true) (hwl : WellAll P h vals args) :
    ∃ a vs ns, vals = [Value.ref a] ∧ args = [WData.list (ns.map WData.int)] ∧ h.get? a = some { cls := .type "list", data := .seq vs.toArray } ∧ IntsAre vs ns ∧ ns.length ≤ n := by
  have hsh : WShape.hasAll [] args [.list .int] = true := (pre_splitW hpre).1
  have hc : l.pre.holds [] { args := args } = true := (pre_splitW hpre).2
  obtain ⟨d, r, rfl, h1, h2⟩ := hasAllW_cons hsh
  obtain rfl := hasAllW_nil h2
  obtain ⟨xs, rfl, h3⟩ := hasW_list h1
  obtain ⟨ns, rfl⟩ := items_int h3
  have hlen : ns.length ≤ n := by
    unfold OpenLaw.pre at hc
    have h4 : (WTm.not (.lt (.lit (.int (n : Int))) (.len (.arg 0)))).holds [] { args := [.list (ns.map .int)] } = true := by
      have h4 := (holds_andW hc).1
      rw [hn] at h4
      exact h4
    have h5 := condW_of h4 (w_not (w_lt w_lit (w_len_list (w_arg rfl))))
    rw [List.length_map] at h5
    refine Nat.le_of_not_lt fun q => ?_
    have q' : (n : Int) < ((ns.length : Nat) : Int) := by omega
    first
      | (rw [decide_eq_true q'] at h5; exact absurd h5 (by decide))
      | (simp at h5; omega)
  cases hwl with
  | cons w1 w2 =>
    cases w2
    cases w1 with
    | list ho hall => exact ⟨_, _, ns, rfl, rfl, ho, ints_of_wellAll ns _ hall, hlen⟩
theorem post_true (l : OpenLaw) (args : List WData) : l.row.toRowW.claim.post args (.bool true) args = true :=
  postW_of (r := l.row.toRowW) (X := (true == true))
    (show WShape.has [] (.bool true) .bool = true by first | rfl | decide | simp [WShape.has, WShape.arms, WShape.armsAll])
    (show (WTm.eq .res (.lit (.bool true))).value [] { args := args, res := some (.bool true), after := args } = some (.bool (true == true)) from w_eq_bool (w_res rfl) w_lit) rfl
theorem attach_call {l : OpenLaw} {n : Nat} {q : Program} {loose : List Str} {XP : (Str → Option Value) → Heap → Prop} {YP : World → Heap → Prop} {d : DefRec}
    (hn : l.most = some n) (hdf : d.params.defaults = [])
    (call : ∀ (w : World) (s₀ s₁ : Shared) (mg mb : Str → Option Value) (fa : Addr) (o : Obj) (pm cd doc : Value) (a : Addr) (vs : List Value) (ns : List Int),
      Ground q loose [] XP w s₀ mg mb s₁.heap → YP w s₁.heap →
      s₁.heap.get? fa = some o → o.data = .func (docDef d.name d.params d.body d.scope pm cd doc) → s₁.heap.CodeRec cd d.name → mg d.name = some (.ref fa) →
      s₁.heap.get? a = some { cls := .type "list", data := .seq vs.toArray } → IntsAre vs ns → ns.length ≤ n → s₁.gens = #[] →
      codeAny (model l.prog w) callerA (.call (.ref fa) ⟨[.ref a], []⟩) (fun r s' => r = .ok (.ret (.bool true)) ∧ OldK s₁.heap s'.heap ∧ s'.os = s₁.os ∧ AllBare s'.gens) s₁) :
    WalkO q loose XP YP l.row.toRowW d [] (fun f vs => PySem.call f vs) := by
  intro w s₀ s₁ mg mb G Y fa o pm cd doc dV kV ho hd hcd hD hmg hg args vals as hpre hlay hrd hwl hlo
  obtain rfl : dV = .none := Dflts.none hD hdf
  obtain rfl : kV = .none := Dflts.noKw hD
  obtain ⟨a, vs, ns, rfl, rfl, hobj, hints, hlen⟩ := script_of hn hpre hwl
  refine enter_call (codeAny_mono (call w s₀ s₁ mg mb fa o pm cd doc a vs ns G Y ho (fd_plain hd) hcd hmg hobj hints hlen hg) fun r s' hq => ?_)
  obtain ⟨rfl, h2, h3, h4⟩ := hq
  exact ⟨.inl ⟨.bool true, .bool true, [], rfl, fun _ => rfl, .bool true, post_true l _, fun _ => ⟨List.Pairwise.nil, fun _ hm => (nomatch hm)⟩⟩, h2, h3, h4⟩
section
variable {prog : Program} {w : World} {A : Around} {E : Value → Shared → Prop} {s : Shared} {K : Frag}
end
end Att
namespace L2
open PySem PySem.Spec PyProof.Rows
theorem vals_ints : ∀ {vs : List Value} {ns : List Int}, IntsAre vs ns → Vals (ns.map V.int) vs
  | _, _, .nil => .nil
  | _, _, .cons n t h => .cons ⟨t, rfl⟩ (vals_ints h)
def Only (H : Hp) : Prop := ∀ b, H b = none ∨ ∃ o xs, H b = some (.frz o (.lst xs))
theorem law_call {P : Program} {w : World} {K : PySem.W.Frag} {mg mb : Str → Option Value} {CX : CXT} {k : Nat} {fa a : Addr} {fd : FuncData} {x : Str} {sp : Sp} {s₁ : Shared} {vs : List Value} {ns : List Int}
    (KX : K.In s₁.heap) (hns : s₁.heap.Ns mainGlobals mg) (hb : s₁.heap.Ns builtinsNs mb) (hbb : ∀ x : Str, x ≠ "__name__" → mb x = bootBuiltins x) (hlim : s₁.heap.NoLimit) (hg : s₁.gens = #[])
    (ha : s₁.heap.get? a = some { cls := .type "list", data := .seq vs.toArray }) (hi : IntsAre vs ns) (hl : ns.length ≤ sizeLine) (hr : Room k callerA)
    (F : ∀ base : Heap, K.In base → base.Ns mainGlobals mg → FnOk P w K mg base CX k fa fd [x] sp) (hbind : ∀ (s : Shared) (u : Value), BindsTo s fd ⟨[u], []⟩ [(x, u)])
    (hsp : ∀ H : Hp, Only H → SqL K H a (ns.map V.int) → sp [.ref a] H (fun v _ => v = .bl true) fun _ _ _ => False)
    (hCX : ∀ H e s', CX [] H s₁ (fun _ _ _ => False) e s' → False) :
    codeAny (model P w) callerA (.call (.ref fa) ⟨[.ref a], []⟩) (fun r s' => r = .ok (.ret (.bool true)) ∧ OldK s₁.heap s'.heap ∧ s'.os = s₁.os ∧ AllBare s'.gens) s₁ := by
  have rv := vals_ints hi
  have lenV := hi.length
  have core : ∀ H : Hp, Only H → SqL K H a (ns.map V.int) → HOk P w H s₁.heap → (∀ b, H b ≠ none → b = a) → (H a ≠ none → K.lookup a = none) →
      codeAny (model P w) callerA (.call (.ref fa) ⟨[.ref a], []⟩) (fun r s' => r = .ok (.ret (.bool true)) ∧ OldK s₁.heap s'.heap ∧ s'.os = s₁.os ∧ AllBare s'.gens) s₁ := by
    intro H hO hS hok hA hK
    have base_of : ∀ {b : Addr} {o : Obj}, s₁.heap.get? b = some o → H b = none → (hidT s₁.heap H).get? b = some o := fun e n => hidT_get e n
    have noA : ∀ {b : Addr} {o : Obj} {es : Array DictEntry} {ep : Nat}, s₁.heap.get? b = some o → o.data = .dict es ep → H b = none := fun {b o es ep} e d => by
      cases q : H b with
      | none => rfl
      | some u =>
        have e' : b = a := hA b (by rw [q]; simp)
        subst e'
        rw [ha] at e; cases e
        have d' : Data.seq vs.toArray _ = Data.dict es ep := d
        cases d'
    have nsK : ∀ {b : Addr} {m : Str → Option Value}, s₁.heap.Ns b m → (hidT s₁.heap H).Ns b m := fun {b m} ⟨o, es, ep, e, d, r⟩ => ⟨o, es, ep, base_of e (noA e d), d, r⟩
    have hKb : K.In (hidT s₁.heap H) := fun b o e => base_of (KX b o e) (by
      cases q : H b with
      | none => rfl
      | some u =>
        have e' : b = a := hA b (by rw [q]; simp)
        subst e'
        rw [hK (by rw [q]; simp)] at e; cases e)
    have hM : Mod K mg (hidT s₁.heap H) := ⟨hKb, nsK hns, ⟨mb, nsK hb, hbb⟩, let ⟨mc, h1, h2⟩ := hlim; ⟨mc, nsK h1, h2⟩⟩
    have e0 : Env0 P w K mg (hidT s₁.heap H) callerA [] s₁ H := ⟨rfl, hM, fun b o e => of_hidT e, Nat.le_of_eq (hidT_size _ _), trivial, fun b hb => absurd (show b ∈ ([] : List Addr) from hb) (by simp), hok, .of_eq hg⟩
    refine codeAny_mono ((F _ hKb (nsK hns)).run callerA [] s₁ H ⟨[.ref a], []⟩ [.ref a] [.ref a] _ _ hr e0 (hbind s₁ (.ref a)) (.cons rfl .nil) (hsp H hO hS)) fun r s' h => ?_
    cases r with
    | error e => exact (hCX H e s' h).elim
    | ok fl =>
      cases fl with
      | next => exact False.elim h
      | brk => exact False.elim h
      | cont => exact False.elim h
      | ret u =>
        obtain ⟨v, H', os, bare, un, hok', r', q⟩ := h
        have q' : v = .bl true := q
        subst q'
        obtain rfl : u = Value.bool true := r'
        refine ⟨rfl, OldK.of_keep fun b o e => ?_, os, bare⟩
        cases q : H b with
        | none => exact un.keep b o e q (by intro z; exact absurd (show b ∈ ([] : List Addr) from z) (by simp)) (by simp)
        | some u =>
          rcases hO b with z | ⟨ob, xs, z⟩
          · rw [q] at z; cases z
          · have z2 := un.frzs b ob _ z
            obtain ⟨e1, _⟩ := hok b _ z
            obtain ⟨e2, _⟩ := hok' b _ z2
            rw [e] at e1; cases e1
            exact e2
  cases hk : K.lookup a with
  | some o =>
    have e := KX a o hk
    rw [ha] at e
    cases e
    refine core (fun _ => none) (fun _ => .inl rfl) (.inr ⟨_, vs.toArray, _, hk, rfl, rfl, rfl, by rw [List.size_toArray, lenV]; exact hl, by simpa using rv⟩) (fun b u z => by have z' : (none : Option HO) = some u := z; cases z') (fun b z => absurd rfl z) fun z => absurd rfl z
  | none =>
    refine core (fun b => if b = a then some (.frz { cls := .type "list", data := .seq vs.toArray } (.lst (ns.map V.int))) else none) (fun b => ?_) (.inl (.inr ⟨{ cls := .type "list", data := .seq vs.toArray }, if_pos rfl⟩)) (fun b u z => ?_) (fun b z => ?_) fun _ => hk
    · by_cases hb : b = a
      · exact .inr ⟨_, _, if_pos hb⟩
      · exact .inl (if_neg hb)
    · by_cases hb : b = a
      · have z' := (if_pos hb).symm.trans z
        cases z'
        subst hb
        exact ⟨ha, by rw [List.length_map]; exact hl, vs, _, rv, ha⟩
      · have z' := (if_neg hb).symm.trans z
        cases z'
    · by_cases hb : b = a
      · exact hb
      · exact absurd (if_neg hb) z
end L2
namespace L2
open PySem PySem.Spec PyProof.Rows
theorem walk_of {l : PySem.W.OpenLaw} {n k : Nat} {q : Program} {loose : List Str} {XP : (Str → Option Value) → Heap → Prop} {YP : World → Heap → Prop} {d : DefRec} {K : Params → PySem.W.Frag} {CX : World → CXT} {sp : World → Sp} {x : Str}
    (hn : l.most = some n) (hn2 : n ≤ sizeLine) (hdf : d.params.defaults = []) (hr : Room k callerA)
    (hY : ∀ (w : World) (h : Heap), YP w h → (K w.params).In h)
    (F : ∀ (w : World) (mg : Str → Option Value) (fa : Addr) (h : Heap), (K w.params).In h → h.Ns mainGlobals mg → mg d.name = some (.ref fa) →
      ∃ fd : FuncData, (∀ (s : Shared) (u : Value), BindsTo s fd ⟨[u], []⟩ [(x, u)]) ∧
        ∀ base : Heap, (K w.params).In base → base.Ns mainGlobals mg → FnOk l.prog w (K w.params) mg base (CX w) k fa fd [x] (sp w))
    (hsp : ∀ (w : World) (H : Hp) (a : Addr) (ns : List Int), ns.length ≤ n → Only H → SqL (K w.params) H a (ns.map V.int) → sp w [.ref a] H (fun v _ => v = .bl true) fun _ _ _ => False)
    (hCX : ∀ (w : World) (H : Hp) (s : Shared) (e : Value) (s' : Shared), CX w [] H s (fun _ _ _ => False) e s' → False) :
    PySem.W.WalkO q loose XP YP l.row.toRowW d [] (fun f vs => PySem.call f vs) := by
  refine Att.attach_call hn hdf fun w s₀ s₁ mg mb fa o pm cd doc a vs ns G Y ho hd hcd hmg hobj hints hlen hg => ?_
  have KX := hY w _ Y
  obtain ⟨fd, hb, hF⟩ := F w mg fa _ KX G.T.g hmg
  exact law_call KX G.T.g G.T.b G.T.builtins G.T.nolimit hg hobj hints (Nat.le_trans hlen hn2) hr hF hb (fun H hO hS => hsp w H a ns hlen hO hS) fun H e s' => hCX w H s₁ e s'
end L2
namespace L2
open PySem PySem.Spec PyProof.Rows
def inClass (s : Stmt) (j : Nat) : Stmt := match s with
  | .ClassDef _ _ _ body _ _ _ _ _ _ _ => body.getD j (.Pass ⟨0, 0, 0, 0⟩)
  | _ => .Pass ⟨0, 0, 0, 0⟩
def defArgs (s : Stmt) : Arguments := match s with
  | .FunctionDef _ a _ _ _ _ _ _ _ _ => a
  | _ => { posonlyargs := [], args := [], vararg := none, kwonlyargs := [], kw_defaults := [], kwarg := none, defaults := [] }
def defBody (s : Stmt) : List Stmt := match s with
  | .FunctionDef _ _ b _ _ _ _ _ _ _ => b
  | _ => []
def defScope (s : Stmt) : Scope := match s with
  | .FunctionDef _ _ _ _ _ _ sc _ _ _ => sc
  | _ => { kind := .function, names := [], isGenerator := false, isCoroutine := false }
abbrev CX0 : CXT := fun _ _ _ _ _ _ => False
abbrev E0 : XK := fun _ _ _ => False
theorem pass0 {X : Cx} : Passes CX0 X E0 := fun _ _ _ _ _ _ _ h => h.elim
structure Fun (K : PySem.W.Frag) (x qual : Str) (st : Stmt) (f : Addr) (fd : FuncData) : Prop where
  ex : ∃ (oc : Value) (od : Option Addr) (kV doc pm : Value) (an : Option Addr) (cdv ct : Value) (osl : Array (Option Value)),
    fd = PySem.W.fnOf x qual (defArgs st) (defBody st) (defScope st) .none kV doc pm an cdv ct ∧ K.lookup f = some ⟨oc, od, .func fd, osl⟩ ∧ PySem.W.codeIn K cdv qual = true
  kp : PySem.W.keepIn K (.ref f) = true
section
variable {P : Program} {w : World} {K : PySem.W.Frag} {mg : Str → Option Value} {base : Heap}
theorem Fun.ok {x qual : Str} {st : Stmt} {f : Addr} {fd : FuncData} {N ps : List Str} {k : Nat} {sp : Sp} (F : Fun K x qual st f fd) (S : FnScope N ps (defScope st)) (len : ∀ vs H Q E, sp vs H Q E → vs.length = ps.length)
    (hbody : ∀ (cdv : Value) (A : Around) (outer : List Env) (s : Shared) (H : Hp) (vs : List V) (Q : VK) (E : XK), Room k (A.deeper (envOfC qual (defScope st) s.heap.objs.size f cdv)) → sp vs H Q E →
      ∃ t, PSs (cxOf CX0 P w K mg base N qual (defScope st) f cdv A outer s H E).nox (defBody st) t ∧ t { nx := fun _ H' => Q .non H', rt := Q } (start N vs) H) : FnOk P w K mg base CX0 (k + 1) f fd ps sp := by
  obtain ⟨oc, od, kV, doc, pm, an, cdv, ct, osl, rfl, lk, hcd⟩ := F.ex
  refine fn_of lk hcd S len fun A outer s H vs Q E hr hsp => ?_
  obtain ⟨t, h, q⟩ := hbody cdv A outer s H vs Q E hr hsp
  exact ⟨t, h.nox, q⟩
theorem Fun.binds {x qual : Str} {st : Stmt} {f : Addr} {fd : FuncData} {ps : List Str} (F : Fun K x qual st f fd)
    (h : ∀ (kV doc pm : Value) (an : Option Addr) (cdv ct : Value) (us : List Value), us.length = ps.length → bindArgs (PySem.W.fnOf x qual (defArgs st) (defBody st) (defScope st) .none kV doc pm an cdv ct) ⟨us, []⟩ = pure (ps.zip us)) : Binds K fd ps [] := by
  obtain ⟨oc, od, kV, doc, pm, an, cdv, ct, osl, rfl, lk, hcd⟩ := F.ex
  exact .all (h kV doc pm an cdv ct)
theorem fun_mk {x qual : Str} {st : Stmt} {f : Addr} {oc : Value} {od an : Option Addr} {osl : Array (Option Value)} {kV doc pm cdv ct : Value} (l : K.lookup f = some ⟨oc, od, .func (PySem.W.fnOf x qual (defArgs st) (defBody st) (defScope st) .none kV doc pm an cdv ct), osl⟩)
    (c : PySem.W.codeIn K cdv qual = true) (k : PySem.W.keepIn K (.ref f) = true) : Fun K x qual st f (PySem.W.fnOf x qual (defArgs st) (defBody st) (defScope st) .none kV doc pm an cdv ct) := ⟨⟨oc, od, kV, doc, pm, an, cdv, ct, osl, rfl, l, c⟩, k⟩
end
section
variable {X : Cx}
theorem pv (i : Nat) {x : Str} {pos : Pos} (hN : X.N[i]? = some x := by rfl) (hv : Vis X.env.scope x := by first | exact Or.inl rfl | exact Or.inr (Or.inl rfl) | exact Or.inr (Or.inr rfl)) (hd : (x == ("__debug__" : Str)) = false := by decide)
    (hcd : (x == ("__classdict__" : Str)) = false := by decide) : PE X (.Name x pos) (tVar i) := pe_var hN hv hd hcd
end
theorem iteF {A B : Prop} (h : B) : if false = true then A else B := by
  rw [if_neg Bool.false_ne_true]
  exact h
theorem iteT {A B : Prop} (h : A) : if true = true then A else B := by
  rw [if_pos rfl]
  exact h
def Same (H H' : Hp) : Prop := ∀ b o, H b = some o → H' b = some o
theorem Same.refl (H : Hp) : Same H H := fun _ _ h => h
theorem Same.trans {H H1 H2 : Hp} (a : Same H H1) (b : Same H1 H2) : Same H H2 := fun c o h => b c o (a c o h)
theorem Same.seq {K : PySem.W.Frag} {H H' : Hp} {a : Addr} {xs : List V} (e : Same H H') (h : SqL K H a xs) : SqL K H' a xs := by
  rcases h with (h | ⟨o, h⟩) | h
  · exact .inl (.inl (e _ _ h))
  · exact .inl (.inr ⟨o, e _ _ h⟩)
  · exact .inr h
section
variable {κ : Type} [DecidableEq κ]
end
end L2
namespace L2
open PySem PySem.Spec PyProof.Rows
section
variable {X : Cx}
def CDivB (_ j : Int) : Prop := 0 < j ∧ j < 2 ^ 200
theorem noPy {i j : Int} (h : CDivB i j) : Builtin.divisionGoesByPylong i j = false := by
  refine PyProof.noPylong_of_log2 ?_
  obtain ⟨h1, h2⟩ := h
  have h0 : j.natAbs ≠ 0 := by omega
  have h3 : j.natAbs < 2 ^ 200 := by omega
  have := (Nat.log2_lt h0).mpr h3
  omega
theorem op_fdivB : OpR X (binaryOp .FloorDiv) (rI CDivB fun i j => .int (i / j)) := opI fun i j _ _ _ _ _ hc q => by
  have h1 : (0 : Int) < j := hc.1
  exact floordiv_int (by omega) (by rw [Int.fdiv_eq_ediv_of_nonneg i (by omega)]; exact q) (.inl (noPy hc))
inductive ClsV : V → Value → Prop where
  | ty (n : String) : ClsV (.ty n) (.type n)
  | ref (C : Addr) : ClsV (.ref C) (.ref C)
theorem call_isinst : CallR X (.builtin "isinstance") (fun xs H Q => ∃ x y c t b, xs = [x, y] ∧ ClsV y c ∧ TyOf X.K H x t ∧ PySem.W.kitOne X.K t c = some b ∧ Q (.bl b) H) := by
  intro pins s σ H xs us Q I r h
  obtain ⟨x, y, c, t, b, rfl, hy, ty, e, q⟩ := h
  obtain ⟨u, w', rfl, rx, ry⟩ := vals2 r
  cases hy with
  | ty n =>
    cases (show w' = Value.type n from ry)
    exact isinst_ok I rx ty e fun tk => ⟨.bl b, H, I.tok _, rfl, q⟩
  | ref C =>
    cases (show w' = Value.ref C from ry)
    exact isinst_ok I rx ty e fun tk => ⟨.bl b, H, I.tok _, rfl, q⟩
end
theorem compLoop_go {prog : Program} {w : World} {A : Around} {R : Result → Shared → Prop} {s : Shared} {elt target iter : Expr} {ifs : List Expr} {scope : Scope} {pos : Pos} {it acc : Value} {env : Env} (I : Nat → Shared → Prop) (E : Value → Shared → Prop)
    (hE : ∀ e s', E e s' → notedBy (model prog w) A env (fun e s' => R (.error e) s') e s')
    (turn : ∀ n s, I n s → wpAny (model prog w) A (pyNext it) (fun r s₁ => match r with
      | none => R (.ok .next) s₁
      | some v => wpAny (model prog w) A (letOwnedTupleGo target it v) (fun _ s₁' => wpAny (model prog w) A (assign target env v) (fun _ s₂ =>
          wpAny (model prog w) A (forIn ifs true fun c r => if r = true then do let ok ← isTrue c env (eval c env); pure (ForInStep.yield ok) else pure (ForInStep.yield r)) (fun ok s₃ =>
            if ok = true then wpAny (model prog w) A (eval elt env) (fun x s₄ =>
              wpAny (model prog w) A (call (.builtin "list.append") [acc, x]) (fun _ s₅ => ∃ m, m < n ∧ I m s₅) E s₄) E s₃
            else ∃ m, m < n ∧ I m s₃) E s₂) E s₁') E s₁) E s)
    (n : Nat) (h : I n s) : codeAny (model prog w) A (.compLoop (.ListComp elt [⟨target, iter, ifs, 0⟩] scope pos) 0 it acc env) R s := by
  refine codeAny_loop rfl I (fun n s hI => ?_) n h
  show wpAny _ A ((compTurn (.ListComp elt [⟨target, iter, ifs, 0⟩] scope pos) 0 it acc env).onRaise (fun x => do noteFrame x env; theTreesLotGoes x)) _ _ s
  refine wpAny_noted ?_
  rw [compTurn_list]
  refine wpAny_bind (wpAny_standAt (wpAny_bind (wpAny_mono (turn n s hI) (fun r s₁ h₁ => ?_) hE)))
  cases r with
  | none => exact wpAny_pure h₁
  | some v =>
    refine wpAny_bind (wpAny_mono h₁ (fun _ s₁' h₁' => ?_) hE)
    refine wpAny_bind (wpAny_mono h₁' (fun _ s₂ h₂ => wpAny_bind (wpAny_mono h₂ (fun ok s₃ h₃ => ?_) hE)) hE)
    cases ok with
    | false => exact wpAny_pure ⟨rfl, h₃⟩
    | true =>
      exact wpAny_bind (wpAny_bind (wpAny_mono h₃ (fun x s₄ h₄ => wpAny_bind (wpAny_mono h₄ (fun _ s₅ h₅ => wpAny_pure (wpAny_pure ⟨rfl, h₅⟩)) hE)) hE))
theorem closure_key {env : Env} : ∀ (names : List (Str × NameKind)) (acc : List (Str × Addr)), (∀ y ∈ names, y.2 = .free → ∃ c, env.cells.lookup y.1 = some c) → (∀ x c, acc.lookup x = some c → env.cells.lookup x = some c) →
    ∃ cl, (forIn names acc (fun (x : Str × NameKind) (r : List (Str × Addr)) => (if (x.2 == NameKind.free) = true then (do let a ← cellOf env x.1; pure (ForInStep.yield ((x.1, a) :: r))) else pure (ForInStep.yield r) : Sem (ForInStep (List (Str × Addr)))))) = (pure cl : Sem (List (Str × Addr))) ∧
      (∀ x c, cl.lookup x = some c → env.cells.lookup x = some c) ∧ (∀ x c, acc.lookup x = some c → ∃ c', cl.lookup x = some c') ∧ ∀ y ∈ names, y.2 = .free → ∃ c, cl.lookup y.1 = some c
  | [], acc, _, ha => ⟨acc, rfl, ha, fun x c e => ⟨c, e⟩, fun _ h => nomatch h⟩
  | (n, k) :: r, acc, hf, ha => by
    have hf' : ∀ y ∈ r, y.2 = .free → ∃ c, env.cells.lookup y.1 = some c := fun y hy => hf y (List.mem_cons_of_mem _ hy)
    by_cases hk : k = .free
    · subst hk
      obtain ⟨c, hc⟩ := hf (n, .free) List.mem_cons_self rfl
      have hc' : env.cells.lookup n = some c := hc
      have ha' : ∀ x d, ((n, c) :: acc).lookup x = some d → env.cells.lookup x = some d := fun x d e => by
        rw [List.lookup_cons] at e
        cases hx : x == n with
        | true => rw [hx] at e; cases e; rw [beq_iff_eq.mp hx]; exact hc'
        | false => rw [hx] at e; exact ha x d e
      obtain ⟨cl, e, h1, h2, h3⟩ := closure_key r ((n, c) :: acc) hf' ha'
      have hself : ((n, c) :: acc).lookup n = some c := by rw [List.lookup_cons, beq_self_eq_true]
      refine ⟨cl, ?_, h1, fun x d ex => ?_, fun y hy hyf => ?_⟩
      · rw [List.forIn_cons]
        have ec : cellOf env n = pure c := by unfold cellOf; rw [hc']
        show ((if (NameKind.free == NameKind.free) = true then (do let a ← cellOf env n; pure (ForInStep.yield ((n, a) :: acc))) else pure (ForInStep.yield acc) : Sem _) >>= _) = _
        rw [if_pos (by decide), ec]
        exact e
      · cases hx : x == n with
        | true => rw [beq_iff_eq.mp hx]; exact h2 n c hself
        | false => exact h2 x d (by rw [List.lookup_cons, hx]; exact ex)
      · rcases List.mem_cons.mp hy with rfl | hy
        · exact h2 n c hself
        · exact h3 y hy hyf
    · obtain ⟨cl, e, h1, h2, h3⟩ := closure_key r acc hf' ha
      refine ⟨cl, ?_, h1, h2, fun y hy hyf => ?_⟩
      · rw [List.forIn_cons]
        show ((if (k == NameKind.free) = true then (do let a ← cellOf env n; pure (ForInStep.yield ((n, a) :: acc))) else pure (ForInStep.yield acc) : Sem _) >>= _) = _
        rw [if_neg (by simpa using hk)]
        exact e
      · rcases List.mem_cons.mp hy with rfl | hy
        · exact absurd hyf hk
        · exact h3 y hy hyf
theorem closure_ok {scope : Scope} {env : Env} (h : ∀ y ∈ scope.names, y.2 = .free → ∃ c, env.cells.lookup y.1 = some c) :
    ∃ cl, closureFor scope env = pure cl ∧ (∀ x c, cl.lookup x = some c → env.cells.lookup x = some c) ∧ ∀ y ∈ scope.names, y.2 = .free → ∃ c, cl.lookup y.1 = some c := by
  obtain ⟨cl, e, h1, _, h3⟩ := closure_key (env := env) scope.names [] h (fun x c e => nomatch e)
  refine ⟨cl, ?_, h1, h3⟩
  have e0 : closureFor scope env = ((forIn scope.names [] (fun (x : Str × NameKind) (r : List (Str × Addr)) => (if (x.2 == NameKind.free) = true then (do let a ← cellOf env x.1; pure (ForInStep.yield ((x.1, a) :: r))) else pure (ForInStep.yield r) : Sem (ForInStep (List (Str × Addr)))))) >>= fun r => pure r) := rfl
  rw [e0, e]
  rfl
theorem relabel_free {env : Env} (hf : env.scope.kind = .function) : ∀ {names : List (Str × NameKind)} {x : Str}, names.lookup x = some .free → env.kindOf x = some .cell →
    (names.map fun (n, k) => if (k == NameKind.free && env.scope.kind == .function && env.kindOf n == some .cell) then (n, NameKind.cell) else (n, k)).lookup x = some .cell
  | [], _, h, _ => by simp at h
  | (n, k) :: r, x, h, hc => by
    have ih := @relabel_free env hf r x
    show List.lookup x ((if (k == NameKind.free && env.scope.kind == .function && env.kindOf n == some .cell) = true then (n, NameKind.cell) else (n, k)) :: _) = _
    cases hx : x == n with
    | true =>
      simp only [List.lookup_cons, hx] at h
      cases h
      have e : x = n := beq_iff_eq.mp hx
      subst e
      rw [if_pos (by rw [hf, hc]; decide)]
      simp only [List.lookup_cons, hx]
    | false =>
      simp only [List.lookup_cons, hx] at h
      by_cases hq : (k == NameKind.free && env.scope.kind == .function && env.kindOf n == some .cell) = true
      · rw [if_pos hq]; simp only [List.lookup_cons, hx]; exact ih h hc
      · rw [if_neg hq]; simp only [List.lookup_cons, hx]; exact ih h hc
theorem relabel_back {env : Env} : ∀ {names : List (Str × NameKind)} {x : Str} {k : NameKind},
    (names.map fun (n, k) => if (k == NameKind.free && env.scope.kind == .function && env.kindOf n == some .cell) then (n, NameKind.cell) else (n, k)).lookup x = some k → ∃ k0, names.lookup x = some k0 ∧ (k = k0 ∨ k0 = .free)
  | [], _, _, h => by simp at h
  | (n, k1) :: r, x, k, h => by
    have h : List.lookup x ((if (k1 == NameKind.free && env.scope.kind == .function && env.kindOf n == some .cell) = true then (n, NameKind.cell) else (n, k1)) :: (r.map fun (n, k) => if (k == NameKind.free && env.scope.kind == .function && env.kindOf n == some .cell) then (n, NameKind.cell) else (n, k))) = some k := h
    cases hx : x == n with
    | true =>
      by_cases hq : (k1 == NameKind.free && env.scope.kind == .function && env.kindOf n == some .cell) = true
      · have : k1 = .free := by
          rw [Bool.and_eq_true, Bool.and_eq_true] at hq
          simpa using hq.1.1
        exact ⟨k1, by simp only [List.lookup_cons, hx], .inr this⟩
      · rw [if_neg hq] at h
        simp only [List.lookup_cons, hx] at h
        exact ⟨k1, by simp only [List.lookup_cons, hx], .inl (Option.some.inj h).symm⟩
    | false =>
      have h' : (r.map fun (n, k) => if (k == NameKind.free && env.scope.kind == .function && env.kindOf n == some .cell) then (n, NameKind.cell) else (n, k)).lookup x = some k := by
        by_cases hq : (k1 == NameKind.free && env.scope.kind == .function && env.kindOf n == some .cell) = true
        · rw [if_pos hq] at h; simp only [List.lookup_cons, hx] at h; exact h
        · rw [if_neg hq] at h; simp only [List.lookup_cons, hx] at h; exact h
      obtain ⟨k0, e, z⟩ := relabel_back h'
      exact ⟨k0, by simp only [List.lookup_cons, hx]; exact e, z⟩
def cxComp (X : Cx) (N : List Str) (scope : Scope) (cl : List (Str × Addr)) (C : Addr) (s : Shared) (H : Hp) (fp : List Addr) : Cx :=
  { X with N := N, s₀ := s, H₀ := H, env := compEnvC scope cl C X.env, outer := X.stack, ex := fp, fn := fun _ => false, pn := [], xe := fun _ _ => False }
structure CompOk (X : Cx) (scope : Scope) (ls ys : List Str) (ix : List Nat) : Prop where
  kind : scope.kind = .function
  nocellB : (scope.names.all fun y => y.2 != .cell) = true
  locB : (scope.names.all fun y => y.2 != .local || scope.names.lookup y.1 == some .local) = true
  freeB : (scope.names.all fun y => y.2 != .free || X.env.kindOf y.1 == some .cell) = true
  ylkB : (ys.all fun y => scope.names.lookup y == some .free) = true
  yix : ix.map (fun j => X.N[j]?) = ys.map some
section
variable {X : Cx} {scope : Scope} {ls ys : List Str} {ix : List Nat}
theorem CompOk.nocell (ok : CompOk X scope ls ys ix) : ∀ y ∈ scope.names, y.2 ≠ .cell := fun y hy => by
  simpa using List.all_eq_true.mp ok.nocellB y hy
theorem CompOk.loc (ok : CompOk X scope ls ys ix) : ∀ y ∈ scope.names, y.2 = .local → scope.names.lookup y.1 = some .local := fun y hy e => by
  have h := List.all_eq_true.mp ok.locB y hy
  rw [e] at h
  simpa using h
theorem CompOk.free (ok : CompOk X scope ls ys ix) : ∀ y ∈ scope.names, y.2 = .free → X.env.kindOf y.1 = some .cell := fun y hy e => by
  have h := List.all_eq_true.mp ok.freeB y hy
  rw [e] at h
  simpa using h
theorem CompOk.ylk (ok : CompOk X scope ls ys ix) : ∀ y ∈ ys, scope.names.lookup y = some .free := fun y hy => by
  simpa using List.all_eq_true.mp ok.ylkB y hy
end
def inSt (n : Nat) (ix : List Nat) (σ : St) : St := List.replicate n none ++ ix.map fun j => (σ[j]?).join
section
variable {X : Cx} {pins : List (Addr × Obj)} {σ : St} {H : Hp} {s : Shared} {scope : Scope} {ls ys : List Str} {ix : List Nat} {cl : List (Str × Addr)} {fp : List Addr}
theorem comp_in {h₁ : Heap} {tk : Nat} {m : Str → Option Value} (I : Inv X pins σ H s) (ok : CompOk X scope ls ys ix) (hcl1 : ∀ x c, cl.lookup x = some c → X.env.cells.lookup x = some c)
    (hcl2 : ∀ y ∈ scope.names, y.2 = .free → ∃ c, cl.lookup y.1 = some c) (f3 : ∀ b ∈ fp, FpOk X pins H b) (hob : ∀ b ∈ fp, b < s.heap.objs.size)
    (hns : h₁.Ns s.heap.objs.size m) (hk : ∀ b o, s.heap.get? b = some o → h₁.get? b = some o) :
    Inv (cxComp X (ls ++ ys) scope cl s.heap.objs.size s H fp) [] (inSt ls.length ix σ) H { s with heap := h₁, toks := tk } := by
  have hfree : ∀ x, scope.names.lookup x = some .free → X.env.kindOf x = some .cell := fun x e => ok.free (x, .free) (PySem.mem_of_lookup e) rfl
  refine ⟨⟨I.ok.mod, ok.kind, I.ok.glob, I.ok.blt, Nat.le_refl _, fun x y c h1 h2 => I.ok.inj x y c (hcl1 x c h1) (hcl1 y c h2), fun x hx => ?_, fun x c hx _ => absurd hx Bool.false_ne_true, I.ok.hd, I.ok.frames, .inl rfl,
    fun b hb => ⟨Nat.ne_of_lt (hob b hb), fun x c e => (f3 b hb).2.2.2.2.1 x c (hcl1 x c e)⟩, I.bs, Nat.le_trans I.ok.bsz I.sz, fun b o e hb => ?_, fun b hb z => ?_, I.stack, I.stkFree⟩,
    rfl, I.bare, Un.kept hk, ⟨m, hns, fun i x v h1 h2 h3 => ?_⟩, fun x c e => ?_, I.fresh, fun x c e => I.freeC x c (hcl1 x c e), fun p hp => absurd (show p ∈ ([] : List (Addr × Obj)) from hp) (by simp), I.hok.kept hk, ?_⟩
  · have e : ∃ k, (relabel scope X.env).names.lookup x = some k ∧ (k = .cell ∨ k = .free) := by
      rcases hx with hx | hx
      · exact ⟨_, hx, .inl rfl⟩
      · exact ⟨_, hx, .inr rfl⟩
    obtain ⟨k, e, hkk⟩ := e
    obtain ⟨k0, e0, z⟩ := relabel_back e
    have hm := PySem.mem_of_lookup e0
    have hk0 : k0 = .free := by
      rcases z with z | z
      · rcases hkk with q | q
        · exact absurd (z.symm.trans q) (ok.nocell _ hm)
        · exact z.symm.trans q
      · exact z
    exact hcl2 _ hm hk0
  · obtain ⟨q1, q2, q3, q4, _⟩ := f3 b hb
    rcases q4 with q4 | q4
    · exact I.ok.noex b o e q4
    · exact absurd (Nat.lt_of_lt_of_le (Heap.lt_size e) (Nat.le_trans I.ok.bsz q4)) (Nat.lt_irrefl _)
  · rcases List.mem_cons.mp (I.stkSub b z) with q | q
    · exact (f3 b hb).2.1 q
    · exact (f3 b hb).2.2.1 q
  · have h1 : (ls ++ ys)[i]? = some x := h1
    have h2 : (List.replicate ls.length none ++ ix.map fun j => (σ[j]?).join)[i]? = some (some v) := h2
    by_cases hi : i < ls.length
    · rw [List.getElem?_append_left (by rw [List.length_replicate]; exact hi), List.getElem?_replicate, if_pos hi] at h2
      cases h2
    · rw [List.getElem?_append_right (by rw [List.length_replicate]; omega), List.length_replicate, List.getElem?_map] at h2
      rw [List.getElem?_append_right (by omega)] at h1
      cases e : ix[i - ls.length]? with
      | none => rw [e] at h2; cases h2
      | some j =>
        rw [e] at h2
        have h2 : (σ[j]?).join = some v := Option.some.inj h2
        have hσ : σ[j]? = some (some v) := by
          cases q : σ[j]? with
          | none => rw [q] at h2; cases h2
          | some z => rw [q] at h2; exact congrArg some h2
        have hN : X.N[j]? = some x := by
          have q := congrArg (fun l => l[i - ls.length]?) ok.yix
          simp only [List.getElem?_map, e, h1, Option.map_some] at q
          exact Option.some.inj q
        have hl := ok.ylk x (List.mem_of_getElem? h1)
        have hc := hfree x hl
        obtain ⟨m', hn', hl'⟩ := I.loc
        obtain ⟨u, r, lk⟩ := hl' j x v hN hσ (.inr (.inl hc))
        refine ⟨u, r, ?_⟩
        rcases lk with ⟨lk, _⟩ | ⟨_, c, ec, z⟩
        · rw [hc] at lk; cases lk
        · obtain ⟨c', ec'⟩ := hcl2 _ (PySem.mem_of_lookup hl) rfl
          have ec2 : X.env.cells.lookup x = some c' := hcl1 x c' ec'
          rw [ec] at ec2
          cases ec2
          exact .inr ⟨.inl (relabel_free I.ok.kind hl hc), c, ec', z.keeps hk⟩
  · obtain ⟨v, z⟩ := I.cell x c (hcl1 x c e)
    exact ⟨v, z.keeps hk⟩
  · show (List.replicate ls.length none ++ ix.map fun j => (σ[j]?).join).length = (ls ++ ys).length
    have q := congrArg List.length ok.yix
    rw [List.length_map, List.length_map] at q
    rw [List.length_append, List.length_append, List.length_replicate, List.length_map, q]
end
def PF (X : Cx) (ifs : List Expr) (t : TT) : Prop :=
  ∀ (pins : List (Addr × Obj)) (s : Shared) (σ : St) (H : Hp) (Q : Bool → Hp → Prop), Inv X pins σ H s → t σ H Q →
    wpAny (model X.prog X.w) X.A (forIn ifs true fun c r => if r = true then do let ok ← isTrue c X.env (eval c X.env); pure (ForInStep.yield ok) else pure (ForInStep.yield r)) (TP X pins σ Q) X.xe s
def tYes : TT := fun _ H Q => Q true H
theorem pf_nil {X : Cx} : PF X [] tYes := fun _ _ _ H _ I h => wpAny_tests_nil ⟨H, I, h⟩
def lcW (σ0 : St) (g : TG) (tt : TT) (te : TE) (J : It) (H1 : Hp) (D : Addr) (Q : Hp → Prop) : Prop :=
  ∃ W : Nat → Nat → St → Hp → Prop, (∃ m, W 0 m σ0 (upd H1 D (.lst []))) ∧ ∀ i m τ H, W i m τ H →
    (J.stop i H ∧ Q H) ∨ (J.go i H ∧ ∃ N : St → Hp → Prop, (∀ τ' H', N τ' H' → ∃ m', m' < m ∧ W (i + 1) m' τ' H') ∧ ∀ x H', J.yld i H x H' → g x τ H' fun τ2 H2 => tt τ2 H2 fun b H3 =>
      if b = true then te τ2 H3 fun v H4 => ∃ acc, H4 D = some (.lst acc) ∧ acc.length < sizeLine ∧ N τ2 (upd H4 D (.lst (acc ++ [v]))) else N τ2 H3)
def tLc (wi : TI) (n : Nat) (ix : List Nat) (g : TG) (tt : TT) (te : TE) : TE := fun σ H Q => wi σ H fun J H1 => ∀ D, H1 D = none → lcW (inSt n ix σ) g tt te J H1 D fun H' => Q (.ref D) H'
def tLcSet (wi : TI) (n : Nat) (ix : List Nat) (g : TG) (tt : TT) (te : TE) (i : Nat) : TS := fun D σ H => tLc wi n ix g tt te σ H fun x H1 => D.nx (σ.set i (some x)) H1
section
variable {X : Cx} {scope : Scope} {ls ys : List Str} {ix : List Nat} {tg iter elt : Expr} {ifs : List Expr} {pos : Pos} {wi : TI} {g : TG} {tt : TT} {te : TE}
theorem comp_run {pins : List (Addr × Obj)} {σ : St} {H1 : Hp} {s : Shared} {J : It} {it : Addr} {fp : List Addr} {tn : Nat → Heap → Prop} {cl : List (Str × Addr)} {Q : Addr → Hp → Prop} {R : Value → Addr → Result → Shared → Prop} {E : Value → Shared → Prop} (hc : X.calm = true)
    (ok : CompOk X scope ls ys ix) (I : Inv X pins σ H1 s) (T : Turn X.prog X.w X.K tg J fp it tn) (st : tn 0 s.heap) (f2 : ∀ b ∈ fp, FpOk X pins H1 b)
    (hcl1 : ∀ x c, cl.lookup x = some c → X.env.cells.lookup x = some c) (hcl2 : ∀ y ∈ scope.names, y.2 = .free → ∃ c, cl.lookup y.1 = some c)
    (hg : ∀ cl C s H fp, PG (cxComp X (ls ++ ys) scope cl C s H fp) tg g) (ht : ∀ cl C s H fp, PF (cxComp X (ls ++ ys) scope cl C s H fp) ifs tt) (he : ∀ cl C s H fp, PE (cxComp X (ls ++ ys) scope cl C s H fp) elt te)
    (hJ : ∀ D, H1 D = none → lcW (inSt ls.length ix σ) g tt te J H1 D (Q D))
    (hR : ∀ D C H' s', Q D H' → Inv X pins σ H' s' → H' C = none → FpOk X pins H' C → (∃ m, s'.heap.Ns C m) → R (.ref D) C (.ok .next) s') :
    wpAny (model X.prog X.w) X.A (newList []) (fun acc s₃ => wpAny (model X.prog X.w) X.A (newFunctionEnv scope X.env.globals cl [] X.env.qual none .none (some X.env)) (fun cenv s₄ =>
      codeAny (model X.prog X.w) X.A (.compStart (.ListComp elt [⟨tg, iter, ifs, 0⟩] scope pos) 0 (.ref it) acc { cenv with scope := relabel scope X.env }) (R acc cenv.locals) s₄) E s₃) E s := by
  have hfp : ∀ b ∈ fp, b < s.heap.objs.size := fun b hb => by
    obtain ⟨o, e, _⟩ := T.obj _ _ st b hb
    exact Heap.lt_size e
  have I3 := I.lnew (ys := []) (its := []) (t' := s.toks) .nil (Nat.zero_le _)
  have hD : H1 s.heap.objs.size = none := I.fresh
  obtain ⟨W, ⟨m0, w0⟩, turn⟩ := hJ s.heap.objs.size hD
  refine wpAny_newObj_type (wpAny_newFunctionEnv ok.nocell (by intro y hy; simp at hy) (fun h₁ hns hsb => ?_) ok.kind)
  generalize hs3 : ({ s with heap := s.heap.push { cls := .type "list", data := .seq ([] : List Value).toArray }, toks := s.toks } : Shared) = s3 at I3
  have e3 : s.heap.push { cls := .type "list", dict := none, data := .seq ([] : List Value).toArray } = s3.heap := by rw [← hs3]
  have e3' : ({ s with heap := s.heap.push { cls := .type "list", dict := none, data := .seq ([] : List Value).toArray } } : Shared) = s3 := by rw [← hs3]
  generalize hH3 : upd H1 s.heap.objs.size (.lst []) = H3 at I3 w0
  have hsz : s3.heap.objs.size = s.heap.objs.size + 1 := by rw [← e3, Heap.size_push]
  have up3 : ∀ b o, s.heap.get? b = some o → s3.heap.get? b = some o := fun b o e => by rw [← e3]; exact Heap.get?_push_of_some _ e
  have f3 : ∀ b ∈ fp, FpOk X pins H3 b := fun b hb => by
    refine ⟨?_, (f2 b hb).2⟩
    rw [← hH3, upd_ne (Nat.ne_of_lt (hfp b hb))]
    exact (f2 b hb).1
  have hns : h₁.Ns s3.heap.objs.size (fun x => ([] : List (Str × Value)).reverse.lookup x) := by rw [← e3]; exact hns
  have hsb : Heap.SameBut s3.heap.objs.size (s3.heap.push { cls := .type (if (some X.env).isSome then "dict" else "frame"), data := .dict #[] }) h₁ := by rw [← e3]; exact hsb
  have up4 : ∀ b o, s3.heap.get? b = some o → h₁.get? b = some o := fun b o e => hsb.extBut b o (Nat.ne_of_lt (Heap.lt_size e)) (Heap.get?_push_of_some _ e)
  have Ic := comp_in (tk := s3.toks) I3 ok hcl1 hcl2 f3 (fun b hb => by rw [hsz]; exact Nat.lt_succ_of_lt (hfp b hb)) hns up4
  have stat : ∀ {H' : Hp} {pl : List (Addr × Obj)}, (∀ b ∈ fp, H' b = none) → pl = [] → ∀ b ∈ fp, FpOk (cxComp X (ls ++ ys) scope cl s3.heap.objs.size s3 H3 fp) pl H' b := fun {H' pl} hn hpl b hb => by
    subst hpl
    refine ⟨hn b hb, Nat.ne_of_lt (by rw [show (cxComp X (ls ++ ys) scope cl s3.heap.objs.size s3 H3 fp).env.locals = s3.heap.objs.size from rfl, hsz]; exact Nat.lt_succ_of_lt (hfp b hb)), Ic.ok.exfs b hb, .inl hb, fun x c e => (f3 b hb).2.2.2.2.1 x c (hcl1 x c e), fun p hp => absurd (show p ∈ ([] : List (Addr × Obj)) from hp) (by simp)⟩
  have loop : codeAny (model X.prog X.w) X.A (.compLoop (.ListComp elt [⟨tg, iter, ifs, 0⟩] scope pos) 0 (.ref it) (.ref s.heap.objs.size) (compEnvC scope cl s3.heap.objs.size X.env)) (R (.ref s.heap.objs.size) s3.heap.objs.size) { s3 with heap := h₁, toks := s3.toks } := by
    refine compLoop_go (fun n s' => ∃ i τ H', Inv (cxComp X (ls ++ ys) scope cl s3.heap.objs.size s3 H3 fp) [] τ H' s' ∧ tn i s'.heap ∧ (∀ b ∈ fp, H' b = none) ∧ W i n τ H') (fun _ _ => False) (fun _ _ h => h.elim) ?_ m0
      ⟨0, inSt ls.length ix σ, H3, Ic, T.keep _ _ _ st (fun b _ o e => up4 b o (up3 b o e)), fun b hb => (f3 b hb).1, w0⟩
    rintro n s4 ⟨i, τ, H4, I4, st4, fr4, w4⟩
    rcases turn i n τ H4 w4 with ⟨stop, qn⟩ | ⟨go, N, hN, step⟩
    · refine thn (T.done (cxComp X (ls ++ ys) scope cl s3.heap.objs.size s3 H3 fp) rfl rfl rfl hc i [] s4 τ H4 (fun _ _ => False) I4 (stat fr4 rfl) st4 stop) fun r s5 ⟨hr, I5⟩ => ?_
      subst hr
      have Io : Inv X pins σ H4 s5 := I3.call' (ch := fp) I5.os I5.base I5.hok I5.bare fun b hb => ⟨(f3 b hb).2.2.2.1, (f3 b hb).2.1, (f3 b hb).2.2.2.2.1, (f3 b hb).2.2.2.2.2⟩
      obtain ⟨m5, n5, _⟩ := I5.loc
      have hC : H4 s3.heap.objs.size = none := I5.free
      exact hR _ _ H4 s5 qn Io hC (I3.fpOk (Nat.le_refl _) hC) ⟨m5, n5⟩
    · refine thn (T.item (cxComp X (ls ++ ys) scope cl s3.heap.objs.size s3 H3 fp) rfl rfl rfl hc i [] s4 τ H4 (fun _ _ => False) I4 (stat fr4 rfl) st4 go) fun r s5 ⟨u, hr, h5⟩ => ?_
      subst hr
      refine thn h5 fun _ s6 ⟨x, H6, I6, r6, y6, st6, fr6⟩ => ?_
      have I6' := I6.pinned (stat fr6 rfl) (T.obj _ _ st6)
      have fin : ∀ {τ7 : St} {H7 : Hp} {s7 : Shared}, Inv (cxComp X (ls ++ ys) scope cl s3.heap.objs.size s3 H3 fp) ([] ++ pinsAt fp s6.heap) τ7 H7 s7 → N τ7 H7 → ∃ m, m < n ∧ ∃ i τ H', Inv (cxComp X (ls ++ ys) scope cl s3.heap.objs.size s3 H3 fp) [] τ H' s7 ∧ tn i s7.heap ∧ (∀ b ∈ fp, H' b = none) ∧ W i m τ H' := fun {τ7 H7 s7} I7 n7 => by
        obtain ⟨m', hm, w7⟩ := hN τ7 H7 n7
        refine ⟨m', hm, i + 1, τ7, H7, I7.unpinned, T.keep _ _ _ st6 fun b hb o e => (I7.pin (b, o) (List.mem_append_right _ (List.mem_append_right _ (mem_pinsAt hb e)))).1, fun b hb => ?_, w7⟩
        obtain ⟨o, e, d⟩ := T.obj _ _ st6 b hb
        exact (I7.pin (b, o) (List.mem_append_right _ (List.mem_append_right _ (mem_pinsAt hb e)))).2.1
      refine thn (hg _ _ _ _ _ _ s6 τ H6 x u _ I6' r6 (step x H6 y6)) fun _ s7 ⟨τ7, H7, I7, q7⟩ => ?_
      refine thn (ht _ _ _ _ _ _ s7 τ7 H7 _ I7 q7) fun b s8 ⟨H8, I8, q8⟩ => ?_
      cases b with
      | false =>
        rw [if_neg Bool.false_ne_true] at q8 ⊢
        exact fin I8 q8
      | true =>
        rw [if_pos rfl] at q8 ⊢
        refine thn (he _ _ _ _ _ _ s8 τ7 H8 _ I8 q8) fun y s9 ⟨v, H9, I9, r9, acc, hacc, hlen, n9⟩ => ?_
        exact thn (mt_append _ s9 τ7 H9 (.ref s.heap.objs.size) [v] (.ref s.heap.objs.size) [y] (fun _ H' => N τ7 H') I9 rfl (.cons r9 .nil) ⟨_, acc, v, rfl, rfl, hacc, hlen, n9⟩) fun _ s10 ⟨_, H10, I10, _, n10⟩ => fin I10 n10
  exact codeAny_compStart_list loop (T.self _ 0 _ _ _ (T.keep _ _ _ st (fun b _ o e => up4 b o (up3 b o e))) loop)
theorem pe_lc (hc : X.calm = true) (ok : CompOk X scope ls ys ix) (hi : PI X tg iter wi)
    (hg : ∀ cl C s H fp, PG (cxComp X (ls ++ ys) scope cl C s H fp) tg g) (ht : ∀ cl C s H fp, PF (cxComp X (ls ++ ys) scope cl C s H fp) ifs tt) (he : ∀ cl C s H fp, PE (cxComp X (ls ++ ys) scope cl C s H fp) elt te)
    (hs : ∀ x, foldedSetIterable iter X.env x = pure x := by intro _; rfl) : PE X (.ListComp elt [⟨tg, iter, ifs, 0⟩] scope pos) (tLc wi ls.length ix g tt te) := by
  intro pins s σ H Q I h
  obtain ⟨cl, hclos, hcl1, hcl2⟩ := closure_ok (scope := scope) (env := X.env) fun y hy hf => I.ok.has y.1 (.inl (ok.free y hy hf))
  rw [eval_ListComp]
  refine wpAny_comprehension_free (use := none) rfl hs hclos ok.kind ok.loc (thn (hi pins s σ H _ I h) fun v s1 h1 => thn h1 fun itv s2 h2 => ?_)
  obtain ⟨it, fp, tn, J, H2, rfl, I2, T, st2, f2, hJ⟩ := h2
  refine comp_run (R := fun acc C => compPost (model X.prog X.w) X.A X.xe none (EP X pins σ Q) acc C) hc ok I2 T st2 f2 hcl1 hcl2 hg ht he hJ fun D C H' s' q I' hC fC hm => ?_
  obtain ⟨m, hn⟩ := hm
  refine ⟨m, hn, fun h' hsb => ⟨.ref D, H', ?_, rfl, q⟩⟩
  exact I'.turned (t' := s'.toks) (fun b o hb e => (hsb.2 b hb).trans e) hC fC.2.1 fC.2.2.2.1 fC.2.2.2.2.1 fC.2.2.2.2.2
theorem ps_lcset {i : Nat} {x : Str} {spos px : Pos} (hc : X.calm = true) (hN : X.N.Nodup) (hxi : X.N[i]? = some x) (hx : Loc X.env.scope x) (ok : CompOk X scope ls ys ix) (hi : PI X tg iter wi)
    (hg : ∀ cl C s H fp, PG (cxComp X (ls ++ ys) scope cl C s H fp) tg g) (ht : ∀ cl C s H fp, PF (cxComp X (ls ++ ys) scope cl C s H fp) ifs tt) (he : ∀ cl C s H fp, PE (cxComp X (ls ++ ys) scope cl C s H fp) elt te)
    (hs : ∀ x, foldedSetIterable iter X.env x = pure x := by intro _; rfl) (hsw : swapsWith (.ListComp elt [⟨tg, iter, ifs, 0⟩] scope pos) (some (.Name x px)) spos.line X.env = pure true := by rfl)
    (hf : X.fn x = true ∨ X.env.scope.names.lookup x = some .local := by first | exact .inl rfl | exact .inr rfl | assumption) :
    PS X (.Assign [.Name x px] (.ListComp elt [⟨tg, iter, ifs, 0⟩] scope pos) spos) (tLcSet wi ls.length ix g tt te i) := by
  intro pins s σ H D I h
  obtain ⟨cl, hclos, hcl1, hcl2⟩ := closure_ok (scope := scope) (env := X.env) fun y hy hf => I.ok.has y.1 (.inl (ok.free y hy hf))
  rw [exec_Assign_Name_used _ _ _ _ hsw]
  refine wpAny_bind (wpAny_standAt (wpAny_bind ?_))
  show wpAny _ X.A (do let _ ← comprehension (.ListComp elt [⟨tg, iter, ifs, 0⟩] scope pos) scope X.env _ (newList []) false (eval iter X.env) (some (assign (.Name x px) X.env))) _ _ s
  refine wpAny_bind (wpAny_mono (wpAny_comprehension_free (use := some (assign (.Name x px) X.env)) (Q := fun _ s' => ∃ σ' H', Inv X pins σ' H' s' ∧ D.nx σ' H') rfl hs hclos ok.kind ok.loc
    (thn (hi pins s σ H _ I h) fun v s1 h1 => thn h1 fun itv s2 h2 => ?_)) (fun _ s' hq => wpAny_pure (wpAny_pure hq)) fun _ _ e => e)
  obtain ⟨it, fp, tn, J, H2, rfl, I2, T, st2, f2, hJ⟩ := h2
  refine comp_run (R := fun acc C => compPost (model X.prog X.w) X.A X.xe (some (assign (.Name x px) X.env)) (fun _ s' => ∃ σ' H', Inv X pins σ' H' s' ∧ D.nx σ' H') acc C) hc ok I2 T st2 f2 hcl1 hcl2 hg ht he hJ fun Da C H' s' q I' hC fC hm => ?_
  obtain ⟨m, hn⟩ := hm
  show wpAny _ X.A (assign (.Name x px) X.env (.ref Da)) _ _ s'
  refine wpAny_assign_Name (store_ok2 (v := .ref Da) I' hN hxi hx rfl (fun s2 I3 hz => ?_) hf)
  obtain ⟨a, sb, ha⟩ := hz
  have hCa : C ≠ a := by
    rcases ha with ha | ha
    · rw [ha]; exact fC.2.1
    · exact Ne.symm (fC.2.2.2.2.1 x a ha)
  refine ⟨m, hn.sameBut sb hCa, fun h' hsb => ⟨_, H', ?_, q⟩⟩
  exact I3.turned (t' := s2.toks) (fun b o hb e => (hsb.2 b hb).trans e) hC fC.2.1 fC.2.2.2.1 fC.2.2.2.2.1 fC.2.2.2.2.2
end
end L2
namespace L2
open PySem PySem.Spec PyProof.Rows
def Ev (t : TE) (σ : St) (H : Hp) (v : V) : Prop := ∀ Q : VK, Q v H → t σ H Q
def EvT (t : TT) (σ : St) (H : Hp) (b : Bool) : Prop := ∀ Q : Bool → Hp → Prop, Q b H → t σ H Q
def EvA (t : TA) (σ : St) (H : Hp) (vs : List V) : Prop := ∀ Q : List V → Hp → Prop, Q vs H → t σ H Q
section
variable {σ : St} {H : Hp} {ta tb tc te : TE} {t u : TT} {i j k : Int} {a b c : Bool} {v x y : V} {K : PySem.W.Frag}
theorem ev_c : Ev (tC v) σ H v := fun _ q => q
theorem ev_var {n : Nat} (h : σ[n]? = some (some v)) : Ev (tVar n) σ H v := fun _ q => ⟨v, h, q⟩
theorem ev_I0 {g : Int → Int → V} (ha : Ev ta σ H (.int i)) (hb : Ev tb σ H (.int j)) : Ev (tOp (rI0 g) ta tb) σ H (g i j) := fun _ q => ha _ (hb _ ⟨i, j, rfl, rfl, q⟩)
theorem ev_lt (ha : Ev ta σ H (.int i)) (hb : Ev tb σ H (.int j)) : Ev (tOp (rI0 fun i j => .bl (decide (i < j))) ta tb) σ H (.bl (decide (i < j))) := ev_I0 (g := fun i j => .bl (decide (i < j))) ha hb
theorem ev_le (ha : Ev ta σ H (.int i)) (hb : Ev tb σ H (.int j)) : Ev (tOp (rI0 fun i j => .bl (decide (i ≤ j))) ta tb) σ H (.bl (decide (i ≤ j))) := ev_I0 (g := fun i j => .bl (decide (i ≤ j))) ha hb
theorem ev_gt (ha : Ev ta σ H (.int i)) (hb : Ev tb σ H (.int j)) : Ev (tOp (rI0 fun i j => .bl (decide (j < i))) ta tb) σ H (.bl (decide (j < i))) := ev_I0 (g := fun i j => .bl (decide (j < i))) ha hb
theorem ev_I {C : Int → Int → Prop} {g : Int → Int → V} (ha : Ev ta σ H (.int i)) (hb : Ev tb σ H (.int j)) (hc : C i j) : Ev (tOp (rI C g) ta tb) σ H (g i j) := fun _ q => ha _ (hb _ ⟨i, j, rfl, rfl, hc, q⟩)
theorem ev_eqI (ha : Ev ta σ H (.int i)) (hb : Ev tb σ H (.int j)) : Ev (tOp rEq ta tb) σ H (.bl (decide (i = j))) := fun Q q => ha _ (hb _ ⟨rfl, by
  have e : decide (V.int i = V.int j) = decide (i = j) := by rw [dec_int]; rfl
  rw [e]; exact q⟩)
theorem ev_chain {p q : Int → Int → Bool} (ha : Ev ta σ H (.int i)) (hb : Ev tb σ H (.int j)) (hc : Ev tc σ H (.int k)) : Ev (tChain (rI0 fun i j => .bl (p i j)) (rI0 fun i j => .bl (q i j)) ta tb tc) σ H (.bl (p i j && q j k)) := fun Q z => by
  refine ha _ (hb _ ⟨i, j, rfl, rfl, p i j, rfl, ?_⟩)
  cases e : p i j with
  | true => rw [if_pos rfl]; rw [e, Bool.true_and] at z; exact hc _ ⟨j, k, rfl, rfl, z⟩
  | false => rw [if_neg Bool.false_ne_true]; rw [e, Bool.false_and] at z; exact z
theorem ev_and (ha : Ev ta σ H (.bl a)) (hb : a = true → Ev tb σ H (.bl b)) : Ev (tAndV ta tb) σ H (.bl (a && b)) := fun Q z => by
  refine ha _ ⟨a, rfl, ?_⟩
  cases a with
  | true => rw [if_pos rfl]; exact hb rfl _ z
  | false => rw [if_neg Bool.false_ne_true]; exact z
theorem ev_or (ha : Ev ta σ H (.bl a)) (hb : a = false → Ev tb σ H (.bl b)) : Ev (tOrV ta tb) σ H (.bl (a || b)) := fun Q z => by
  refine ha _ ⟨a, rfl, ?_⟩
  cases a with
  | true => rw [if_pos rfl]; exact z
  | false => rw [if_neg Bool.false_ne_true]; exact hb rfl _ z
theorem ev_not (ha : Ev ta σ H (.bl a)) : Ev (tNotV ta) σ H (.bl (!a)) := fun _ z => ha _ ⟨a, rfl, z⟩
theorem ev_ixT {p : Addr} {xs : List V} (ha : Ev ta σ H (.ref p)) (hb : Ev tb σ H (.int i)) (hs : SqT K H p xs) (he : atI xs i = some v) : Ev (tOp (rIxT K) ta tb) σ H v := fun _ q => ha _ (hb _ ⟨p, xs, i, v, rfl, rfl, hs, he, q⟩)
theorem ev_ixL {p : Addr} {xs : List V} (ha : Ev ta σ H (.ref p)) (hb : Ev tb σ H (.int i)) (hs : SqL K H p xs) (he : atI xs i = some v) : Ev (tOp (rIxL K) ta tb) σ H v := fun _ q => ha _ (hb _ ⟨p, xs, i, v, rfl, rfl, hs, he, q⟩)
theorem ev_cb {r : List V → Hp → VK → Prop} {vs : List V} {t : TA} (ha : EvA t σ H vs) (hs : ∀ Q : VK, Q v H → r vs H Q) : Ev (tCB r t) σ H v := fun Q q => ha _ (hs Q q)
theorem ea_nil : EvA tNil σ H [] := fun _ q => q
theorem ea_cons {t : TA} {vs : List V} (ha : Ev ta σ H v) (hr : EvA t σ H vs) : EvA (tCons ta t) σ H (v :: vs) := fun _ q => ha _ (hr _ q)
theorem et_test (h : Ev te σ H (.bl b)) : EvT (tTest te) σ H b := fun _ q => h _ ⟨b, rfl, q⟩
theorem et_B (h : Ev te σ H (.bl b)) : EvT (tB te) σ H b := fun _ q => h _ ⟨b, rfl, q⟩
theorem et_not (h : EvT t σ H b) : EvT (tNot t) σ H (!b) := fun _ q => h _ q
theorem et_and (ha : EvT t σ H a) (hb : a = true → EvT u σ H b) : EvT (tAnd t u) σ H (a && b) := fun Q z => by
  refine ha _ ?_
  cases a with
  | true => rw [if_pos rfl]; exact hb rfl _ z
  | false => rw [if_neg Bool.false_ne_true]; exact z
theorem et_or (ha : EvT t σ H a) (hb : a = false → EvT u σ H b) : EvT (tOr t u) σ H (a || b) := fun Q z => by
  refine ha _ ?_
  cases a with
  | true => rw [if_pos rfl]; exact z
  | false => rw [if_neg Bool.false_ne_true]; exact hb rfl _ z
theorem rd_if {tc : TT} {t u : TS} {D : Ends} (h : EvT tc σ H b) (h1 : b = true → t D σ H) (h2 : b = false → u D σ H) : tIfS tc t u D σ H := by
  refine h _ ?_
  cases b with
  | true => rw [if_pos rfl]; exact h1 rfl
  | false => rw [if_neg Bool.false_ne_true]; exact h2 rfl
theorem rd_ifF {tc : TT} {t u : TS} {D : Ends} (h : EvT tc σ H b) (hb : b = false) (h2 : u D σ H) : tIfS tc t u D σ H := rd_if h (fun e => absurd (hb.symm.trans e) Bool.false_ne_true) fun _ => h2
theorem rd_set {n : Nat} {D : Ends} (h : Ev te σ H v) (q : D.nx (σ.set n (some v)) H) : tAsg te (gName n) D σ H := h _ q
theorem rd_ret {D : Ends} (h : Ev te σ H v) (q : D.rt v H) : tRet te D σ H := h _ q
end
theorem cmR {i j : Int} (h1 : -(2 ^ 64) < j) (h2 : j < 2 ^ 64) : CMul i j := .inr ⟨h1, h2⟩
theorem cdB {i j : Int} (h1 : 0 < j) (h2 : j < 2 ^ 200) : CDivB i j := ⟨h1, h2⟩
theorem cpw {i j : Int} (h1 : 0 ≤ j) (h2 : j ≤ 1000000) (h3 : i.natAbs < 2 ^ 64) : CPow i j := ⟨h1, h2, h3⟩
theorem bt_len : bootBuiltins "len" = some (.builtin "len") := by decide +kernel
theorem bt_isinstance : bootBuiltins "isinstance" = some (.builtin "isinstance") := by decide +kernel
theorem bt_int : bootBuiltins "int" = some (.type "int") := by decide +kernel
theorem bt_bool : bootBuiltins "bool" = some (.type "bool") := by decide +kernel
theorem bt_str : bootBuiltins "str" = some (.type "str") := by decide +kernel
theorem bt_tuple : bootBuiltins "tuple" = some (.type "tuple") := by decide +kernel
theorem bt_list : bootBuiltins "list" = some (.type "list") := by decide +kernel
theorem bt_set : bootBuiltins "set" = some (.type "set") := by decide +kernel
theorem bt_all : bootBuiltins "all" = some (.builtin "all") := by decide +kernel
theorem st {t : TS} {D : Ends} {σ : St} {H : Hp} {r : VK} {b c : St → Hp → Prop} (h : t D σ H) : ({ nx := t D, rt := r, bk := b, ct := c } : Ends).nx σ H := h
section
variable {σ : St} {H : Hp} {te : TE} {tc : TT} {t u : TS} {ta : TA} {D : Ends} {b : Bool} {v : V} {vs : List V} {n : Nat} {K : PySem.W.Frag}
theorem sq_set (h : Ev te σ H v) (q : u D (σ.set n (some v)) H) : tSeq (tAsg te (gName n)) u D σ H := h _ q
theorem sq_ifF (h : EvT tc σ H b) (hb : b = false) (q : u D σ H) : tSeq (tIfS tc t tNext) u D σ H := rd_ifF (D := { D with nx := u D }) h hb q
theorem sq_if (h : EvT tc σ H b) (h1 : b = true → t { D with nx := u D } σ H) (h2 : b = false → u D σ H) : tSeq (tIfS tc t tNext) u D σ H := rd_if (D := { D with nx := u D }) h h1 h2
theorem sq_lst (h : EvA ta σ H vs) (hz : vs.length ≤ sizeLine) (q : ∀ p, H p = none → u D (σ.set n (some (.ref p))) (upd H p (.lst vs))) : tSeq (tAsg (tLst ta) (gName n)) u D σ H := h _ ⟨hz, q⟩
theorem or_F {t1 t2 : TT} {Q : Bool → Hp → Prop} (h : EvT t1 σ H b) (hb : b = false) (q : t2 σ H Q) : tOr t1 t2 σ H Q := by
  refine h _ ?_
  rw [hb, if_neg Bool.false_ne_true]
  exact q
theorem if_of {tc : TT} {t u : TS} (q : tc σ H fun b H1 => if b = true then t D σ H1 else u D σ H1) : tIfS tc t u D σ H := q
theorem sq_ifof (q : tc σ H fun b H1 => if b = true then t { D with nx := u D } σ H1 else u D σ H1) : tSeq (tIfS tc t tNext) u D σ H := q
theorem gn {Q : St → Hp → Prop} (q : Q (σ.set n (some v)) H) : gName n v σ H Q := q
end
structure Callee (P : Program) (w : World) (K : PySem.W.Frag) (mg : Str → Option Value) (base : Heap) (x : Str) (k : Nat) (ps : List Str) (sp : Sp) : Prop where
  ex : ∃ f fd, FnOk P w K mg base CX0 k f fd ps sp ∧ mg x = some (.ref f) ∧ PySem.W.keepIn K (.ref f) = true ∧ Binds K fd ps []
theorem pe_cal {X : Cx} {x : Str} {k : Nat} {ps : List Str} {sp : Sp} {p pos : Pos} {e : Expr} {es : List Expr} {t : TA} (C : Callee X.prog X.w X.K X.mg X.base x k ps sp) (hr : Room k X.A) (hg : Gl X x) (ha : PA X (e :: es) t)
    (hdb : (x == ("__debug__" : Str)) = false := by decide) (he : starEach (e :: es) X.env = (false, eval e X.env) :: starEach es X.env := by rfl) (hpl : (backTo pos (starEach es X.env)).any (·.1) = false := by rfl) :
    PE X (.Call (.Name x p) (e :: es) [] pos) (tCall sp [] E0 t) := by
  obtain ⟨f, fd, G, hm, hk, hb⟩ := C.ex
  exact pe_call G hr hg hm hk hb .nil pass0 ha hdb he hpl
theorem SqT.same {K : PySem.W.Frag} {H H' : Hp} {a : Addr} {xs : List V} (e : Same H H') (h : SqT K H a xs) : SqT K H' a xs := by
  rcases h with (h | ⟨o, h⟩) | h
  · exact .inl (.inl (e _ _ h))
  · exact .inl (.inr ⟨o, e _ _ h⟩)
  · exact .inr h
theorem Same.upd {H H' : Hp} (e : Same H H') {p : Addr} {o : HO} (hp : H' p = none) : Same H (upd H' p o) := fun b u h => by
  rw [upd_ne (ne_of_none (e b u h) hp)]
  exact e b u h
end L2
namespace L2
open PySem PySem.Spec PyProof.Rows
section
variable {X : Cx} {tg : Expr}
end
theorem lc_range {lo : Int} {n : Nat} {σ0 : St} {g : TG} {tt : TT} {te : TE} {H1 : Hp} {D : Addr} {Q : Hp → Prop} (Pv : Nat → St → Hp → Prop) (h0 : Pv 0 σ0 (upd H1 D (.lst [])))
    (hs : ∀ i τ H, i < n → Pv i τ H → g (.int (lo + i)) τ H fun τ2 H2 => tt τ2 H2 fun b H3 =>
      if b = true then te τ2 H3 fun v H4 => ∃ acc, H4 D = some (.lst acc) ∧ acc.length < sizeLine ∧ Pv (i + 1) τ2 (upd H4 D (.lst (acc ++ [v]))) else Pv (i + 1) τ2 H3)
    (hd : ∀ τ H, Pv n τ H → Q H) : lcW σ0 g tt te (Itr lo n) H1 D Q := by
  refine ⟨fun i m τ H => m = n - i ∧ i ≤ n ∧ Pv i τ H, ⟨n, by simp, Nat.zero_le _, h0⟩, ?_⟩
  rintro i m τ H ⟨rfl, hi, p⟩
  by_cases hlt : i < n
  · refine .inr ⟨hlt, Pv (i + 1), fun τ' H' p' => ⟨n - (i + 1), by omega, rfl, hlt, p'⟩, fun x H' y => ?_⟩
    obtain ⟨e, y⟩ := y
    subst e y
    exact hs i τ _ hlt p
  · have e : i = n := by omega
    subst e
    exact .inl ⟨Nat.le_refl _, hd τ H p⟩
end L2
namespace L2
open PySem PySem.Spec PyProof.Rows
structure FlyT (h : Heap) (a T : Addr) (cls : Value) : Prop where
  ex : ∃ (oe : Obj) (vs : Array Value) (oT : Obj) (ts : Array Value) (a0 : Value), h.get? a = some oe ∧ oe.cls = cls ∧ vs[0]? = some a0 ∧ oe.data = .fields vs ∧ vs[1]? = some (.ref T) ∧ T ≠ a ∧ h.get? T = some oT ∧ oT.data = .fields ts ∧ ts[3]? = some .none
def CX1 (P : Program) (w : World) : CXT := fun outer H s E e s' => ∃ (a T : Addr) (C : Value) (H' : Hp), e = .ref a ∧ s'.os = s.os ∧ AllBare s'.gens ∧ Un (frs outer) [] H H' s.heap s'.heap ∧ HOk P w H' s'.heap ∧
  H' a = none ∧ H' T = none ∧ s.heap.get? a = none ∧ s.heap.get? T = none ∧ FlyT s'.heap a T C ∧ E C none H'
theorem ObjOk.there {P : Program} {w : World} {H : Hp} {h : Heap} {a : Addr} {o : HO} (x : ObjOk P w H h a o) : ∃ ob, h.get? a = some ob := by
  cases o with
  | lst xs => obtain ⟨_, _, _, _, e⟩ := x; exact ⟨_, e⟩
  | tup xs => obtain ⟨_, _, _, ob, e, _⟩ := x; exact ⟨_, e⟩
  | dK kvs => obtain ⟨_, _, _, _, o, _, _, e, _⟩ := x; exact ⟨_, e⟩
  | dT kvs => obtain ⟨_, _, _, _, o, _, _, e, _⟩ := x; exact ⟨_, e⟩
  | set S n => obtain ⟨o, _, _, _, e, _⟩ := x; exact ⟨_, e⟩
  | ins C dx fs => obtain ⟨_, _, _, e, _⟩ := x; exact ⟨_, e⟩
  | own y => exact x
  | xd fs => obtain ⟨_, ⟨_, _, _, e, _⟩, _⟩ := x; exact ⟨_, e⟩
  | rng lo hi => obtain ⟨_, _, _, e⟩ := x; exact ⟨_, e⟩
  | frz ob u => obtain ⟨e, _⟩ := x; exact ⟨_, e⟩
  | tbl ps => exact ⟨_, (show h.get? a = some _ from x)⟩
  | met f y => exact ⟨_, (show h.get? a = some _ from x)⟩
  | ext φ => exact x.2.1
theorem HOk.none_of {P : Program} {w : World} {H : Hp} {h : Heap} {a : Addr} (x : HOk P w H h) (e : h.get? a = none) : H a = none := by
  cases q : H a with
  | none => rfl
  | some u =>
    obtain ⟨o, z⟩ := (x a u q).there
    rw [e] at z; cases z
theorem HOk.keepT {P : Program} {w : World} {H : Hp} {h h' : Heap} (x : HOk P w H h) (k : ∀ b u, (H b).isSome = true → h.get? b = some u → h'.get? b = some u) : HOk P w H h' := fun a o e =>
  (x a o e).stay (fun b u hb q => k b u (by
    rcases hb with z | z
    · rw [z, e]; rfl
    · rw [z]; rfl) q) (fun _ q => q) fun _ _ q => q
theorem un_pass {fs0 fs1 hid : List Addr} {H0 H : Hp} {h0 h h' : Heap} (u : Un fs0 [] H0 H h0 h) (B : Heap) (hB : B = PySem.W.hideAll h (hid ++ fs1)) (st : B.StaysIn h') (sl : h.UpToSlots h')
    (hh : ∀ b ∈ hid, h0.get? b = none) (hf : ∀ b ∈ fs1, h0.get? b = none ∨ b ∈ fs0) (hd : ∀ b o, b ∈ fs0 → h.get? b = some o → ∀ vs, o.data ≠ .fields vs) (hHf : ∀ b ∈ fs1, H b = none) (hHh : ∀ b ∈ hid, H b = none)
    (hd1 : ∀ b o, b ∈ fs1 → h.get? b = some o → ∀ vs, o.data ≠ .fields vs) :
    Un fs0 [] H0 H h0 h' := by
  have keepH : ∀ b o, h.get? b = some o → b ∉ hid → b ∉ fs1 → h'.get? b = some o := fun b o e n1 n2 => st b o (by
    rw [hB]
    exact PySem.W.hideAll_get _ e fun z => (List.mem_append.mp z).elim n1 n2)
  have nh : ∀ b o, h0.get? b = some o → b ∉ hid := fun b o e z => by rw [hh b z] at e; cases e
  have nf : ∀ b o, h0.get? b = some o → b ∉ fs0 → b ∉ fs1 := fun b o e n z => by
    rcases hf b z with q | q
    · rw [q] at e; cases e
    · exact n q
  refine ⟨fun b o e n hb hx => keepH b o (u.keep b o e n hb hx) (nh b o e) (nf b o e hb), fun b o e n hb hx => ?_, u.free, fun b o e hx => ?_, u.tups, u.frzs, u.tbls⟩
  · obtain ⟨s1, e1⟩ := u.slot b o e n hb hx
    obtain ⟨s2, e2⟩ := sl b _ e1 (hd b _ hb e1)
    exact ⟨s2, e2⟩
  · obtain ⟨o', e1⟩ := u.there b o e hx
    by_cases hb : b ∈ fs1
    · obtain ⟨s2, e2⟩ := sl b _ e1 (hd1 b o' hb e1)
      exact ⟨_, e2⟩
    · exact ⟨o', keepH b o' e1 (nh b o e) hb⟩
section
variable {P : Program} {w : World} {K : PySem.W.Frag} {mg : Str → Option Value} {base : Heap} {N : List Str} {qual : Str} {scope : Scope} {f : Addr} {cd : Value} {A : Around} {outer : List Env} {s₀ : Shared} {H₀ : Hp} {E : XK}
abbrev cx1 (P : Program) (w : World) (K : PySem.W.Frag) (mg : Str → Option Value) (base : Heap) (N : List Str) (qual : Str) (scope : Scope) (f : Addr) (cd : Value) (A : Around) (outer : List Env) (s₀ : Shared) (H₀ : Hp) (E : XK) : Cx :=
  cxOf (CX1 P w) P w K mg base N qual scope f cd A outer s₀ H₀ E
theorem cx1_frames {pins : List (Addr × Obj)} {σ : St} {H : Hp} {s : Shared} (I : Inv (cx1 P w K mg base N qual scope f cd A outer s₀ H₀ E) pins σ H s) :
    ∀ b, b ∈ s₀.heap.objs.size :: frs outer → H b = none ∧ ∃ o, s.heap.get? b = some o ∧ ∀ vs, o.data ≠ .fields vs := fun b hb => by
  have hb' : b ∈ frs (cx1 P w K mg base N qual scope f cd A outer s₀ H₀ E).stack := hb
  exact ⟨I.stkFree b hb', (I.stack.mem hb').2⟩
theorem pass1 {E' : XK} (hE : ∀ C H, E' C none H → E C none H) : Passes (CX1 P w) (cx1 P w K mg base N qual scope f cd A outer s₀ H₀ E) E' := by
  intro pins σ H s e s' I hx
  obtain ⟨a, T, C, H', rfl, os, bare, u, hok, ha, hT, na, nT, fl, q⟩ := hx
  have I' : Inv (cx1 P w K mg base N qual scope f cd A outer s₀ H₀ E) pins σ H' s' := I.call' (ch := []) os u hok bare fun b z => nomatch z
  obtain ⟨oe, vs, oT, ts, a0, he, hc, h0, hd, h1, hTa, hoT, hdT, h3⟩ := fl.ex
  have fr := cx1_frames I'
  have nof : ∀ b o vs, s'.heap.get? b = some o → o.data = .fields vs → b ∉ s₀.heap.objs.size :: frs outer := fun b o vs e d z => by
    obtain ⟨o', e', n⟩ := (fr b z).2
    rw [e] at e'; cases e'
    exact n vs d
  show wpAny (model P w) (A.deeper (envOfC qual scope s₀.heap.objs.size f cd)) (leaving (envOfC qual scope s₀.heap.objs.size f cd) (.ref a)) (fun _ s'' => CX1 P w outer H₀ s₀ E (.ref a) s'') (fun e' s'' => CX1 P w outer H₀ s₀ E e' s'') s'
  have hB : PySem.W.hideAll s'.heap ([a, T] ++ (s₀.heap.objs.size :: frs outer)) = PySem.W.hideAll s'.heap ([a, T] ++ (s₀.heap.objs.size :: frs outer)) := rfl
  revert hB
  generalize hBB : PySem.W.hideAll s'.heap ([a, T] ++ (s₀.heap.objs.size :: frs outer)) = B
  intro _
  have hBn : ∀ b, b ∈ [a, T] ++ (s₀.heap.objs.size :: frs outer) → B.get? b = none := fun b hb => by rw [← hBB]; exact PySem.W.hideAll_none _ hb
  have fly : Heap.FlyingW B (envOfC qual scope s₀.heap.objs.size f cd :: outer) a C a0 s'.heap := by
    refine ⟨fun b o e => ?_, hBn a (by simp), ?_, ⟨oe, vs, T, oT, ts, he, ⟨hc, h0⟩, hd, h1, hBn T (by simp), hTa, hoT, hdT, h3⟩⟩
    · rw [← hBB] at e; exact PySem.W.of_hideAll _ e
    · have z := I'.stack
      rw [← hBB]
      refine PySem.W.funFrames_hide z fun env henv L hL => List.mem_append_right _ ?_
      show L ∈ frs (envOfC qual scope s₀.heap.objs.size f cd :: outer)
      exact List.mem_filterMap.mpr ⟨env, henv, hL⟩
  have hfr : (A.deeper (envOfC qual scope s₀.heap.objs.size f cd)).frames = some (envOfC qual scope s₀.heap.objs.size f cd :: outer) := I'.ok.frames
  refine wpAny_leaves_onW hfr rfl fly fun h' fl' sl => ?_
  obtain ⟨st, _, _, oe', vs', T', oT', ts', he', ⟨hc', h0'⟩, hd', h1', hBT, hTa', hoT', hdT', h3'⟩ := fl'
  have uB : Un (frs outer) [] H₀ H' s₀.heap s'.heap := I'.base
  have hs0L : s₀.heap.get? s₀.heap.objs.size = none := Heap.get?_none_of_le (Nat.le_refl _)
  have s0n : ∀ b, s.heap.get? b = none → s₀.heap.get? b = none := fun b e => by
    cases q : s₀.heap.get? b with
    | none => rfl
    | some o =>
      obtain ⟨o', z⟩ := I.base.there b o q (show b ∉ ([] : List Addr) by simp)
      rw [e] at z; cases z
  have hslots : ∀ b o, b ∈ s₀.heap.objs.size :: frs outer → s'.heap.get? b = some o → ∀ vs, o.data ≠ .fields vs := fun b o hb e vs d => nof b o vs e d hb
  have un := un_pass (fs1 := s₀.heap.objs.size :: frs outer) (hid := [a, T]) uB B hBB.symm st sl (fun b hb => by
      rcases List.mem_cons.mp hb with rfl | hb
      · exact s0n _ na
      · rw [List.mem_singleton.mp hb]; exact s0n _ nT) (fun b hb => by
      rcases List.mem_cons.mp hb with rfl | hb
      · exact .inl hs0L
      · exact .inr hb) (fun b o hb e => hslots b o (List.mem_cons_of_mem _ hb) e) (fun b hb => (fr b hb).1) (fun b hb => by
      rcases List.mem_cons.mp hb with rfl | hb
      · exact ha
      · rw [List.mem_singleton.mp hb]; exact hT) hslots
  have hT'n : s₀.heap.get? T' = none ∧ H' T' = none := by
    by_cases hTT : T' = T
    · subst hTT; exact ⟨s0n _ nT, hT⟩
    · have nfr : T' ∉ s₀.heap.objs.size :: frs outer := fun z => by
        obtain ⟨o', e', n⟩ := (fr T' z).2
        obtain ⟨sl', e2⟩ := sl T' o' e' n
        rw [hoT'] at e2
        have e3 := Option.some.inj e2
        rw [e3] at hdT'
        exact n ts' hdT'
      have nget : s'.heap.get? T' = none := by
        cases q : s'.heap.get? T' with
        | none => rfl
        | some o =>
          have z : B.get? T' = some o := by
            rw [← hBB]
            refine PySem.W.hideAll_get _ q fun m => ?_
            rcases List.mem_append.mp m with m | m
            · rcases List.mem_cons.mp m with m | m
              · exact hTa' m
              · exact hTT (List.mem_singleton.mp m)
            · exact nfr m
          rw [hBT] at z; cases z
      refine ⟨?_, I'.hok.none_of nget⟩
      cases q : s₀.heap.get? T' with
      | none => rfl
      | some o =>
        obtain ⟨o', z⟩ := uB.there T' o q (by simp)
        rw [nget] at z; cases z
  refine ⟨a, T', C, H', rfl, I'.os, I'.bare, un, ?_, ha, hT'n.2, s0n _ na, hT'n.1, ⟨oe', vs', oT', ts', a0, he', hc', h0', hd', h1', hTa', hoT', hdT', h3'⟩, hE _ _ q⟩
  refine I'.hok.keepT fun b u hb e => st b u ?_
  rw [← hBB]
  refine PySem.W.hideAll_get _ e fun m => ?_
  rcases List.mem_append.mp m with m | m
  · rcases List.mem_cons.mp m with rfl | m
    · rw [ha] at hb; cases hb
    · rw [List.mem_singleton.mp m, hT] at hb; cases hb
  · rw [(fr b m).1] at hb; cases hb
theorem made1 {pins : List (Addr × Obj)} {σ : St} {H : Hp} {s : Shared} {a : Addr} {h' : Heap} {C : Value} {args : List Value} (I : Inv (cx1 P w K mg base N qual scope f cd A outer s₀ H₀ E) pins σ H s)
    (hx : Heap.MadeExcOf s.heap h' a C args) (q : E C none H) : (cx1 P w K mg base N qual scope f cd A outer s₀ H₀ E).xe (.ref a) { s with heap := h' } := by
  have fr := cx1_frames I
  show wpAny (model P w) (A.deeper (envOfC qual scope s₀.heap.objs.size f cd)) (leaving (envOfC qual scope s₀.heap.objs.size f cd) (.ref a)) (fun _ s'' => CX1 P w outer H₀ s₀ E (.ref a) s'') (fun e' s'' => CX1 P w outer H₀ s₀ E e' s'') { s with heap := h' }
  generalize hBB : PySem.W.hideAll s.heap ([] ++ (s₀.heap.objs.size :: frs outer)) = B
  have hkb : B.StaysIn s.heap := fun b o e => by rw [← hBB] at e; exact PySem.W.of_hideAll _ e
  have hl : s.heap.FunFrames B (envOfC qual scope s₀.heap.objs.size f cd :: outer) := by
    have z := I.stack
    rw [← hBB]
    exact PySem.W.funFrames_hide z fun env henv L hL => List.mem_append_right _ (show L ∈ frs (envOfC qual scope s₀.heap.objs.size f cd :: outer) from List.mem_filterMap.mpr ⟨env, henv, hL⟩)
  have hfr : (A.deeper (envOfC qual scope s₀.heap.objs.size f cd)).frames = some (envOfC qual scope s₀.heap.objs.size f cd :: outer) := I.ok.frames
  refine wpAny_leaves_madeW (s := { s with heap := h' }) hfr rfl hkb hl hx fun h2 t fl' _ _ sl' => ?_
  have sl : s.heap.UpToSlots h2 := (Heap.UpToSlots.of_keeps hx.keeps).trans sl'
  obtain ⟨st, _, _, oe', vs', T', oT', ts', he', ⟨hc', h0'⟩, hd', h1', hBT, hTa', hoT', hdT', h3'⟩ := fl'
  have uB : Un (frs outer) [] H₀ H s₀.heap s.heap := I.base
  have hs0L : s₀.heap.get? s₀.heap.objs.size = none := Heap.get?_none_of_le (Nat.le_refl _)
  have s0n : ∀ b, s.heap.get? b = none → s₀.heap.get? b = none := fun b e => by
    cases q : s₀.heap.get? b with
    | none => rfl
    | some o =>
      obtain ⟨o', z⟩ := I.base.there b o q (show b ∉ ([] : List Addr) by simp)
      rw [e] at z; cases z
  have hslots : ∀ b o, b ∈ s₀.heap.objs.size :: frs outer → s.heap.get? b = some o → ∀ vs, o.data ≠ .fields vs := fun b o hb e vs d => by
    obtain ⟨o', e', n⟩ := (fr b hb).2
    rw [e] at e'; cases e'
    exact n vs d
  have un := un_pass (fs1 := s₀.heap.objs.size :: frs outer) (hid := []) uB B hBB.symm st sl (fun b hb => nomatch hb) (fun b hb => by
      rcases List.mem_cons.mp hb with rfl | hb
      · exact .inl hs0L
      · exact .inr hb) (fun b o hb e => hslots b o (List.mem_cons_of_mem _ hb) e) (fun b hb => (fr b hb).1) (fun b hb => nomatch hb) hslots
  have nget : s.heap.get? T' = none := by
    cases q : s.heap.get? T' with
    | none => rfl
    | some o =>
      by_cases hf : T' ∈ s₀.heap.objs.size :: frs outer
      · obtain ⟨sl2, e2⟩ := sl T' o q (hslots T' o hf q)
        rw [hoT'] at e2
        have e3 := Option.some.inj e2
        rw [e3] at hdT'
        exact absurd hdT' (hslots T' o hf q ts')
      · have z : B.get? T' = some o := by
          rw [← hBB]
          exact PySem.W.hideAll_get _ q fun m => (List.mem_append.mp m).elim (fun m => nomatch m) hf
        rw [hBT] at z; cases z
  refine ⟨a, T', C, H, rfl, I.os, I.bare, un, ?_, I.hok.none_of hx.new, I.hok.none_of nget, s0n _ hx.new, s0n _ nget, ⟨oe', vs', oT', ts', _, he', hc', h0', hd', h1', hTa', hoT', hdT', h3'⟩, q⟩
  refine I.hok.keepT fun b u hb e => st b u ?_
  rw [← hBB]
  refine PySem.W.hideAll_get _ e fun m => ?_
  rcases List.mem_append.mp m with m | m
  · exact nomatch m
  · rw [(fr b m).1] at hb; cases hb
end
def Raises (X : Cx) (Ex : St → Value → Hp → Prop) : Prop :=
  ∀ (pins : List (Addr × Obj)) (σ : St) (H : Hp) (s : Shared) (a : Addr) (h' : Heap) (C : Value) (args : List Value), Inv X pins σ H s → Heap.MadeExcOf s.heap h' a C args → Ex σ C H → X.xe (.ref a) { s with heap := h' }
def Comes (P : Program) (w : World) (X : Cx) (Ex : St → Value → Hp → Prop) : Prop :=
  ∀ (pins : List (Addr × Obj)) (σ : St) (H : Hp) (s : Shared) (e : Value) (s' : Shared), Inv X pins σ H s → CX1 P w X.stack H s (fun C _ H' => Ex σ C H') e s' → X.xe e s'
def tRaise (Ex : St → Value → Hp → Prop) (C : Value) (t : TA) : TS := fun _ σ H => t σ H fun vs H1 => vs.length ≤ sizeLine ∧ Ex σ C H1
def tCalX (Ex : St → Value → Hp → Prop) (sp : Sp) (dvs : List V) (t : TA) : TE := fun σ H Q => t σ H fun vs H1 => sp (vs ++ dvs) H1 Q fun C _ H' => Ex σ C H'
section
variable {X : Cx}
theorem ps_raise {Ex : St → Value → Hp → Prop} {x : Str} {C : Addr} {bm : List Value} {B newId initId : String} {e₀ : Expr} {rest : List Expr} {t : TA} {np cpos pos : Pos} (O : OwnCls x C bm newId X.mg X.base) (FB : ExcBaseFacts B newId initId bm) (hc : X.calm = true) (hg : Gl X x)
    (hx : Raises X Ex) (ha : PA X (e₀ :: rest) t) (hd : (x == ("__debug__" : Str)) = false := by decide) (he : starEach (e₀ :: rest) X.env = (false, eval e₀ X.env) :: starEach rest X.env := by rfl)
    (hpl : (backTo cpos (starEach rest X.env)).any (·.1) = false := by rfl) : PS X (.Raise (some (.Call (.Name x np) (e₀ :: rest) [] cpos)) none pos) (tRaise Ex (.ref C) t) := by
  intro pins s σ H D I h
  obtain ⟨tl, Nm, nm, q, bs, hdct, sn, sub, ab, col, dd, k0, k1, k2, k3, k5, mN, hC, hN, hni, T⟩ := O.obj
  refine wpAny_Raise_call_subT FB (mN := mN) (k5 := k5) (k3 := k3) (k2 := k2) (k1 := k1) (k0 := k0) (dd := dd) (col := col) (ab := ab) (sub := sub) (sn := sn) (hdct := hdct)
    (bm := tl) (bs := bs) (N := Nm) (q := q) (nm := nm) (C := C) (T.hasType FB.hasBase) (I.ok.hd hc) ?_ hni (ld_glob I hg O.bound ⟨rfl, ?_⟩ hd)
  · rw [he]
    show (false || (backTo cpos (starEach rest X.env)).any (·.1)) = false
    rw [hpl]; rfl
  · have hA := ha cpos pins s σ H _ I h
    rw [he] at hA ⊢
    refine Calls.evalArgs_plain (thn hA fun us s2 ⟨vs, H2, I2, r2, hz, q2⟩ => ?_)
    exact ⟨rfl, by rw [← r2.length]; exact hz, I2.bk _ _ hC, hN.keeps I2.bk, T.keeps I2.bk, fun h' e hm => hx pins σ H2 s2 e h' _ _ I2 hm q2⟩
structure CalleeX (P : Program) (w : World) (K : PySem.W.Frag) (mg : Str → Option Value) (base : Heap) (x : Str) (k : Nat) (ps : List Str) (sp : Sp) : Prop where
  ex : ∃ f fd, FnOk P w K mg base (CX1 P w) k f fd ps sp ∧ mg x = some (.ref f) ∧ PySem.W.keepIn K (.ref f) = true ∧ Binds K fd ps []
theorem pe_calX {Ex : St → Value → Hp → Prop} {x : Str} {k : Nat} {ps : List Str} {sp : Sp} {p pos : Pos} {e : Expr} {es : List Expr} {t : TA} (C : CalleeX X.prog X.w X.K X.mg X.base x k ps sp) (hr : Room k X.A) (hg : Gl X x) (hx : Comes X.prog X.w X Ex) (ha : PA X (e :: es) t)
    (hdb : (x == ("__debug__" : Str)) = false := by decide) (he : starEach (e :: es) X.env = (false, eval e X.env) :: starEach es X.env := by rfl) (hpl : (backTo pos (starEach es X.env)).any (·.1) = false := by rfl) :
    PE X (.Call (.Name x p) (e :: es) [] pos) (tCalX Ex sp [] t) := by
  obtain ⟨f, fd, F, hm, hk, hb⟩ := C.ex
  intro pins s σ H Q I h
  refine wpAny_Call_Name_kw (ld_glob I hg hm ?_ hdb)
  refine PySem.W.callWith_K (h₀ := X.base) I.ok.mod.kin hk (thn (ha pos pins s σ H _ I h) fun us s1 ⟨vs, H1, I1, r, q⟩ => ⟨I1.kIn, ?_⟩) he hpl
  have r2 : Vals (vs ++ []) (us ++ []) := r.append .nil
  have hl : (us ++ []).length = ps.length := by rw [← r2.length]; exact F.len _ _ _ _ q
  refine wpAny_call (codeAny_mono (F.run X.A X.stack s1 H1 ⟨us, []⟩ (us ++ []) (vs ++ []) Q _ hr I1.env0 (hb s1 us I1.kIn hl) r2 q) fun r s' hq => ?_)
  cases r with
  | error e => exact hx pins σ H1 s1 e s' I1 hq
  | ok fl =>
    cases fl with
    | ret u => exact I1.after hq
    | next => exact False.elim hq
    | brk => exact False.elim hq
    | cont => exact False.elim hq
end
section
variable {P : Program} {w : World} {K : PySem.W.Frag} {mg : Str → Option Value} {base : Heap} {N : List Str} {qual : Str} {scope : Scope} {f : Addr} {cd : Value} {A : Around} {outer : List Env} {s₀ : Shared} {H₀ : Hp} {E : XK}
theorem raises1 : Raises (cx1 P w K mg base N qual scope f cd A outer s₀ H₀ E) fun _ C H => E C none H := fun pins σ H s a h' C args I hx q => made1 I hx q
theorem comes1 : Comes P w (cx1 P w K mg base N qual scope f cd A outer s₀ H₀ E) fun _ C H => E C none H := fun pins σ H s e s' I hx => by
  exact pass1 (E' := fun C _ H' => E C none H') (fun C H q => q) pins σ H s e s' I hx
end
end L2
namespace L2
open PySem PySem.Spec PyProof.Rows
section
variable {P : Program} {w : World} {K : PySem.W.Frag} {mg : Str → Option Value} {base : Heap}
theorem Fun.okX {x qual : Str} {st : Stmt} {f : Addr} {fd : FuncData} {N ps : List Str} {k : Nat} {sp : Sp} (F : Fun K x qual st f fd) (S : FnScope N ps (defScope st)) (len : ∀ vs H Q E, sp vs H Q E → vs.length = ps.length)
    (hbody : ∀ (cdv : Value) (A : Around) (outer : List Env) (s : Shared) (H : Hp) (vs : List V) (Q : VK) (E : XK), Room k (A.deeper (envOfC qual (defScope st) s.heap.objs.size f cdv)) → sp vs H Q E →
      ∃ t, PSs (cx1 P w K mg base N qual (defScope st) f cdv A outer s H E) (defBody st) t ∧ t { nx := fun _ H' => Q .non H', rt := Q } (start N vs) H) : FnOk P w K mg base (CX1 P w) (k + 1) f fd ps sp := by
  obtain ⟨oc, od, kV, doc, pm, an, cdv, ct, osl, rfl, lk, hcd⟩ := F.ex
  exact fn_of lk hcd S len fun A outer s H vs Q E hr hsp => hbody cdv A outer s H vs Q E hr hsp
end
def tryB (X : Cx) (xe : Value → Shared → Prop) (pn : List (Addr × Obj)) : Cx := { X with xe := xe, pn := pn }
def cxH (X : Cx) (a : Addr) : Cx := { X with A := X.A.mark (some (.ref a)), calm := false, xe := fun _ _ => False }
def excO (a : Addr) (C : Value) : HO := .ext fun h => ∃ o vs, h.get? a = some o ∧ o.cls = C ∧ o.data = .fields vs
section
variable {X : Cx} {pins : List (Addr × Obj)} {σ : St} {H : Hp} {s : Shared}
theorem ok_tryB {xe : Value → Shared → Prop} {pn : List (Addr × Obj)} (ok : X.Ok) : (tryB X xe pn).Ok :=
  ⟨ok.mod, ok.kind, ok.glob, ok.blt, ok.above, ok.inj, ok.has, ok.cab, ok.hd, ok.frames, ok.stk, ok.exf, ok.bs, ok.bsz, ok.noex, ok.exfs, ok.funs, ok.frf⟩
theorem ok_ofB {xe : Value → Shared → Prop} {pn : List (Addr × Obj)} (ok : (tryB X xe pn).Ok) : X.Ok :=
  ⟨ok.mod, ok.kind, ok.glob, ok.blt, ok.above, ok.inj, ok.has, ok.cab, ok.hd, ok.frames, ok.stk, ok.exf, ok.bs, ok.bsz, ok.noex, ok.exfs, ok.funs, ok.frf⟩
theorem ok_cxH {a : Addr} (ok : X.Ok) : (cxH X a).Ok :=
  ⟨ok.mod, ok.kind, ok.glob, ok.blt, ok.above, ok.inj, ok.has, ok.cab, fun z => absurd z Bool.false_ne_true, ok.frames, ok.stk, ok.exf, ok.bs, ok.bsz, ok.noex, ok.exfs, ok.funs, ok.frf⟩
theorem ok_ofH {a : Addr} (ok : (cxH X a).Ok) (hd : X.calm = true → X.A.handled = none) : X.Ok :=
  ⟨ok.mod, ok.kind, ok.glob, ok.blt, ok.above, ok.inj, ok.has, ok.cab, hd, ok.frames, ok.stk, ok.exf, ok.bs, ok.bsz, ok.noex, ok.exfs, ok.funs, ok.frf⟩
theorem inv_tryB {xe : Value → Shared → Prop} (I : Inv X pins σ H s) : Inv (tryB X xe (X.pn ++ pins)) [] σ H s :=
  ⟨ok_tryB I.ok, I.os, I.bare, I.base, I.loc, I.cell, I.free, I.freeC, fun p hp => I.pin p (by simpa [L2.tryB] using hp), I.hok, I.len⟩
theorem inv_ofB {xe : Value → Shared → Prop} {pins' : List (Addr × Obj)} (I : Inv (L2.tryB X xe (X.pn ++ pins)) pins' σ H s) : Inv X pins σ H s :=
  ⟨ok_ofB I.ok, I.os, I.bare, I.base, I.loc, I.cell, I.free, I.freeC, fun p hp => I.pin p (List.mem_append_left _ hp), I.hok, I.len⟩
theorem inv_cxH {a : Addr} (I : Inv X pins σ H s) : Inv (cxH X a) pins σ H s :=
  ⟨ok_cxH I.ok, I.os, I.bare, I.base, I.loc, I.cell, I.free, I.freeC, I.pin, I.hok, I.len⟩
theorem inv_ofH {a : Addr} (I : Inv (L2.cxH X a) pins σ H s) (hd : X.calm = true → X.A.handled = none) : Inv X pins σ H s :=
  ⟨ok_ofH I.ok hd, I.os, I.bare, I.base, I.loc, I.cell, I.free, I.freeC, I.pin, I.hok, I.len⟩
theorem Inv.track {a : Addr} {o : HO} (I : Inv X pins σ H s) (ha : H a = none) (na : X.s₀.heap.get? a = none) (hL : X.env.locals ≠ a) (hC : ∀ x c, X.env.cells.lookup x = some c → c ≠ a) (hp : ∀ p ∈ X.pn ++ pins, p.1 ≠ a)
    (new : ObjOk X.prog X.w (upd H a o) s.heap a o) : Inv X pins σ (upd H a o) s := by
  have ne : ∀ b u, H b = some u → b ≠ a := fun b u e z => by rw [z, ha] at e; cases e
  have up : ∀ b u, H b = some u → upd H a o b = some u := fun b u e => by rw [upd_ne (ne b u e)]; exact e
  refine ⟨I.ok, I.os, I.bare, ⟨I.base.keep, I.base.slot, fun b ob e n hx => ?_, I.base.there, fun b xs e => up _ _ (I.base.tups b xs e), fun b ob u e => up _ _ (I.base.frzs b ob u e), fun b ps e => ?_⟩, I.loc, I.cell, ?_, fun x c e => ?_, fun p hpp => ?_, fun b u e => ?_, I.len⟩
  · have z : b ≠ a := fun z => by rw [z, na] at e; cases e
    rw [upd_ne z]; exact I.base.free b ob e n hx
  · obtain ⟨m, e'⟩ := I.base.tbls b ps e
    exact ⟨m, up _ _ e'⟩
  · rw [upd_ne hL]; exact I.free
  · rw [upd_ne (hC x c e)]; exact I.freeC x c e
  · obtain ⟨p1, p2, p3, p4, p5⟩ := I.pin p hpp
    exact ⟨p1, by rw [upd_ne (hp p hpp)]; exact p2, p3, p4, p5⟩
  · by_cases hb : b = a
    · subst hb; rw [upd_same] at e; cases e; exact new
    · rw [upd_ne hb] at e
      exact (I.hok b u e).stay (fun _ _ _ q => q) (fun c q => up _ _ q) fun c xs q => up _ _ q
theorem Inv.land {a T : Addr} {B h5 : Heap} (I : Inv X pins σ H s) (hex : X.ex = []) (hst : X.stack = X.env :: X.outer) (hfr : X.env.frame = some X.env.locals) (ha : H a = none) (hT : H T = none) (na : X.s₀.heap.get? a = none) (nT : X.s₀.heap.get? T = none)
    (np : ∀ p ∈ X.pn ++ pins, p.1 ≠ a ∧ p.1 ≠ T) (hBB : PySem.W.hideAll s.heap ([a, T] ++ frs X.stack) = B) (st : B.StaysIn h5) (sl : s.heap.UpToSlots h5) : Inv X pins σ H { s with heap := h5 } := by
  have efs : frs X.stack = X.env.locals :: X.fs := by
    rw [hst]
    show List.filterMap (·.frame) (X.env :: X.outer) = _
    rw [List.filterMap_cons, hfr]
    rfl
  have keepH : ∀ b o, s.heap.get? b = some o → b ≠ a → b ≠ T → b ∉ frs X.stack → h5.get? b = some o := fun b o e n1 n2 n3 => st b o (by
    rw [← hBB]
    refine PySem.W.hideAll_get _ e fun z => ?_
    rcases List.mem_append.mp z with z | z
    · rcases List.mem_cons.mp z with z | z
      · exact n1 z
      · exact n2 (List.mem_singleton.mp z)
    · exact n3 z)
  have hd1 : ∀ b o, b ∈ frs X.stack → s.heap.get? b = some o → ∀ vs, o.data ≠ .fields vs := fun b o hb e vs d => by
    obtain ⟨_, o', e', n⟩ := I.stack.mem hb
    rw [e] at e'; cases e'
    exact n vs d
  have n0 : X.s₀.heap.get? X.env.locals = none := Heap.get?_none_of_le I.ok.above
  have uB := I.base
  rw [hex] at uB
  have un := un_pass (fs1 := frs X.stack) (hid := [a, T]) uB B hBB.symm st sl (fun b hb => by
      rcases List.mem_cons.mp hb with rfl | hb
      · exact na
      · rw [List.mem_singleton.mp hb]; exact nT) (fun b hb => by
      rw [efs] at hb
      rcases List.mem_cons.mp hb with rfl | hb
      · exact .inl n0
      · exact .inr hb) (fun b o hb e => hd1 b o (by rw [efs]; exact List.mem_cons_of_mem _ hb) e) I.stkFree (fun b hb => by
      rcases List.mem_cons.mp hb with rfl | hb
      · exact ha
      · rw [List.mem_singleton.mp hb]; exact hT) hd1
  have cellK : ∀ c v, s.heap.IsCell c v → h5.IsCell c v := fun c v ⟨o, e, d⟩ => by
    obtain ⟨s2, e2⟩ := sl c o e fun vs z => by rw [d] at z; cases z
    exact ⟨_, e2, d⟩
  refine ⟨I.ok, I.os, I.bare, by rw [hex]; exact un, ?_, fun x c e => ?_, I.free, I.freeC, fun p hp => ?_, ?_, I.len⟩
  · obtain ⟨m, hn, hl⟩ := I.loc
    refine ⟨m, sl.ns hn, fun i x v e1 e2 e3 => ?_⟩
    obtain ⟨u, r, lk⟩ := hl i x v e1 e2 e3
    refine ⟨u, r, ?_⟩
    rcases lk with lk | ⟨k, c, e, z⟩
    · exact .inl lk
    · exact .inr ⟨k, c, e, cellK c _ z⟩
  · obtain ⟨v, z⟩ := I.cell x c e
    exact ⟨v, cellK c v z⟩
  · obtain ⟨p1, p2, p3, p4, p5⟩ := I.pin p hp
    refine ⟨keepH p.1 p.2 p1 (np p hp).1 (np p hp).2 ?_, p2, p3, p4, p5⟩
    rw [efs]
    exact fun z => (List.mem_cons.mp z).elim p3 p4
  · refine I.hok.keepT fun b u hb e => keepH b u e (fun z => ?_) (fun z => ?_) fun z => ?_
    · rw [z, ha] at hb; cases hb
    · rw [z, hT] at hb; cases hb
    · rw [I.stkFree b z] at hb; cases hb
end
def tTry (K : PySem.W.Frag) (CW : Value) (tb : (St → Value → Hp → Prop) → (Value → Shared → Prop) → List (Addr × Obj) → TS) (ts : Addr → TS) (i : Nat) : TS := fun D σ H => ∃ Ex : St → Value → Hp → Prop, (∀ xe pn, tb Ex xe pn D σ H) ∧ ∀ σ' C H', Ex σ' C H' → PySem.W.exmOne K C CW = some true ∧
  ∀ a, H' a = none → ts a { nx := fun σ H => D.nx (σ.set i none) H, rt := D.rt, bk := fun σ H => D.bk (σ.set i none) H, ct := fun σ H => D.ct (σ.set i none) H } (σ'.set i (some (.ref a))) (upd H' a (excO a C))
section
variable {X : Cx}
theorem goes_ok {pins : List (Addr × Obj)} {σ : St} {H : Hp} {s : Shared} {i : Nat} {n : Str} {pos : Pos} {A : Around} {E : Value → Shared → Prop} {Q : Unit → Shared → Prop} (I : Inv X pins σ H s) (hN : X.N.Nodup) (hi : X.N[i]? = some n) (hl : X.env.kindOf n = some .local)
    (h : ∀ s', Inv X pins (σ.set i none) H s' → Q () s') : wpAny (model X.prog X.w) A (do bindName X.env n .none; unbindBehindTheSuite X.env n pos) Q E s := by
  obtain ⟨m, hn, hlo⟩ := id I.loc
  have hcls : (X.env.scope.kind == .class || (X.env.scope.kind == .module && X.env.locals != X.env.globals)) = false := by rw [I.ok.kind]; rfl
  refine wpAny_nameGoes_keeps hl hn hcls fun h' v hn' hs => h _ ?_
  have ab : ∀ b o, X.s₀.heap.get? b = some o → b ≠ X.env.locals := fun b o e => Nat.ne_of_lt (Nat.lt_of_lt_of_le (Heap.lt_size e) I.ok.above)
  obtain ⟨oL, _, _, hoL, _⟩ := id hn
  refine ⟨I.ok, I.os, I.bare, ⟨fun b o e n hb hx => ?_, fun b o e n hb hx => ?_, I.base.free, fun b o e hx => ?_, I.base.tups, I.base.frzs, I.base.tbls⟩, ⟨_, hn', fun j y v' e1 e2 e3 => ?_⟩, fun y c e => ?_, I.free, I.freeC, fun p hp => ?_, ?_, by simpa using I.len⟩
  · exact (hs.2 b (ab b o e)).trans (I.base.keep b o e n hb hx)
  · obtain ⟨sl, e1⟩ := I.base.slot b o e n hb hx
    exact ⟨sl, (hs.2 b (ab b o e)).trans e1⟩
  · obtain ⟨o', e1⟩ := I.base.there b o e hx
    exact ⟨o', (hs.2 b (ab b o e)).trans e1⟩
  · by_cases hj : j = i
    · subst hj
      have hiσ : j < σ.length := by rw [I.len]; exact (List.getElem?_eq_some_iff.mp hi).1
      rw [List.getElem?_set_self hiσ] at e2
      cases e2
    · rw [List.getElem?_set_ne (Ne.symm hj)] at e2
      obtain ⟨u', r', q⟩ := hlo j y v' e1 e2 e3
      refine ⟨u', r', ?_⟩
      rcases q with ⟨k, e⟩ | ⟨k, c, e, z⟩
      · refine .inl ⟨k, ?_⟩
        have hyn : y ≠ n := fun e => hj (nodup_ix hN e1 (e ▸ hi))
        simp [hyn, e]
      · exact .inr ⟨k, c, e, z.sameBut hs (I.cne y c e)⟩
  · obtain ⟨w', z⟩ := I.cell y c e
    exact ⟨w', z.sameBut hs (I.cne y c e)⟩
  · obtain ⟨e, nn, ne, nf, d⟩ := I.pin p hp
    exact ⟨(hs.2 p.1 ne).trans e, nn, ne, nf, d⟩
  · refine I.hok.keepT fun b u hb e => (hs.2 b fun z => ?_).trans e
    rw [z, I.free] at hb; cases hb
theorem fly_of {B h : Heap} {l : List Env} {a T : Addr} {C : Value} (hBa : B.get? a = none) (st : B.StaysIn h) (hl : h.FunFrames B l) (fl : FlyT h a T C) (hBT : B.get? T = none) : ∃ a0, Heap.FlyingW B l a C a0 h := by
  obtain ⟨oe, vs, oT, ts, a0, he, hc, h0, hd, h1, hTa, hoT, hdT, h3⟩ := fl.ex
  exact ⟨a0, st, hBa, hl, oe, vs, T, oT, ts, he, ⟨hc, h0⟩, hd, h1, hBT, hTa, hoT, hdT, h3⟩
theorem noted_ok {pins : List (Addr × Obj)} {σ : St} {H : Hp} {s : Shared} {a T : Addr} {C : Value} {E : Value → Shared → Prop} {Q : Unit → Shared → Prop} (I : Inv X pins σ H s) (hex : X.ex = []) (hst : X.stack = X.env :: X.outer) (hfr : X.env.frame = some X.env.locals)
    (ha : H a = none) (hT : H T = none) (na : X.s₀.heap.get? a = none) (nT : X.s₀.heap.get? T = none) (np : ∀ p ∈ X.pn ++ pins, p.1 ≠ a ∧ p.1 ≠ T) (fl : FlyT s.heap a T C)
    (h : ∀ s' T', Inv X pins σ H s' → H T' = none → X.s₀.heap.get? T' = none → (∀ p ∈ X.pn ++ pins, p.1 ≠ a ∧ p.1 ≠ T') → FlyT s'.heap a T' C → Q () s') :
    wpAny (model X.prog X.w) X.A (noteFrame (.ref a) X.env) (fun _ s₂ => wpAny (model X.prog X.w) X.A (setFlight (.ref a) none) Q E s₂) E s := by
  generalize hBB : PySem.W.hideAll s.heap ([a, T] ++ frs X.stack) = B
  have hBn : ∀ b, b ∈ [a, T] ++ frs X.stack → B.get? b = none := fun b hb => by rw [← hBB]; exact PySem.W.hideAll_none _ hb
  have st0 : B.StaysIn s.heap := fun b o e => by rw [← hBB] at e; exact PySem.W.of_hideAll _ e
  have hl : s.heap.FunFrames B (X.env :: X.outer) := by
    have z := I.stack
    rw [← hBB, ← hst]
    exact PySem.W.funFrames_hide z fun env henv L hL => List.mem_append_right _ (List.mem_filterMap.mpr ⟨env, henv, hL⟩)
  obtain ⟨a0, fw⟩ := fly_of (hBn a (by simp)) st0 hl fl (hBn T (by simp))
  have hfrs : X.A.frames = some (X.env :: X.outer) := by rw [← hst]; exact I.ok.frames
  refine wpAny_looks_onW hfrs hfr fw fun h4 held4 sl4 => ?_
  refine wpAny_landsW (s := { s with heap := h4 }) held4 fun h5 fw5 sl5 => ?_
  have sl : s.heap.UpToSlots h5 := sl4.trans sl5
  obtain ⟨st5, _, _, oe', vs', T', oT', ts', he', ⟨hc', h0'⟩, hd', h1', hBT, hTa', hoT', hdT', h3'⟩ := fw5
  have hd1 : ∀ b o, b ∈ frs X.stack → s.heap.get? b = some o → ∀ vs, o.data ≠ .fields vs := fun b o hb e vs d => by
    obtain ⟨_, o', e', n⟩ := I.stack.mem hb
    rw [e] at e'; cases e'
    exact n vs d
  have hT' : T' = T ∨ s.heap.get? T' = none := by
    cases q : s.heap.get? T' with
    | none => exact .inr rfl
    | some o =>
      by_cases hTT : T' = T
      · exact .inl hTT
      · by_cases hf : T' ∈ frs X.stack
        · obtain ⟨sl2, e2⟩ := sl T' o q (hd1 T' o hf q)
          rw [hoT'] at e2
          have e3 := Option.some.inj e2
          rw [e3] at hdT'
          exact absurd hdT' (hd1 T' o hf q ts')
        · have z : B.get? T' = some o := by
            rw [← hBB]
            refine PySem.W.hideAll_get _ q fun m => ?_
            rcases List.mem_append.mp m with m | m
            · rcases List.mem_cons.mp m with m | m
              · exact hTa' m
              · exact hTT (List.mem_singleton.mp m)
            · exact hf m
          rw [hBT] at z; cases z
  have I5 := I.land hex hst hfr ha hT na nT np hBB st5 sl
  refine h { s with heap := h5 } T' I5 ?_ ?_ (fun p hp => ⟨(np p hp).1, ?_⟩) ⟨oe', vs', oT', ts', a0, he', hc', h0', hd', h1', hTa', hoT', hdT', h3'⟩
  · rcases hT' with rfl | z
    · exact hT
    · exact I.hok.none_of z
  · rcases hT' with rfl | z
    · exact nT
    · cases q : X.s₀.heap.get? T' with
      | none => rfl
      | some o =>
        obtain ⟨o', z'⟩ := I.base.there T' o q (by rw [hex]; simp)
        rw [z] at z'; cases z'
  · rcases hT' with rfl | z
    · exact (np p hp).2
    · intro e
      have := (I.pin p hp).1
      rw [e, z] at this; cases this
theorem lands_ok {pins : List (Addr × Obj)} {σ : St} {H : Hp} {s : Shared} {a T : Addr} {C : Value} {A : Around} {E : Value → Shared → Prop} {Q : Unit → Shared → Prop} (I : Inv X pins σ H s) (hex : X.ex = []) (hst : X.stack = X.env :: X.outer) (hfr : X.env.frame = some X.env.locals)
    (ha : H a = none) (hT : H T = none) (na : X.s₀.heap.get? a = none) (nT : X.s₀.heap.get? T = none) (np : ∀ p ∈ X.pn ++ pins, p.1 ≠ a ∧ p.1 ≠ T) (fl : FlyT s.heap a T C)
    (h : ∀ s', Inv X pins σ H s' → (∃ T', FlyT s'.heap a T' C) → Q () s') : wpAny (model X.prog X.w) A (setFlight (.ref a) none) Q E s := by
  generalize hBB : PySem.W.hideAll s.heap ([a, T] ++ frs X.stack) = B
  have hBn : ∀ b, b ∈ [a, T] ++ frs X.stack → B.get? b = none := fun b hb => by rw [← hBB]; exact PySem.W.hideAll_none _ hb
  have st0 : B.StaysIn s.heap := fun b o e => by rw [← hBB] at e; exact PySem.W.of_hideAll _ e
  have hl : s.heap.FunFrames B (X.env :: X.outer) := by
    have z := I.stack
    rw [← hBB, ← hst]
    exact PySem.W.funFrames_hide z fun env henv L hL => List.mem_append_right _ (List.mem_filterMap.mpr ⟨env, henv, hL⟩)
  obtain ⟨a0, fw⟩ := fly_of (hBn a (by simp)) st0 hl fl (hBn T (by simp))
  refine wpAny_setFlight_noneW fw.1 fw.2.2.1 fw.2.2.2.at fun h' st _ tr kp => ?_
  obtain ⟨oe', vs', T', oT', ts', he', ⟨hc', h0'⟩, hd', h1', _, hTa', hoT', hdT', h3'⟩ := tr
  exact h _ (I.land hex hst hfr ha hT na nT np hBB st fun b o e n => ⟨o.slots, kp b o e n⟩) ⟨T', ⟨oe', vs', oT', ts', a0, he', hc', h0', hd', h1', hTa', hoT', hdT', h3'⟩⟩
theorem ps_try1 {body suite : List Stmt} {b₀ : Stmt} {tb : (St → Value → Hp → Prop) → (Value → Shared → Prop) → List (Addr × Obj) → TS} {ts : Addr → TS} {i : Nat} {n cx : Str} {CW : Addr} {np hpos pos : Pos} (hc : X.calm = true) (hN : X.N.Nodup) (hi : X.N[i]? = some n) (hl : X.env.kindOf n = some .local)
    (hex : X.ex = []) (hst : X.stack = X.env :: X.outer) (hfr : X.env.frame = some X.env.locals) (hg : Gl X cx) (hm : X.mg cx = some (.ref CW))
    (hb : ∀ Ex xe pn, Comes X.prog X.w (tryB X xe pn) Ex → PSs (tryB X xe pn) body (tb Ex xe pn)) (hs : ∀ a, PSs (cxH X a) (b₀ :: suite) (ts a)) (hd : (cx == ("__debug__" : Str)) = false := by decide) :
    PS X (.Try body [.ExceptHandler (some (.Name cx np)) (some n) (b₀ :: suite) hpos] [] [] pos) (tTry X.K (.ref CW) tb ts i) := by
  intro pins s σ H D I h
  obtain ⟨Ex, htb, hh⟩ := h
  refine wpAny_Try_except ?_
  generalize hxe : (fun (e : Value) (s₁ : Shared) => wpAny (model X.prog X.w) X.A (noteFrame e X.env) (fun _ s₂ => wpAny (model X.prog X.w) X.A (setFlight e none) (fun _ s₃ =>
      wpAny (model X.prog X.w) X.A (handleBy e X.env [.ExceptHandler (some (.Name cx np)) (some n) (b₀ :: suite) hpos]) (SP X pins D) X.xe s₃) X.xe s₂) X.xe s₁) = xe
  have hC : Comes X.prog X.w (tryB X xe (X.pn ++ pins)) Ex := by
    intro pins' σ' H1 s1 e s2 I1 hx
    obtain ⟨a, T, C, H2, rfl, os, bare, u, hok, ha, hT, na, nT, fl, q⟩ := hx
    show xe (.ref a) s2
    rw [← hxe]
    have I1' : Inv X pins σ' H1 s1 := inv_ofB I1
    have I2 : Inv X pins σ' H2 s2 := I1'.call' (ch := []) os u hok bare fun b z => nomatch z
    have s0n : ∀ b, s1.heap.get? b = none → X.s₀.heap.get? b = none := fun b e => by
      cases q : X.s₀.heap.get? b with
      | none => rfl
      | some o =>
        obtain ⟨o', z⟩ := I1'.base.there b o q (by rw [hex]; simp)
        rw [e] at z; cases z
    have np1 : ∀ p ∈ X.pn ++ pins, p.1 ≠ a ∧ p.1 ≠ T := fun p hp => by
      have z := (I1'.pin p hp).1
      exact ⟨fun e => (by rw [e, na] at z; cases z), fun e => (by rw [e, nT] at z; cases z)⟩
    refine noted_ok I2 hex hst hfr ha hT (s0n _ na) (s0n _ nT) np1 fl fun s3 T3 I3 hT3 nT3 np3 fl3 => ?_
    obtain ⟨hmat, hsu⟩ := hh σ' C H2 q
    refine wpAny_handleBy_cons ?_ (by intro z; cases z)
    refine codeAny_handlers_test ?_
    refine ld_glob (X := cxH X a) (inv_cxH I3) hg hm ?_ hd
    obtain ⟨oe, vs, oT, tts, a0, he, hcls, _, hdat, _⟩ := fl3.ex
    have LT : PySem.W.Looks (model X.prog X.w) s3.heap (typeOf (.ref a)) C := hcls ▸ (PySem.W.Looks.ld he).andThen .now
    refine (PySem.W.exm_one I3.kIn LT hmat).here ?_
    refine codeAny_handlers_suite_as ?_
    refine lands_ok I3 hex hst hfr ha hT3 (s0n _ na) nT3 np3 fl3 fun s4 I4 ⟨T4, fl4⟩ => ?_
    have hLa : X.env.locals ≠ a := fun e => by
      obtain ⟨_, ⟨o, _, _, ho, _⟩, _⟩ := I1'.loc
      rw [e, na] at ho; cases ho
    have hCa : ∀ x c, X.env.cells.lookup x = some c → c ≠ a := fun x c e z => by
      obtain ⟨_, o, ho, _⟩ := I1'.cell x c e
      rw [z, na] at ho; cases ho
    obtain ⟨oe4, vs4, _, _, _, he4, hc4, _, hd4, _⟩ := fl4.ex
    have I5 : Inv X pins σ' (upd H2 a (excO a C)) s4 := I4.track ha (s0n _ na) hLa hCa (fun p hp => (np1 p hp).1)
      ⟨⟨oe4, vs4, he4, hc4, hd4⟩, ⟨oe4, he4⟩, fun h1 h2 ⟨o, v, e1, e2, e3⟩ k => ⟨o, v, k o e1, e2, e3⟩⟩
    refine store_ok (v := .ref a) I5 hN hi (.inl hl) rfl (fun s5 I6 => ?_) (.inr hl)
    refine wpAny_mono (hs a pins s5 _ _ _ (inv_cxH I6) (hsu a ha)) (fun f s6 hf => ?_) fun _ _ z => z.elim
    cases f with
    | next =>
      obtain ⟨σ6, H6, I7, q6⟩ := hf
      exact goes_ok (inv_ofH I7 I.ok.hd) hN hi hl fun s7 I8 => ⟨_, _, I8, q6⟩
    | brk =>
      obtain ⟨σ6, H6, I7, q6⟩ := hf
      exact goes_ok (inv_ofH I7 I.ok.hd) hN hi hl fun s7 I8 => ⟨_, _, I8, q6⟩
    | cont =>
      obtain ⟨σ6, H6, I7, q6⟩ := hf
      exact goes_ok (inv_ofH I7 I.ok.hd) hN hi hl fun s7 I8 => ⟨_, _, I8, q6⟩
    | ret u =>
      obtain ⟨v, σ6, H6, I7, r6, q6⟩ := hf
      exact goes_ok (inv_ofH I7 I.ok.hd) hN hi hl fun s7 I8 => ⟨v, _, _, I8, r6, q6⟩
  refine thn (hb Ex xe (X.pn ++ pins) hC [] s σ H D (inv_tryB I) (htb _ _)) fun f s1 hf => ?_
  cases f with
  | next =>
    obtain ⟨σ1, H1, I1, q1⟩ := hf
    exact wpAny_execs_nil ⟨σ1, H1, inv_ofB I1, q1⟩
  | brk =>
    obtain ⟨σ1, H1, I1, q1⟩ := hf
    exact ⟨σ1, H1, inv_ofB I1, q1⟩
  | cont =>
    obtain ⟨σ1, H1, I1, q1⟩ := hf
    exact ⟨σ1, H1, inv_ofB I1, q1⟩
  | ret u =>
    obtain ⟨v, σ1, H1, I1, r1, q1⟩ := hf
    exact ⟨v, σ1, H1, inv_ofB I1, r1, q1⟩
end
end L2
namespace L2
open PySem PySem.Spec PyProof.Rows
open PySem.W (Looks)
open Builtin Builtin.ObjectAttr Builtin.Getset_descriptor
structure ExcCls (K : PySem.W.Frag) (C : Addr) : Prop where
  ga : PySem.W.findIn K (.ref C) "__getattribute__" = some (some (.builtin "BaseException.__getattribute__"))
  gt : PySem.W.findIn K (.ref C) "__getattr__" = some none
  cl : PySem.W.findIn K (.ref C) "__class__" = some (some (.builtin "object.__class__"))
  gg : PySem.W.specialIn K (.builtin "object.__class__") "__get__" = some (some (.builtin "getset_descriptor.__get__"))
  tk : PySem.W.takesIn K (.builtin "object.__class__") = some true
  ob : PySem.W.mroIn K C (.type "object") = some true
  be : PySem.W.mroIn K C (.type "BaseException") = some true
section
variable {prog : Program} {w : World} {A : Around} {E : Value → Shared → Prop} {K : PySem.W.Frag} {C a : Addr} {h : Heap} {g : Array GenState} {d : Drawn} {t : Nat} {os : OsState} {o : Obj}
theorem exc_ty {M : Model} (hx : h.get? a = some o) (hc : o.cls = .ref C) : Looks M h (typeOf (.ref a)) (.ref C) := hc ▸ (Looks.ld hx).andThen .now
theorem exc_find {M : Model} (X : K.In h) (Z : ExcCls K C) : Looks M h (find (.ref a) (.ref C) "__class__") (Found.bind (.builtin "getset_descriptor.__get__") (.builtin "object.__class__")) := by
  have L1 := PySem.W.looks_findIn (M := M) X Z.cl
  have L2 := PySem.W.looks_specialIn (M := M) X Z.gg
  have L3 := PySem.W.looks_takesIn (M := M) X Z.tk
  have L4 : Looks M h (dataDescriptor? (some (.builtin "object.__class__")) (some (.builtin "getset_descriptor.__get__"))) (some (.builtin "getset_descriptor.__get__", .builtin "object.__class__")) := L3.andThen (Looks.of_pure rfl)
  exact L1.andThen (L2.andThen (L4.andThen (Looks.tag .now)))
theorem exc_get {R : Result → Shared → Prop} (X : K.In h) (Z : ExcCls K C) (hx : h.get? a = some o) (hc : o.cls = .ref C) (hR : R (.ok (.ret (.ref C))) ⟨h, g, d, t, os⟩) :
    codeAny (model prog w) A (.call (.builtin "getset_descriptor.__get__") ⟨[.builtin "object.__class__", .ref a, .ref C], []⟩) R ⟨h, g, d, t, os⟩ := by
  have T0 := exc_ty (M := model prog w) hx hc
  have T1 := PySem.W.looks_mroIn (M := model prog w) X Z.ob
  refine codeAny_call_builtin PySem.W.KF.slot_gs.plain PySem.W.KF.entry_gs ?_
  refine PySem.W.KF.slot_gs.check _ _ _ _ _ _ _ _ PySem.W.KF.type_class (PySem.W.KF.args_gs _ _ _) ?_
  unfold Builtin.«getset_descriptor.__get__» descrGet
  rw [PySem.W.dga_obj]
  refine wpAny_bind (wpAny_pure ?_)
  unfold descrGetter descrCheckInstance descrNameAndClass isInstance
  simp only [PySem.W.KF.owner_class]
  repeat lk
  refine ⟨Code.quiet_builtin _ (by decide +kernel), ?_⟩
  refine codeAny_builtin PySem.W.KF.entry_class ?_
  unfold Builtin.«object.__class__» shownTypeOf
  repeat lk
  exact hR
theorem exc_check {M : Model} {nameV : Value} {Q : Unit → Shared → Prop} (X : K.In h) (Z : ExcCls K C) (hx : h.get? a = some o) (hc : o.cls = .ref C) (hq : Q () ⟨h, g, d, t, os⟩) :
    wpAny M A (checkBuiltinCall "BaseException.__getattribute__" ⟨[.ref a, nameV], []⟩) Q E ⟨h, g, d, t, os⟩ := by
  have c1 : builtinKind "BaseException.__getattribute__" = some .slot := by decide +kernel
  have c2 : splitId "BaseException.__getattribute__" = some ("BaseException", "__getattribute__") := by decide +kernel
  have T0 := exc_ty (M := M) hx hc
  have T1 := PySem.W.looks_mroIn (M := M) X Z.be
  have c3 := F.args_bexc_ga (.ref a) nameV
  simp only [checkBuiltinCall, c1, c2]
  refine wpAny_bind ?_
  unfold isInstance
  repeat lk
  repeat (any_goals (first | assumption | wp_step))
theorem exc_entry {tk : Tok} {Q : Fin → Shared → Prop} (X : K.In h) (Z : ExcCls K C) (hx : h.get? a = some o) (hc : o.cls = .ref C) (hq : Q (.done (.ret (.ref C))) ⟨h, g, d, t, os⟩) :
    wpAny (model prog w) A (Builtin.«object.__getattribute__» ⟨[.ref a, .str "__class__" tk], []⟩) Q E ⟨h, g, d, t, os⟩ := by
  have T0 := exc_ty (M := model prog w) hx hc
  have T1 := exc_find (a := a) (M := model prog w) X Z
  unfold Builtin.«object.__getattribute__»
  refine wpAny_bind (m := slotArgs "__getattribute__" 1 ⟨[.ref a, .str "__class__" tk], []⟩) (wpAny_pure ?_)
  refine wpAny_bind (m := attrName (.str "__class__" tk)) (wpAny_pure ?_)
  refine wpAny_bind (T0.at (wpAny_bind (T1.at ?_)))
  show wpAny _ _ (bindTo _ _ (.ref a) (.ref C)) _ _ _
  unfold bindTo
  refine wpAny_bind (wpAny_holding (wpAny_call (exc_get X Z hx hc ?_)))
  exact wpAny_pure hq
theorem exc_attr {Q : Option Value → Shared → Prop} {s : Shared} (X : K.In s.heap) (Z : ExcCls K C) (hx : s.heap.get? a = some o) (hc : o.cls = .ref C) (hq : Q (some (.ref C)) { s with toks := s.toks + 1 }) :
    wpAny (model prog w) A (getAttr? (.ref a) "__class__") Q E s := by
  obtain ⟨h, g, d, t, os⟩ := s
  have T0 := exc_ty (M := model prog w) hx hc
  have T1 := PySem.W.looks_findIn (M := model prog w) X Z.ga
  have T2 := PySem.W.looks_findIn (M := model prog w) X Z.gt
  unfold getAttr? getAttrBy? getAttrBy
  refine wpAny_bind (wpAny_mkText (wpAny_bind (wpAny_attempt (wpAny_holding (wpAny_bind (T0.at (wpAny_bind (T1.at ?_))))))))
  show wpAny _ _ (getAttrByItsOwn _ _ _ _ _ _) _ _ _
  unfold getAttrByItsOwn
  refine wpAny_bind (T2.at ?_)
  refine wpAny_bind (wpAny_attempt (wpAny_holding ?_))
  show wpAny _ _ (boundAndCalled _ _ _) _ _ _
  unfold boundAndCalled
  refine wpAny_bind (m := bindSpecial (.builtin "BaseException.__getattribute__") (.ref a)) (wpAny_of_eq (a := (Value.builtin "BaseException.__getattribute__", [Value.ref a])) (by kernel_rfl) ?_)
  refine wpAny_call (codeAny_call_builtin F.attr_ValueError.ga.plain F.entry_bexc_ga (exc_check X Z hx hc (exc_entry X Z hx hc ?_)))
  exact PySem.W.handed_on rfl (wpAny_pure hq)
theorem exc_kit (Z : ExcCls K C) : PySem.W.KitX K (.ref a) (.ref C) (fun h => ∃ o vs, h.get? a = some o ∧ o.cls = .ref C ∧ o.data = .fields vs) := by
  have hcls : ∃ c' d' cd' sl', K.lookup C = some ⟨c', d', .cls cd', sl'⟩ := by
    obtain ⟨cd, hcd, _⟩ := Option.bind_eq_some_iff.mp Z.ob
    unfold PySem.W.clsIn at hcd
    split at hcd
    · rename_i c' d' cd' sl' ho
      exact ⟨c', d', cd', sl', ho⟩
    · cases hcd
  obtain ⟨c', d', cd', sl', ho⟩ := hcls
  refine ⟨fun M h _ ⟨o, _, hx, hc, _⟩ => exc_ty hx hc, fun M h X _ => ?_, fun h tp dd its n sl X htp => ?_, fun X ⟨o, _, hx, hc, _⟩ k => exc_attr X Z hx hc k⟩
  · intro A' Q' E' s' k q
    unfold isType loadHead
    exact wpAny_bind (wpAny_loadPart (k _ _ (X _ _ ho)) (wpAny_pure q))
  · refine Bool.eq_false_iff.mpr fun q => ?_
    have e : C = tp := Value.ref.inj (beq_iff_eq.mp q)
    subst e
    have z := (X _ _ ho).symm.trans htp
    cases z
end
section
variable {X : Cx}
theorem call_isinstX : CallR X (.builtin "isinstance") (fun xs H Q => ∃ a C y c b, xs = [.ref a, y] ∧ ClsV y c ∧ H a = some (excO a (.ref C)) ∧ ExcCls X.K C ∧ PySem.W.kitOne X.K (.ref C) c = some b ∧ Q (.bl b) H) := by
  intro pins s σ H xs us Q I r h
  obtain ⟨a, C, y, c, b, rfl, hy, ha, Z, e, q⟩ := h
  obtain ⟨u, w', rfl, rx, ry⟩ := vals2 r
  cases (show u = Value.ref a from rx)
  have hE := (I.hok a _ ha).1
  cases hy with
  | ty n =>
    cases (show w' = Value.type n from ry)
    exact PySem.W.kia_one (exc_kit Z) I.kIn hE e (fun z => nomatch z) fun tk => ⟨.bl b, H, I.tok _, rfl, q⟩
  | ref D =>
    cases (show w' = Value.ref D from ry)
    exact PySem.W.kia_one (exc_kit Z) I.kIn hE e (fun z => nomatch z) fun tk => ⟨.bl b, H, I.tok _, rfl, q⟩
end
end L2
namespace L2
open PySem PySem.Spec PyProof.Rows
theorem own_of {K : PySem.W.Frag} {h : Heap} {mg : Str → Option Value} {x : Str} {C : Addr} {bmB : List Value} {newId : String} (Y : K.In h) (hm : mg x = some (.ref C)) (z : PySem.W.excIn K C bmB newId = true) : OwnCls x C bmB newId mg h := by
  constructor
  · exact hm
  · unfold PySem.W.excIn at z
    split at z
    case h_2 => cases z
    case h_1 dct cls slt hob =>
      split at z
      case h_2 => cases z
      case h_1 C2 tl s0 s1 s2 s3 nn s5 hmro hsl =>
        simp only [Bool.and_eq_true, beq_iff_eq, Bool.not_eq_true'] at z
        obtain ⟨⟨⟨⟨⟨rfl, rfl⟩, z3⟩, z4⟩, z5⟩, z6⟩ := z
        obtain ⟨v1, v2, v3, v4, v5, v6, v7, v8, v9, v10, v11⟩ := cls
        simp only at hmro z3 z5 z6
        cases hmro; cases z3
        have hs2 : slt = #[s0, s1, s2, s3, some (.builtin nn), s5] := by
          cases slt with | mk ll => simp only at hsl; rw [hsl]
        cases hs2
        exact ⟨tl, v4, v1, v5, v2, v6, v7, v8, v9, v10, dct, s0, s1, s2, s3, s5, _, Y _ _ hob, .of_isNs (PySem.W.isNs_of_in Y z5), PySem.W.nsMap_none_of_in Y z5 z6, PySem.W.tail_of_in Y z4⟩
section
variable {X : Cx}
theorem vals_refs : ∀ {cs : List Addr} {us : List Value}, Vals (cs.map V.ref) us → us = cs.map Value.ref
  | [], _, .nil => rfl
  | _ :: _, _, .cons r t => by rw [vals_refs t]; cases (show _ = Value.ref _ from r); rfl
def FP (X : Cx) (e : Expr) (c : St → Hp → Prop) : Prop := ∀ (pins : List (Addr × Obj)) (σ : St) (H : Hp) (s : Shared) (Q : Value → Shared → Prop), Inv X pins σ H s → c σ H →
  (∀ y t s', Inv X pins σ H s' → y.length ≤ 6000 → Q (.str y t) s') → wpAny (model X.prog X.w) X.A (eval e X.env) Q X.xe s
inductive FPs (X : Cx) : List Expr → (St → Hp → Prop) → Prop where
  | nil : FPs X [] fun _ _ => True
  | cons {e es c cs} : FP X e c → FPs X es cs → FPs X (e :: es) fun σ H => c σ H ∧ cs σ H
theorem joins {pins : List (Addr × Obj)} {σ : St} {H : Hp} {Q : Value → Shared → Prop} : ∀ {es : List Expr} {cs : St → Hp → Prop}, FPs X es cs → ∀ {s : Shared} {out : Str}, Inv X pins σ H s → cs σ H → out.length + 6000 * es.length ≤ sizeLine →
    (∀ y t s', Inv X pins σ H s' → Q (.str y t) s') → wpAny (model X.prog X.w) X.A (joinParts out (evalEach es X.env)) Q X.xe s
  | _, _, .nil, s, out, I, _, hz, q => joinParts_nilE (joinParts_nil (q _ _ _ (I.tok _)) (by simpa using hz))
  | _, _, .cons (es := es) he hes, s, out, I, c, hz, q => by
    simp only [List.length_cons] at hz
    refine joinParts_consE (joinParts_cons (he pins σ H s _ I c.1 fun y t s' I' hy => ?_))
    have e : (out ++ y).length = out.length + y.length := strLen_append _ _
    exact ⟨by rw [e]; omega, joins hes I' c.2 (by rw [e]; omega) q⟩
def tJoin (cs : St → Hp → Prop) : TE := fun σ H Q => cs σ H ∧ ∀ x, Q (.str x) H
theorem pe_join {e₁ e₂ : Expr} {es : List Expr} {cs : St → Hp → Prop} {pos : Pos} (h : FPs X (e₁ :: e₂ :: es) cs) (hl : 6000 * (es.length + 2) ≤ sizeLine := by decide) : PE X (.JoinedStr (e₁ :: e₂ :: es) pos) (tJoin cs) := by
  intro pins s σ H Q I hq
  refine JoinedStr_many (show wpAny _ _ (joinParts Str.empty (evalEach (e₁ :: e₂ :: es) X.env)) _ _ _ from ?_)
  exact joins h I hq.1 (by show 0 + 6000 * (es.length + 2) ≤ _; omega) fun y t s' I' => ⟨.str y, H, I', ⟨t, rfl⟩, hq.2 y⟩
theorem fp_str {e : Expr} {x : Str} (h : PE X e fun _ H Q => Q (.str x) H) (hx : x.length ≤ 6000 := by decide) : FP X e fun _ _ => True := by
  intro pins σ H s Q I _ q
  refine wpAny_mono (h pins s σ H (fun v H' => v = .str x ∧ H' = H) I ⟨rfl, rfl⟩) (fun v s' hv => ?_) fun _ _ z => z
  obtain ⟨v', H', I', r, rfl, rfl⟩ := hv
  obtain ⟨t, rfl⟩ := r
  exact q x t s' I' hx
inductive Fm (K : PySem.W.Frag) (H : Hp) : V → Prop where
  | int (i : Int) : i.natAbs.log2 < 1920 → Fm K H (.int i)
  | tup (a : Addr) (is : List Int) : SqT K H a (is.map V.int) → is.length ≤ 3 → (∀ i ∈ is, i.natAbs.log2 < 1920) → Fm K H (.ref a)
theorem reads_ints {h : Heap} : ∀ {is : List Int} {us : List Value}, Vals (is.map V.int) us → ReadsAll h us (is.map PyData.int) []
  | [], _, .nil => .nil
  | _ :: _, _, .cons r t => by
    obtain ⟨k, rfl⟩ := r
    exact .cons (.int _ _) (reads_ints t)
theorem ints_show : ∀ {is : List Int}, (∀ i ∈ is, i.natAbs.log2 < 1920) → PyData.showableAll (is.map PyData.int) = true
  | [], _ => rfl
  | i :: r, h => by
    simp only [List.map_cons, PyData.showableAll, PyData.showable, Bool.and_eq_true, decide_eq_true_eq]
    exact ⟨h i List.mem_cons_self, ints_show fun j hj => h j (List.mem_cons_of_mem _ hj)⟩
theorem ints_nodict : ∀ {is : List Int}, PyData.hasDictAll (is.map PyData.int) = false
  | [] => rfl
  | _ :: r => by simp only [List.map_cons, PyData.hasDictAll, PyData.hasDict, Bool.false_or]; exact ints_nodict
theorem ints_depth : ∀ {is : List Int}, PyData.depthAll (is.map PyData.int) ≤ 1
  | [] => by simp [PyData.depthAll]
  | _ :: r => by
    have := ints_depth (is := r)
    simp only [List.map_cons, PyData.depthAll, PyData.depth]
    omega
theorem int_short {i : Int} (h : i.natAbs.log2 < 1920) : (Str.ofString (toString i)).length ≤ 1921 := by
  rw [PySem.ofString_length]; exact int_text_length_le (k := 1920) (by decide) h
theorem ints_piled : ∀ {is : List Int}, (∀ i ∈ is, i.natAbs.log2 < 1920) → piled (PyData.shownAll (is.map PyData.int)) ≤ 1923 * is.length
  | [], _ => by simp only [List.map_nil, PyData.shownAll]; decide
  | i :: r, h => by
    have h1 := ints_piled (is := r) fun j hj => h j (List.mem_cons_of_mem _ hj)
    have h2 := int_short (h i List.mem_cons_self)
    simp only [List.map_cons, PyData.shownAll, PyData.shown, List.length_cons]
    rw [piled_cons]
    omega
theorem ints_short {is : List Int} (hl : is.length ≤ 3) (hs : ∀ i ∈ is, i.natAbs.log2 < 1920) : (PyData.tuple (is.map PyData.int)).shown.length ≤ 6000 := by
  have e : (PyData.tuple (is.map PyData.int)).shown = tupleText (PyData.shownAll (is.map PyData.int)) := by simp only [PyData.shown]
  have hp := ints_piled hs
  rw [e]
  generalize PyData.shownAll (is.map PyData.int) = ts at hp
  unfold tupleText
  rw [strLen_append, strLen_append]
  have h1 : ((if ts.length == 1 then ",)" else ")" : String) : Str).length ≤ 2 := by split <;> decide
  have h2 : (Str.join ", " ts).length ≤ 5800 := by
    by_cases h : ts = []
    · rw [h]; decide
    · have := join_length_add ts h
      omega
  have h3 : (("(" : String) : Str).length = 1 := rfl
  omega
theorem lg {i : Int} (h1 : -(2 ^ 200) < i) (h2 : i < 2 ^ 200) : i.natAbs.log2 < 1920 := by
  by_cases h : i.natAbs = 0
  · rw [h]; decide
  · rw [Nat.log2_lt h]
    have h3 : i.natAbs < 2 ^ 200 := by omega
    exact Nat.lt_of_lt_of_le h3 (Nat.pow_le_pow_right (n := 2) (by decide) (by decide))
theorem fp_val {k : Nat} {e : Expr} {t : TE} {pos : Pos} (hr : Room k X.A) (h : PE X e t) : FP X (.FormattedValue e (-1) none pos) fun σ H => t σ H fun v H' => H' = H ∧ Fm X.K H v := by
  intro pins σ H s Q I c q
  refine FormattedValue_plain (wpAny_mono (h pins s σ H _ I c) (fun v s' hv => ?_) fun _ _ z => z)
  obtain ⟨v', H', I', r, rfl, f⟩ := hv
  cases f with
  | int i hi =>
    obtain ⟨t, rfl⟩ := r
    exact formatField_int_small hi (q _ _ _ (I'.tok _) (by have := int_short hi; omega))
  | tup a is ha hl hs =>
    cases (show v = Value.ref a from r)
    obtain ⟨its, rv, ⟨⟨cl, dc, dat, sl⟩, ho, hcl, n, hdt⟩, _⟩ := I'.tuple ha
    have hz := ints_short hl hs
    refine formatField_of_reads (h₀ := s'.heap) (as := []) (d := .tuple (is.map PyData.int)) (.tuple ho hcl hdt (by simpa using reads_ints rv)) ?_ ?_ hr.gd ?_ (fun _ _ z => z) (fun h' u tk hk => q _ _ _ ?_ hz) ?_
    · simp only [PyData.showable]; exact ints_show hs
    · intro z
      simp only [PyData.hasDict] at z
      rw [ints_nodict] at z; cases z
    · have := hr.units
      have hd := ints_depth (is := is)
      simp only [PyData.depth]
      omega
    · exact I'.kept hk
    · have : sizeLine = 2 ^ 24 := rfl
      omega
theorem pe_globC {x : Str} {C : Addr} {pos : Pos} (hg : Gl X x) (hm : X.mg x = some (.ref C)) (hd : (x == ("__debug__" : Str)) = false := by decide) : PE X (.Name x pos) (tC (.ref C)) := pe_glob hg hm rfl hd
theorem ev_U {ta : TE} {σ : St} {H : Hp} {i : Int} {g : Int → V} (ha : Ev ta σ H (.int i)) : Ev (tUn (rU g) ta) σ H (g i) := fun _ q => ha _ ⟨i, rfl, q⟩
theorem sq_asg {te : TE} {u : TS} {D : Ends} {σ : St} {H : Hp} {n : Nat} (q : te σ H fun v H1 => u D (σ.set n (some v)) H1) : tSeq (tAsg te (gName n)) u D σ H := q
theorem bt_ValueError : bootBuiltins "ValueError" = some (.type "ValueError") := by decide +kernel
structure ExcN (K : PySem.W.Frag) (mg : Str → Option Value) (x : Str) (C : Addr) : Prop where
  bd : mg x = some (.ref C)
  ex : PySem.W.excIn K C [.type "ValueError", .type "Exception", .type "BaseException", .type "object"] "ValueError.__new__" = true
  ok : ExcCls K C
theorem rd_raise {Ex : St → Value → Hp → Prop} {C : Value} {t : TA} {D : Ends} {σ : St} {H : Hp} {cs : St → Hp → Prop} (h : cs σ H) (q : Ex σ C H) : tRaise Ex C (tCons (tJoin cs) tNil) D σ H := ⟨h, fun _ => ⟨(by show 1 ≤ sizeLine; decide), q⟩⟩
theorem rd_raiseS {Ex : St → Value → Hp → Prop} {C : Value} {x : Str} {D : Ends} {σ : St} {H : Hp} (q : Ex σ C H) : tRaise Ex C (tCons (tC (.str x)) tNil) D σ H := ⟨(by show 1 ≤ sizeLine; decide), q⟩
end
end L2
namespace L2
open PySem PySem.Spec PyProof.Rows
structure MCallee (P : Program) (w : World) (K : PySem.W.Frag) (mg : Str → Option Value) (base : Heap) (C : Addr) (m : Str) (k : Nat) (ps : List Str) (sp : Sp) : Prop where
  ex : ∃ f fd, FnOk P w K mg base CX0 k f fd ps sp ∧ Meth K C m f ∧ Binds K fd ps []
section
variable {X : Cx} {C : Addr} {k : Nat} {ps : List Str} {sp : Sp} {x m : Str} {p pos apos : Pos} {e o : Expr} {es : List Expr} {ta : TE} {t : TA}
end
theorem lc_el {te : TE} {τ : St} {H : Hp} {R : VK} {N : Hp → Prop} (h : te τ H R) : tYes τ H fun b H3 => if b = true then te τ H3 R else N H3 := by
  show if true = true then te τ H R else N H
  rw [if_pos rfl]
  exact h
section
variable {σ : St} {H : Hp} {tc : TT} {te : TE} {t u v : TS} {D : Ends} {a b : Bool}
theorem sq_R (J : St → Hp → Prop) (h1 : ∀ R : St → Hp → Prop, (∀ σ H, J σ H → R σ H) → t { D with nx := R } σ H) (hv : ∀ σ H, J σ H → v D σ H) : tSeq t v D σ H := h1 _ hv
end
end L2
namespace L2
open PySem PySem.Spec PyProof.Rows
theorem comesF {P : Program} {w : World} {X : Cx} : Comes P w X fun _ _ _ => False := fun _ _ _ _ _ _ _ h => by
  obtain ⟨_, _, _, _, _, _, _, _, _, _, _, _, _, _, q⟩ := h
  exact q.elim
section
variable {X : Cx} {Ex : St → Value → Hp → Prop} {C : Addr} {k : Nat} {f : Addr} {fd : FuncData} {ps : List Str} {sp : Sp} {x m : Str} {p pos apos : Pos} {e o : Expr} {es : List Expr} {ta : TE} {t : TA}
theorem run_fnX {pins : List (Addr × Obj)} {σ : St} {H : Hp} {s : Shared} {Q : VK} {us : List Value} {vs : List V} (F : FnOk X.prog X.w X.K X.mg X.base (CX1 X.prog X.w) k f fd ps sp) (hr : Room k X.A) (hb : Binds X.K fd ps []) (hx : Comes X.prog X.w X Ex)
    (I : Inv X pins σ H s) (r : Vals vs us) (h : sp vs H Q fun C _ H' => Ex σ C H') : wpAny (model X.prog X.w) X.A (call (.ref f) us) (EP X pins σ Q) X.xe s := by
  have hl : (us ++ []).length = ps.length := by rw [List.append_nil, ← r.length]; exact F.len _ _ _ _ h
  have hbi := hb s us I.kIn hl
  rw [List.append_nil] at hbi
  refine wpAny_call (codeAny_mono (F.run X.A X.stack s H ⟨us, []⟩ us vs Q _ hr I.env0 hbi r h) fun r s' hq => ?_)
  cases r with
  | error e => exact hx pins σ H s e s' I hq
  | ok fl =>
    cases fl with
    | ret u => exact I.after hq
    | next => exact False.elim hq
    | brk => exact False.elim hq
    | cont => exact False.elim hq
end
end L2
namespace L2
open PySem PySem.W PyProof.Rows
section
variable {O : KeyOrd} (key : Nat → O.α)
variable {key}
end
end L2
namespace L2
open PySem PySem.Spec PyProof.Rows
mutual
inductive Dp (K : PySem.W.Frag) (H : Hp) : V → PyData → Prop
  | non : Dp K H .non .none
  | bl (b : Bool) : Dp K H (.bl b) (.bool b)
  | int (i : Int) : Dp K H (.int i) (.int i)
  | str (x : Str) (h : PyData.strOk x = true) : Dp K H (.str x) (.str x)
  | tup {a : Addr} {xs : List V} {ds : List PyData} (h : SqT K H a xs) (r : Dps K H xs ds) : Dp K H (.ref a) (.tuple ds)
  | lst {a : Addr} {xs : List V} {ds : List PyData} (h : SqL K H a xs) (r : Dps K H xs ds) : Dp K H (.ref a) (.list ds)
inductive Dps (K : PySem.W.Frag) (H : Hp) : List V → List PyData → Prop
  | nil : Dps K H [] []
  | cons {x : V} {xs : List V} {d : PyData} {ds : List PyData} (h : Dp K H x d) (r : Dps K H xs ds) : Dps K H (x :: xs) (d :: ds)
end
mutual
theorem Dp.lay {K : PySem.W.Frag} {H : Hp} : ∀ {v : V} {d : PyData}, Dp K H v d → d.canLay0 = true
  | _, _, .non => rfl
  | _, _, .bl _ => rfl
  | _, _, .int _ => rfl
  | _, _, .str _ h => by simpa [PyData.canLay0] using h
  | _, _, .tup _ r => by simpa [PyData.canLay0] using r.lay
  | _, _, .lst _ r => by simpa [PyData.canLay0] using r.lay
theorem Dps.lay {K : PySem.W.Frag} {H : Hp} : ∀ {xs : List V} {ds : List PyData}, Dps K H xs ds → PyData.canLayAll0 ds = true
  | _, _, .nil => by simp [PyData.canLayAll0]
  | _, _, .cons h r => by simp [PyData.canLayAll0, h.lay, r.lay]
end
mutual
theorem Dp.reads {X : Cx} {pins : List (Addr × Obj)} {σ : St} {H : Hp} {s : Shared} (I : Inv X pins σ H s) : ∀ {v : V} {d : PyData} {u : Value}, Dp X.K H v d → RelV v u → ∃ as, Reads s.heap u d as
  | _, _, _, .non, r => by cases (show _ = Value.none from r); exact ⟨_, .none⟩
  | _, _, _, .bl b, r => by cases (show _ = Value.bool b from r); exact ⟨_, .bool b⟩
  | _, _, _, .int i, r => by obtain ⟨t, rfl⟩ := r; exact ⟨_, .int i t⟩
  | _, _, _, .str x _, r => by obtain ⟨t, rfl⟩ := r; exact ⟨_, .str x t⟩
  | _, _, _, .tup (a := a) h rs, r => by
    cases (show _ = Value.ref a from r)
    obtain ⟨its, rv, ⟨o, ho, hc, n, hd⟩, _⟩ := I.tuple h
    obtain ⟨as, ra⟩ := Dps.reads I rs rv
    exact ⟨_, .tuple ho hc hd (by simpa using ra)⟩
  | _, _, _, .lst (a := a) h rs, r => by
    cases (show _ = Value.ref a from r)
    obtain ⟨its, rv, pl, _⟩ := I.list h
    obtain ⟨o, ho, hc, n, hd⟩ := pl.isList
    obtain ⟨as, ra⟩ := Dps.reads I rs rv
    exact ⟨_, .list ho hc hd (by simpa using ra)⟩
theorem Dps.reads {X : Cx} {pins : List (Addr × Obj)} {σ : St} {H : Hp} {s : Shared} (I : Inv X pins σ H s) : ∀ {xs : List V} {ds : List PyData} {us : List Value}, Dps X.K H xs ds → Vals xs us → ∃ as, ReadsAll s.heap us ds as
  | _, _, _, .nil, .nil => ⟨_, .nil⟩
  | _, _, _, .cons h rs, .cons r rr => by
    obtain ⟨as, ra⟩ := Dp.reads I h r
    obtain ⟨bs, rb⟩ := Dps.reads I rs rr
    exact ⟨_, .cons ra rb⟩
end
section
variable {X : Cx}
def rEqD (K : PySem.W.Frag) : R2 := fun x y H Q => ∃ d e, Dp K H x d ∧ Dp K H y e ∧ d.depth ≤ 60 ∧ Q (.bl (PyData.eqv d e)) H
def rNeD (K : PySem.W.Frag) : R2 := fun x y H Q => ∃ d e, Dp K H x d ∧ Dp K H y e ∧ d.depth ≤ 60 ∧ Q (.bl (!PyData.eqv d e)) H
theorem op_eqD {k : Nat} (hr : Room k X.A) : OpR X (compareOp .Eq) (rEqD X.K) := by
  intro pins s σ H x y v u Q I rx ry h
  obtain ⟨d, e, h1, h2, hd, q⟩ := h
  obtain ⟨as, r1⟩ := h1.reads I rx
  obtain ⟨bs, r2⟩ := h2.reads I ry
  have := hr.units
  exact SeqAt.compareEq_reads r1 r2 h1.lay h2.lay (by omega) ⟨.bl _, H, I, rfl, q⟩
theorem op_neD {k : Nat} (hr : Room k X.A) : OpR X (compareOp .NotEq) (rNeD X.K) := by
  intro pins s σ H x y v u Q I rx ry h
  obtain ⟨d, e, h1, h2, hd, q⟩ := h
  obtain ⟨as, r1⟩ := h1.reads I rx
  obtain ⟨bs, r2⟩ := h2.reads I ry
  have := hr.units
  exact SeqAt.compareNe_reads r1 r2 h1.lay h2.lay (by omega) ⟨.bl _, H, I, rfl, q⟩
end
mutual
theorem eqv_refl : ∀ {d : PyData}, d.canLay0 = true → PyData.eqv d d = true
  | .none, _ => by simp [PyData.eqv]
  | .bool _, _ => by simp [PyData.eqv]
  | .int _, _ => by simp [PyData.eqv]
  | .str _, _ => by simp [PyData.eqv]
  | .list xs, h => by simp only [PyData.eqv]; exact eqvAll_refl (by simpa [PyData.canLay0] using h)
  | .tuple xs, h => by simp only [PyData.eqv]; exact eqvAll_refl (by simpa [PyData.canLay0] using h)
  | .dict _, h => by simp [PyData.canLay0] at h
theorem eqvAll_refl : ∀ {ds : List PyData}, PyData.canLayAll0 ds = true → PyData.eqvAll ds ds = true
  | [], _ => by simp [PyData.eqvAll]
  | d :: r, h => by
    have h' : d.canLay0 = true ∧ PyData.canLayAll0 r = true := by simpa [PyData.canLayAll0] using h
    simp only [PyData.eqvAll, eqv_refl h'.1, eqvAll_refl h'.2, Bool.and_self]
end
theorem dps_ints {K : PySem.W.Frag} {H : Hp} : ∀ (ns : List Int), Dps K H (ns.map V.int) (ns.map PyData.int)
  | [] => .nil
  | n :: r => .cons (.int n) (dps_ints r)
theorem Dp.ints {K : PySem.W.Frag} {H : Hp} {a : Addr} {ns : List Int} (h : SqT K H a (ns.map V.int)) : Dp K H (.ref a) (.tuple (ns.map PyData.int)) := .tup h (dps_ints ns)
theorem eqvAll_ints : ∀ (ns ms : List Int), PyData.eqvAll (ns.map PyData.int) (ms.map PyData.int) = decide (ns = ms)
  | [], [] => by simp [PyData.eqvAll]
  | [], _ :: _ => by simp [PyData.eqvAll]
  | _ :: _, [] => by simp [PyData.eqvAll]
  | n :: r, m :: t => by
    simp only [List.map_cons, PyData.eqvAll, PyData.eqv, eqvAll_ints r t, List.cons.injEq]
    by_cases h1 : n = m <;> by_cases h2 : r = t <;> simp [h1, h2]
theorem eqv_tints (ns ms : List Int) : PyData.eqv (.tuple (ns.map PyData.int)) (.tuple (ms.map PyData.int)) = decide (ns = ms) := by simp only [PyData.eqv]; exact eqvAll_ints ns ms
theorem depthAll_le {n : Nat} : ∀ {ds : List PyData}, (∀ d ∈ ds, d.depth ≤ n) → PyData.depthAll ds ≤ n
  | [], _ => by simp [PyData.depthAll]
  | d :: r, h => by
    simp only [PyData.depthAll]
    exact Nat.max_le.mpr ⟨h d List.mem_cons_self, depthAll_le fun e he => h e (List.mem_cons_of_mem _ he)⟩
theorem depth_tints (ns : List Int) : (PyData.tuple (ns.map PyData.int)).depth ≤ 1 := by
  have : PyData.depthAll (ns.map PyData.int) ≤ 0 := depthAll_le fun d hd => by
    obtain ⟨i, _, rfl⟩ := List.mem_map.mp hd
    simp [PyData.depth]
  simp only [PyData.depth]; omega
theorem SqT.kept {K : PySem.W.Frag} {H H' : Hp} {a : Addr} {xs : List V} (e : ∀ b o, H b = some o → H' b = some o) (h : SqT K H a xs) : SqT K H' a xs := SqT.same e h
mutual
theorem Dp.same {K : PySem.W.Frag} {H H' : Hp} (e : Same H H') : ∀ {v : V} {d : PyData}, Dp K H v d → Dp K H' v d
  | _, _, .non => .non
  | _, _, .bl b => .bl b
  | _, _, .int i => .int i
  | _, _, .str x h => .str x h
  | _, _, .tup h r => .tup (h.same e) (Dps.same e r)
  | _, _, .lst h r => .lst (e.seq h) (Dps.same e r)
theorem Dps.same {K : PySem.W.Frag} {H H' : Hp} (e : Same H H') : ∀ {xs : List V} {ds : List PyData}, Dps K H xs ds → Dps K H' xs ds
  | _, _, .nil => .nil
  | _, _, .cons h r => .cons (Dp.same e h) (Dps.same e r)
end
section
variable {σ : St} {H : Hp} {ta tb : TE} {x y : V} {d e : PyData} {K : PySem.W.Frag}
end
end L2
namespace L2
open PySem PySem.Spec PyProof.Rows
abbrev Tups (H : Hp) (as : List Addr) (cs : List (List Int)) : Prop := Paired (fun a (c : List Int) => H a = some (.tup (c.map V.int))) as cs
theorem Tups.at {H : Hp} : ∀ {as : List Addr} {cs : List (List Int)} {i : Nat} {a : Addr}, Tups H as cs → as[i]? = some a → ∃ c, cs[i]? = some c ∧ H a = some (.tup (c.map V.int))
  | _, _, 0, _, .cons h _, e => by cases e; exact ⟨_, rfl, h⟩
  | _, _, i + 1, _, .cons _ t, e => Tups.at (i := i) t e
  | _, _, _, _, .nil, e => by simp at e
theorem Tups.same {H H' : Hp} {as : List Addr} {cs : List (List Int)} (h : Tups H as cs) (e : Same H H') : Tups H' as cs := Paired.mapP h fun _ _ z => e _ _ z
theorem Tups.dps {K : PySem.W.Frag} {H : Hp} : ∀ {as : List Addr} {cs : List (List Int)}, Tups H as cs → Dps K H (as.map V.ref) (cs.map fun c => PyData.tuple (c.map PyData.int))
  | _, _, .nil => .nil
  | _, _, .cons h t => .cons (.ints (SqT.of h)) (Tups.dps t)
open PySem.W in
theorem katlex_ints {prog : Program} {w : World} {A : Around} {b fin : Bool} {Q : Bool → Shared → Prop} {s : Shared} : ∀ (us ws : List Value) (ns ms : List Int) (i : Nat), Vals (ns.map V.int) us → Vals (ms.map V.int) ws → fin = decide (ns.length < ms.length) →
    Q (HT.lexLt ns ms) s → KatLex prog w A b fin Q (us.zip ws) i s
  | [], ws, ns, ms, i, r1, r2, hf, h => by
    cases ns with
    | cons n r => cases r1
    | nil =>
      refine kat_nil ?_
      rw [hf]
      cases ms with
      | nil => exact h
      | cons m t => exact h
  | u :: us, [], ns, ms, i, r1, r2, hf, h => by
    cases ms with
    | cons m t => cases r2
    | nil =>
      refine kat_nil ?_
      rw [hf]
      cases ns with
      | nil => exact h
      | cons m t => exact h
  | u :: us, v :: ws, ns, ms, i, r1, r2, hf, h => by
    cases ns with
    | nil => cases r1
    | cons n r =>
      cases ms with
      | nil => cases r2
      | cons m t =>
        cases r1 with
        | cons q1 r1 =>
          cases r2 with
          | cons q2 r2 =>
            obtain ⟨t1, rfl⟩ := q1
            obtain ⟨t2, rfl⟩ := q2
            refine kat_cons (wpAny_eqBool_int ?_)
            rw [HT.lexLt_cons] at h
            refine kat_go (fun e => ?_) (fun e => ?_)
            · have e' : n = m := by simpa using e
              rw [if_pos e'] at h
              exact kat_yes (katlex_ints us ws r t (i + 1) r1 r2 (by rw [hf]; simp) h)
            · have e' : ¬ n = m := by simpa using e
              rw [if_neg e'] at h
              refine kat_no ?_
              cases (b && i == 0) with
              | true => exact oneLt_int h
              | false => exact kat_one _ _ (lt_int h)
section
variable {X : Cx}
end
section
variable {prog : Program} {w : World} {A : Around} {E : Value → Shared → Prop} {s : Shared}
end
section
variable {X : Cx}
end
section
variable {X : Cx}
end
end L2
namespace L2
open PySem PySem.Spec PyProof.Rows
abbrev cp (z : Str) : List Nat := z.cps.toList
theorem cp_len (z : Str) : (cp z).length = z.length := by simp [Str.length]
theorem cp_app (x y : Str) : cp (x ++ y) = cp x ++ cp y := by
  show (x.cps ++ y.cps).toList = _
  simp
theorem cp_slice (z : Str) (lo hi : Option Int) : cp (Txt.slice z lo hi) = ((cp z).drop (HT.sIx z.length 0 lo)).take (HT.sIx z.length z.length hi - HT.sIx z.length 0 lo) := by
  have e1 : Builtin.Str.strSliceIndices lo hi 1 z.length = sliceRange (sliceBounds lo hi none z.length).1 (sliceBounds lo hi none z.length).2.1 (sliceBounds lo hi none z.length).2.2 := rfl
  obtain ⟨h1, h2, h3⟩ := slice_bounds lo hi z.length
  have e2 : (Builtin.Str.strSliceIndices lo hi 1 z.length).filterMap (z.cps[·]?) = ((cp z).drop (HT.sIx z.length 0 lo)).take (HT.sIx z.length z.length hi - HT.sIx z.length 0 lo) := by
    rw [e1, h1, h2, h3]
    have e3 : ∀ (i : Nat), z.cps[i]? = (cp z).toArray[i]? := fun i => by simp
    simp only [e3, sliceRange_one]
    rw [pick_run]
  unfold Txt.slice
  split
  · next h =>
    have hl : (Builtin.Str.strSliceIndices lo hi 1 z.length).length = z.length := by simpa using h
    have hle : HT.sIx z.length z.length hi ≤ z.length := HT.sIx_le _ _ (Nat.le_refl _) _
    have hn : (Builtin.Str.strSliceIndices lo hi 1 z.length).length = HT.sIx z.length z.length hi - HT.sIx z.length 0 lo := by
      rw [e1, h1, h2, h3, sliceRange_one, List.length_map, List.length_range]
    rw [hn] at hl
    by_cases hz : z.length = 0
    · have : cp z = [] := List.eq_nil_of_length_eq_zero (by rw [cp_len]; exact hz)
      rw [this]; simp
    · have a0 : HT.sIx z.length 0 lo = 0 := by omega
      rw [a0, List.drop_zero, List.take_of_length_le (by rw [cp_len]; omega)]
  · show (List.filterMap _ _).toArray.toList = _
    rw [List.toList_toArray, e2]
theorem cp_to (z : Str) {k : Nat} (h : k ≤ z.length) : cp (Txt.slice z none (some (k : Int))) = (cp z).take k := by
  rw [cp_slice, HT.sIx_none, HT.sIx_nat, List.drop_zero, Nat.min_eq_left h]; rfl
theorem cp_from (z : Str) {k : Nat} (h : k ≤ z.length) : cp (Txt.slice z (some (k : Int)) none) = (cp z).drop k := by
  rw [cp_slice, HT.sIx_none, HT.sIx_nat, Nat.min_eq_left h, List.take_of_length_le (by rw [List.length_drop, cp_len]; exact Nat.le_refl _)]
def Its (z : Str) : It := ⟨fun i _ => i < z.cps.size, fun i H x H' => H' = H ∧ ∃ c, (cp z)[i]? = some c ∧ x = .str ⟨#[c]⟩, fun i _ => z.cps.size ≤ i⟩
theorem go_str {M : Model} {A : Around} {E : Value → Shared → Prop} {s : Shared} {tg : Expr} {it : Addr} {x : Str} {t : Tok} {Q : Unit → Shared → Prop} (hQ : Q () s) : wpAny M A (letOwnedTupleGo tg (.ref it) (.str x t)) Q E s := by
  unfold letOwnedTupleGo
  cases tg <;> exact wpAny_pure hQ
theorem turn_str {P : Program} {w : World} {K : PySem.W.Frag} {tg : Expr} (z : Str) (t : Tok) (it : Addr) : Turn P w K tg (Its z) [it] it (fun i h => h.IsStrIter it "str_ascii_iterator" z t i) where
  mem := by simp
  obj := fun i h st b hb => by
    have e : b = it := by simpa using hb
    subst e
    obtain ⟨o, e, c, d⟩ := st
    exact ⟨o, e, fun v z => by rw [d] at z; cases z⟩
  keep := fun i h h' st k => by
    obtain ⟨o, e, r⟩ := st
    exact ⟨o, k it (by simp) o e, r⟩
  item := by
    intro X hP hw hK hc i pins s σ H E I hf hst hg
    subst hP hw hK
    obtain ⟨f0, f1, f2, f3, f4, f5⟩ := hf it (by simp)
    have W := Walks.strAscii (prog := X.prog) (w := X.w) (I.ok.hd hc) it z t
    refine W.item i s _ _ hg hst fun v h' tk hv st' kk => ?_
    obtain ⟨c, u, ec, rfl⟩ := hv
    have I1 : Inv X pins σ H { s with heap := h', toks := tk } := I.turned (fun b o hb e => kk b o (by simpa using hb) e) f0 f1 f3 f4 f5
    exact ⟨_, rfl, go_str ⟨.str ⟨#[c]⟩, H, I1, ⟨u, rfl⟩, ⟨rfl, c, by rw [← ec]; simp, rfl⟩, st', fun b hb => (hf b hb).1⟩⟩
  done := by
    intro X hP hw hK hc i pins s σ H E I hf hst hg
    subst hP hw hK
    obtain ⟨f0, f1, f2, f3, f4, f5⟩ := hf it (by simp)
    exact wpAny_pyNext_ascii_end (I.ok.hd hc) hst (by have : z.cps.size ≤ i := hg; simp [this]) fun h' eb => ⟨rfl, I.turned (t' := s.toks) (fun b o hb e => eb b o hb e) f0 f1 f3 f4 f5⟩
  self := fun _ _ _ _ _ st h => wpAny_pyIter_striter_ascii st h
def iStr (tl : TE) : TI := fun σ H R => tl σ H fun x H1 => ∃ z, x = .str z ∧ z.cps.all (· < 128) = true ∧ R (Its z) H1
section
variable {X : Cx} {tg : Expr}
theorem pi_str {l : Expr} {tl : TE} (hl : PE X l tl) : PI X tg l (iStr tl) := by
  intro pins s σ H R I h
  refine thn (hl pins s σ H _ I h) fun v s1 ⟨x, H1, I1, r1, q1⟩ => ?_
  obtain ⟨z, e, ha, q⟩ := q1
  subst e
  obtain ⟨t, rfl⟩ := r1
  refine wpAny_pyIter_ascii ha ?_
  refine ⟨s1.heap.objs.size, [s1.heap.objs.size], _, _, H1, rfl, I1.kept (t' := s1.toks) fun b o e => Heap.get?_push_of_some _ e, turn_str z t _, ⟨_, Heap.get?_push_size _ rfl, rfl, rfl⟩, fun b hb => ?_, q⟩
  have e : b = s1.heap.objs.size := by simpa using hb
  subst e
  exact I1.fpOk (Nat.le_refl _) (I1.hok.fresh (Nat.le_refl _))
theorem lc_str {z : Str} {σ0 : St} {g : TG} {tt : TT} {te : TE} {H1 : Hp} {D : Addr} {Q : Hp → Prop} (Pv : Nat → St → Hp → Prop) (h0 : Pv 0 σ0 (upd H1 D (.lst [])))
    (hs : ∀ i c τ H, (cp z)[i]? = some c → Pv i τ H → g (.str ⟨#[c]⟩) τ H fun τ2 H2 => tt τ2 H2 fun b H3 =>
      if b = true then te τ2 H3 fun v H4 => ∃ acc, H4 D = some (.lst acc) ∧ acc.length < sizeLine ∧ Pv (i + 1) τ2 (upd H4 D (.lst (acc ++ [v]))) else Pv (i + 1) τ2 H3)
    (hd : ∀ τ H, Pv z.length τ H → Q H) : lcW σ0 g tt te (Its z) H1 D Q := by
  have hz : z.cps.size = z.length := rfl
  refine ⟨fun i m τ H => m = z.length - i ∧ i ≤ z.length ∧ Pv i τ H, ⟨z.length, by simp, Nat.zero_le _, h0⟩, ?_⟩
  rintro i m τ H ⟨rfl, hi, p⟩
  by_cases hlt : i < z.length
  · refine .inr ⟨hlt, Pv (i + 1), fun τ' H' p' => ⟨z.length - (i + 1), by omega, rfl, hlt, p'⟩, fun x H' y => ?_⟩
    obtain ⟨e, c, hc, rfl⟩ := y
    subst e
    exact hs i c τ _ hc p
  · have e : i = z.length := by omega
    subst e
    exact .inl ⟨Nat.le_refl _, hd τ H p⟩
theorem bools_are : ∀ {bs : List Bool} {us : List Value}, Vals (bs.map V.bl) us → us = bs.map Value.bool
  | [], _, .nil => rfl
  | _ :: _, _, .cons r t => by rw [bools_are t]; cases (show _ = Value.bool _ from r); rfl
theorem range_all (bs : List Bool) : (List.range bs.length).all (fun i => bs.getD i false) = bs.all id := by
  have e : (List.range bs.length).map (fun i => bs.getD i false) = bs := by
    apply List.ext_getElem?
    intro i
    by_cases hi : i < bs.length
    · simp [hi]
    · simp [hi]
  conv => rhs; rw [← e]
  rw [List.all_map]
  rfl
theorem call_all (hc : X.calm = true) : CallR X (.builtin "all") (fun xs H Q => ∃ (p : Addr) (bs : List Bool), xs = [.ref p] ∧ SqL X.K H p (bs.map V.bl) ∧ Q (.bl (bs.all id)) H) := by
  intro pins s σ H xs us Q I r h
  obtain ⟨p, bs, rfl, hp, q⟩ := h
  obtain ⟨u, rfl, rx⟩ := vals1 r
  cases rx
  obtain ⟨its, rv, pl, hz⟩ := I.list hp
  cases bools_are rv
  have hl : (bs.map Value.bool).toArray.size = bs.length := by simp
  refine call_all_walk (wpAny_pyIter_list pl.isList ?_)
  have hne : p ≠ s.heap.objs.size := by
    obtain ⟨o, ho, _⟩ := pl.isList
    exact Nat.ne_of_lt (Heap.lt_size ho)
  refine ⟨s.heap.objs.size, _, _, _, _, _, fun i => bs.getD i false, rfl, Walks.list (A := X.A.in1) (prog := X.prog) (w := X.w) (show X.A.in1.handled = none from I.ok.hd hc) s.heap.objs.size p hne (bs.map Value.bool).toArray, ⟨⟨_, Heap.get?_push_size _ rfl, rfl, rfl⟩, ?_⟩, fun i v s' Q' E' hv hq => ?_, fun h' tk hk => ?_⟩
  · exact pl.isList.at fun o e => Heap.get?_push_of_some _ e
  · have hi : (bs.map Value.bool).toArray[i]? = some v := hv
    rw [List.getElem?_toArray, List.getElem?_map] at hi
    cases e : bs[i]? with
    | none => rw [e] at hi; cases hi
    | some b =>
      rw [e] at hi
      cases hi
      refine wpAny_truthy_bool ?_
      have : bs.getD i false = b := by simp [List.getD_eq_getElem?_getD, e]
      rw [← this]; exact hq
  · rw [hl, range_all]
    refine ⟨.bl _, H, I.kept (t' := tk) fun b o e => hk b o ?_ (Heap.get?_push_of_some _ e), rfl, q⟩
    intro hb
    have : b = s.heap.objs.size := by simpa using hb
    exact absurd (Heap.lt_size e) (by rw [this]; exact Nat.lt_irrefl _)
theorem pe_const {x : Str} {v : V} {pos : Pos} (hg : Gl X x) (h : ∃ u, X.mg x = some u ∧ RelV v u) (hd : (x == ("__debug__" : Str)) = false := by decide) : PE X (.Name x pos) (tC v) := by
  obtain ⟨u, hm, r⟩ := h
  exact pe_glob hg hm r hd
def rSlS : V → Option Int → Option Int → Hp → VK → Prop := fun x lo hi H Q => ∃ z, x = .str z ∧ z.length ≤ sizeLine ∧ Q (.str (Txt.slice z lo hi)) H
theorem sl_str : SlR X rSlS := by
  intro pins s σ H x v vl vu lo hi sl Q I rx hs pl pu h
  obtain ⟨z, rfl, hz, q⟩ := h
  obtain ⟨t, rfl⟩ := rx
  refine ⟨"str", _, PySem.F.slot_str_getitem.lookup, typeIs_str s z t, ?_⟩
  have fin : ∀ t' k, EP X pins σ Q (.str (Txt.slice z lo hi) t') { s with toks := k } := fun t' k => ⟨.str _, H, I.tok _, ⟨t', rfl⟩, q⟩
  have hle := Nat.le_trans (Txt.slice_le z lo hi) hz
  obtain ⟨o, ho, hc, hd⟩ := hs
  cases pl with
  | none =>
    cases pu with
    | none => exact wpAny_getItem_str_slice (l := none) (u := none) (st := none) ⟨o, ho, hc, hd⟩ rfl (post_val_or_str ⟨hle, fin⟩)
    | int j tj => exact wpAny_getItem_str_slice (l := none) (u := some (j, tj)) (st := none) ⟨o, ho, hc, hd⟩ rfl (post_val_or_str ⟨hle, fin⟩)
  | int i ti =>
    cases pu with
    | none => exact wpAny_getItem_str_slice (l := some (i, ti)) (u := none) (st := none) ⟨o, ho, hc, hd⟩ rfl (post_val_or_str ⟨hle, fin⟩)
    | int j tj => exact wpAny_getItem_str_slice (l := some (i, ti)) (u := some (j, tj)) (st := none) ⟨o, ho, hc, hd⟩ rfl (post_val_or_str ⟨hle, fin⟩)
end
section
variable {σ : St} {H : Hp} {ta tb : TE} {x y : Str} {a b : Bool}
theorem ev_addS (ha : Ev ta σ H (.str x)) (hb : Ev tb σ H (.str y)) (hz : x.length + y.length ≤ sizeLine) : Ev (tOp (fun x y H Q => ∃ i j, x = .str i ∧ y = .str j ∧ i.length + j.length ≤ sizeLine ∧ Q (.str (i ++ j)) H) ta tb) σ H (.str (x ++ y)) := fun _ q => ha _ (hb _ ⟨x, y, rfl, rfl, hz, q⟩)
theorem ev_notinS {c : Nat} (ha : Ev ta σ H (.str ⟨#[c]⟩)) (hb : Ev tb σ H (.str y)) : Ev (tOp (fun x y H Q => ∃ i j, x = .str i ∧ y = .str j ∧ Q (.bl (!(!(Builtin.Str.occurrences j i 0 j.length 1).isEmpty))) H) ta tb) σ H (.bl (!decide (c ∈ cp y))) := fun Q q => ha _ (hb _ ⟨_, y, rfl, rfl, by rw [PySem.StrLaws.found_one]; exact q⟩)
theorem ev_inS {c : Nat} (ha : Ev ta σ H (.str ⟨#[c]⟩)) (hb : Ev tb σ H (.str y)) : Ev (tOp (fun x y H Q => ∃ i j, x = .str i ∧ y = .str j ∧ Q (.bl (!(Builtin.Str.occurrences j i 0 j.length 1).isEmpty)) H) ta tb) σ H (.bl (decide (c ∈ cp y))) := fun Q q => ha _ (hb _ ⟨_, y, rfl, rfl, by rw [PySem.StrLaws.found_one]; exact q⟩)
theorem ev_neS (ha : Ev ta σ H (.str x)) (hb : Ev tb σ H (.str y)) : Ev (tOp rNe ta tb) σ H (.bl (!decide (x = y))) := fun Q q => ha _ (hb _ ⟨rfl, by
  have e : decide (V.str x = V.str y) = decide (x = y) := by
    rcases Decidable.em (x = y) with h | h
    · rw [h, decide_eq_true rfl, decide_eq_true rfl]
    · rw [decide_eq_false h, decide_eq_false fun z => h (V.str.inj z)]
  rw [e]; exact q⟩)
theorem ev_ixS {c : Nat} {i : Int} (ha : Ev ta σ H (.str x)) (hb : Ev tb σ H (.int i)) (hz : x.length ≤ sizeLine) (he : atI (cp x) i = some c) : Ev (tOp rIxS ta tb) σ H (.str ⟨#[c]⟩) := fun _ q => ha _ (hb _ ⟨x, i, c, rfl, rfl, hz, he, q⟩)
theorem ev_slTo {i : Int} (ha : Ev ta σ H (.str x)) (hb : Ev tb σ H (.int i)) (hz : x.length ≤ sizeLine) : Ev (tSl rSlS ta tNoPart (tPart tb)) σ H (.str (Txt.slice x none (some i))) := fun _ q => ha _ (hb _ ⟨i, rfl, x, rfl, hz, q⟩)
theorem ev_slFrom {i : Int} (ha : Ev ta σ H (.str x)) (hb : Ev tb σ H (.int i)) (hz : x.length ≤ sizeLine) : Ev (tSl rSlS ta (tPart tb) tNoPart) σ H (.str (Txt.slice x (some i) none)) := fun _ q => ha _ (hb _ ⟨i, rfl, x, rfl, hz, q⟩)
end
end L2
namespace L2
open PySem PySem.Spec PyProof.Rows
section
variable {X : Cx}
end
end L2
namespace L2
open PySem PySem.Spec PyProof.Rows
open AutoSeq1 (wpAny_loadPart')
section
variable {prog : Program} {w : World} {A : Around} {E : Value → Shared → Prop} {s : Shared}
end
section
variable {X : Cx}
end
end L2
namespace L2
open PySem PySem.Spec PyProof.Rows
def res : List (Bool × Bool) → Bool → Bool
  | [], z => z
  | (true, _) :: r, z => res r z
  | (false, b) :: _, _ => b
section
open PySem.SeqAt
open PySem.AutoSeq1 (wpAny_loadPart')
open PySem.MeetsSeq PySem.MeetsSeq2 PySem.MeetsSeq3
end
section
variable {X : Cx}
end
end L2
namespace L2
open PySem PySem.Spec PyProof.Rows
section
variable {prog : Program} {w : World} {A : Around} {E : Value → Shared → Prop} {s : Shared}
end
section
variable {X : Cx} {pins : List (Addr × Obj)} {σ : St} {H : Hp} {s : Shared} {a : Addr} {A : Around} {E : Value → Shared → Prop}
end
section
variable {prog : Program} {w : World} {K : Type} [DecidableEq K] {knd : HeapKind prog w K} {A : Around} {E : Value → Shared → Prop} {s : Shared}
end
section
variable {X : Cx}
end
section
variable {prog : Program} {w : World} {A : Around} {E : Value → Shared → Prop} {s : Shared} {I : Addr} {fp wr : List Addr} {G : Array GenState → Array GenState → Prop} {n : Nat} {P : Nat → Value → Prop} {St : Nat → Shared → Prop}
end
end L2
namespace L2
open PySem PySem.Spec PyProof.Rows
section
variable {X : Cx} {pins : List (Addr × Obj)} {σ : St} {H : Hp} {s : Shared} {d : Addr} {u : HO} {o : Obj}
end
section
variable {prog : Program} {w : World} {A : Around} {E : Value → Shared → Prop} {s : Shared} {d it : Addr} {o : Obj} {es : Array DictEntry} {i ep : Nat}
end
section
variable {prog : Program} {w : World} {A : Around} {E : Value → Shared → Prop} {s : Shared} {d it v : Addr} {o : Obj} {es : Array DictEntry} {i ep : Nat} {ok ov : Value}
end
end L2
namespace L2
open PySem PySem.Spec PyProof.Rows
section
variable {X : Cx}
end
section
variable {prog : Program} {w : World} {A : Around} {E : Value → Shared → Prop} {s : Shared} {d : Addr} {o : Obj} {es : Array DictEntry} {ep : Nat}
end
section
variable {X : Cx}
end
section
variable {X : Cx}
end
end L2
namespace L2
open PySem PySem.Spec PyProof.Rows
def hAt (es : Array (Int × Value)) (i : Nat) : Int := (es[i]?.map (·.1)).getD 0
section
variable {prog : Program} {w : World} {A : Around} {E : Value → Shared → Prop} {s : Shared}
theorem hbv_ints {b : Addr} {o : Obj} {items : Array Value} {n : Nat} {Q : Bool → Shared → Prop} (ho : s.heap.get? b = some o) (hc : o.cls = .type "tuple") (hd : o.data = .seq items n) (hi : ∀ v ∈ items, ∃ i t, v = Value.int i t) (h : Q true s) :
    wpAny (model prog w) A (hashByValue 8 (.ref b)) Q E s := by
  have hT : s.TypeIs (.ref b) "tuple" := ⟨o, ho, hc⟩
  unfold hashByValue
  refine wpAny_bind (wpAny_specialOf hT F.slot_tuple_hash.lookup ?_)
  dsimp only
  refine wpAny_bind ?_
  unfold seqItems?
  refine wpAny_bind (wpAny_load ho ?_)
  rw [hd]
  refine wpAny_pure (wpAny_bind ?_)
  show wpAny _ _ (forIn items _ _) _ _ _
  rw [← Array.forIn_toList]
  refine wpAny_forIn_list _ (fun rest q s' => s' = s ∧ q = (none, ()) ∧ ∀ v ∈ rest, ∃ i t, v = Value.int i t) _ ?_ ?_ _ _ ⟨rfl, rfl, fun v hv => hi v (Array.mem_toList_iff.mp hv)⟩
  · rintro v rest q s' ⟨rfl, rfl, hr⟩
    obtain ⟨i, t, rfl⟩ := hr v List.mem_cons_self
    have e : hashByValue 7 (.int i t) = pure true := by simp [hashByValue]
    rw [e]
    exact wpAny_bind (wpAny_pure (by
      show wpAny _ _ (if (!true) = true then _ else _) _ _ _
      rw [if_neg (by decide)]
      exact wpAny_pure ⟨rfl, rfl, fun x hx => hr x (List.mem_cons_of_mem _ hx)⟩))
  · rintro q s' ⟨rfl, rfl, _⟩
    exact wpAny_pure h
end
section
variable {prog : Program} {w : World} {A : Around} {R : Result → Shared → Prop} {I : Addr} {fp wr : List Addr} {G : Array GenState → Array GenState → Prop} {n : Nat} {P : Nat → Value → Prop} {St : Nat → Shared → Prop}
def ITup (h : Heap) (k : List Int) (b : Addr) : Prop := ∃ o items c, h.get? b = some o ∧ o.cls = .type "tuple" ∧ o.data = .seq items c ∧ IntsAre items.toList k
end
abbrev set0 (led : Bool) : Obj := { cls := .type "set", dict := none, data := .set #[] 0 (.fresh 0 0 led) }
end L2
namespace L2
open PySem PySem.Spec PyProof.Rows
end L2
namespace L2
open PySem PySem.Spec PyProof.Rows
def hashT (k : List Int) : Int := reduceHash (Builtin.Tuple.tupleHashOf (k.map hashInt))
theorem itup_is {prog : Program} {w : World} {h : Heap} {k : List Int} {b : Addr} (t : ITup h k b) : (tupleKind (intKind prog w)).is h k b := by
  obtain ⟨o, its, c, h1, h2, h3, h4⟩ := t
  refine ⟨o, its, c, h1, h2, h3, ?_⟩
  have all : ∀ {us : List Value} {ns : List Int}, IntsAre us ns → PySem.ItemsAre (intKind prog w) ns us := by
    intro us ns z
    induction z with
    | nil => exact .nil
    | cons n t _ ih => exact .cons (intKind_is _ _ _ _) ih
  exact all h4
def stO (a : Addr) (n : Nat) : HO := .ext fun h => ∃ o es ep t, h.get? a = some o ∧ o.ExactSet ∧ o.data = .set es ep t ∧ SetTable.fits t es.size = true ∧ es.size = n
theorem tup_itup {P : Program} {w : World} {H : Hp} {h : Heap} {b : Addr} {c : List Int} (ok : HOk P w H h) (e : H b = some (.tup (c.map V.int))) : ITup h c b := by
  obtain ⟨_, its, rv, o, ho, hc, n, hd⟩ := ok b _ e
  exact ⟨o, its.toArray, n, ho, hc, hd, by simpa using intsAre_of rv⟩
theorem call_lenSt {X : Cx} : CallR X (.builtin "len") (fun xs H Q => ∃ a n, xs = [V.ref a] ∧ H a = some (stO a n) ∧ n < 1000 ∧ Q (.int n) H) := by
  intro pins s σ H xs us Q I r h
  obtain ⟨a, n, rfl, ha, hn, q⟩ := h
  obtain ⟨u, rfl, ru⟩ := vals1 r
  cases ru
  obtain ⟨⟨o, es, ep, t, h1, h2, h3, h4, h5⟩, _⟩ := I.hok a _ ha
  subst h5
  exact call_len_set h1 h2 h3 h4 (by omega) ⟨.int es.size, H, I.tok _, ⟨_, rfl⟩, q⟩
end L2
namespace L2
open PySem PySem.Spec PyProof.Rows
structure ClsM (K : PySem.W.Frag) (C : Addr) (m : Str) (f : Addr) : Prop where
  ex : ∃ mc, PySem.W.readsIn K C mc = true ∧ PySem.W.findCls K (.ref C) mc m = some (.val (.ref f))
  hh : PySem.W.handedIn (.ref f) = true
  hg : PySem.W.specialIn K (.ref C) "__getattribute__" = some (some (.builtin "type.__getattribute__"))
  kp : PySem.W.keepIn K (.ref f) = true
section
variable {X : Cx} {C : Addr} {k : Nat} {ps : List Str} {sp : Sp} {m : Str} {pos apos : Pos} {e o : Expr} {es : List Expr} {t : TA}
end
structure FunD (K : PySem.W.Frag) (x qual : Str) (st : Stmt) (f : Addr) (fd : FuncData) : Prop where
  ex : ∃ (oc : Value) (od : Option Addr) (dV kV doc pm : Value) (an : Option Addr) (cdv ct : Value) (osl : Array (Option Value)),
    fd = PySem.W.fnOf x qual (defArgs st) (defBody st) (defScope st) dV kV doc pm an cdv ct ∧ K.lookup f = some ⟨oc, od, .func fd, osl⟩ ∧ PySem.W.codeIn K cdv qual = true
section
variable {P : Program} {w : World} {K : PySem.W.Frag} {mg : Str → Option Value} {base : Heap}
theorem fund_mk {x qual : Str} {st : Stmt} {f : Addr} {oc : Value} {od an : Option Addr} {osl : Array (Option Value)} {dV kV doc pm cdv ct : Value} (l : K.lookup f = some ⟨oc, od, .func (PySem.W.fnOf x qual (defArgs st) (defBody st) (defScope st) dV kV doc pm an cdv ct), osl⟩)
    (c : PySem.W.codeIn K cdv qual = true) : FunD K x qual st f (PySem.W.fnOf x qual (defArgs st) (defBody st) (defScope st) dV kV doc pm an cdv ct) := ⟨⟨oc, od, dV, kV, doc, pm, an, cdv, ct, osl, rfl, l, c⟩⟩
end
end L2
namespace L2
open PySem PySem.Spec PyProof.Rows
section
variable {prog : Program} {w : World} {A : Around} {h : Heap} {g : Array GenState} {d : Drawn} {t : Nat} {os : OsState} {a : Addr}
end
end L2
namespace L2
open PySem PySem.Spec PyProof.Rows
section
variable {prog : Program} {w : World} {A : Around} {R : Result → Shared → Prop} {I : Addr} {fp wr : List Addr} {G : Array GenState → Array GenState → Prop} {n : Nat} {P : Nat → Value → Prop} {St : Nat → Shared → Prop} {K : Type} [DecidableEq K]
end
section
variable {prog : Program} {w : World} {A : Around} {E : Value → Shared → Prop} {s : Shared} {K : Type} [DecidableEq K]
end
end L2
namespace L2
open PySem PySem.Spec PyProof.Rows
end L2
namespace L2
open PySem PySem.Spec PyProof.Rows
section
variable {prog : Program} {w : World} {A : Around} {E : Value → Shared → Prop} {s : Shared}
end
end L2
namespace L2
open PySem PySem.Spec PyProof.Rows
end L2
namespace L2
open PySem PySem.Spec PyProof.Rows
end L2
namespace L2
open PySem PySem.Spec PyProof.Rows
section
variable {prog : Program} {w : World} {A : Around} {E : Value → Shared → Prop} {s : Shared} {d it v : Addr} {o : Obj} {es : Array DictEntry} {i ep : Nat}
end
end L2
namespace L2
open PySem PySem.Spec PyProof.Rows
section
variable {X : Cx}
theorem map_int_inj : ∀ {c d : List Int}, c.map V.int = d.map V.int → c = d
  | [], [], _ => rfl
  | [], _ :: _, h => by simp at h
  | _ :: _, [], h => by simp at h
  | a :: c, b :: d, h => by
    rw [List.map_cons, List.map_cons] at h
    injection h with h1 h2
    injection h1 with h1
    rw [h1, map_int_inj h2]
noncomputable def isT (H : Hp) (c : List Int) (u : Value) : Bool := match u with
  | .ref a => @decide (H a = some (.tup (c.map V.int))) (Classical.propDecidable _)
  | _ => false
theorem isT_of {H : Hp} {c d : List Int} {a : Addr} (h : H a = some (.tup (d.map V.int))) : isT H c (.ref a) = decide (d = c) := by
  show @decide (H a = some (.tup (c.map V.int))) (Classical.propDecidable _) = decide (d = c)
  by_cases e : d = c
  · subst e
    rw [decide_eq_true (rfl : d = d)]
    exact @decide_eq_true _ (Classical.propDecidable _) h
  · rw [decide_eq_false e]
    refine @decide_eq_false _ (Classical.propDecidable _) fun z => e ?_
    rw [h] at z
    injection z with z
    injection z with z
    exact map_int_inj z
def rInT (K : PySem.W.Frag) (neg : Bool) : R2 := fun x y H Q => ∃ (b p : Addr) (as : List Addr) (c : List Int) (cs : List (List Int)), x = .ref b ∧ y = .ref p ∧ H b = some (.tup (c.map V.int)) ∧ SqL K H p (as.map V.ref) ∧ Tups H as cs ∧ Q (.bl (if neg then !decide (c ∈ cs) else decide (c ∈ cs))) H
theorem any_isT {H : Hp} {c : List Int} : ∀ {as : List Addr} {cs : List (List Int)}, Tups H as cs → (as.map Value.ref).any (isT H c) = decide (c ∈ cs)
  | _, _, .nil => by simp
  | a :: as, d :: cs, .cons r t => by
    rw [List.map_cons, List.any_cons, isT_of r, any_isT t]
    by_cases h : d = c
    · subst h; simp
    · have : ¬ c = d := fun z => h z.symm
      simp [h, this]
theorem mem_isT {k : Nat} (hr : Room k X.A) {pins : List (Addr × Obj)} {σ : St} {H : Hp} {s : Shared} (I : Inv X pins σ H s) {b : Addr} {c : List Int} (hb : H b = some (.tup (c.map V.int))) :
    ∀ {as : List Addr} {cs : List (List Int)}, Tups H as cs → ∀ u ∈ as.map Value.ref, SeqAt.EqAt X.A.in1 s u (.ref b) (isT H c u)
  | _, _, .nil => fun u hu => by simp at hu
  | a :: as, d :: cs, .cons r t => fun u hu => by
    rw [List.map_cons] at hu
    rcases List.mem_cons.mp hu with rfl | hu
    · obtain ⟨x1, r1⟩ := (Dp.ints (K := X.K) (ns := d) (SqT.of r)).reads I (u := .ref a) rfl
      obtain ⟨x2, r2⟩ := (Dp.ints (K := X.K) (ns := c) (SqT.of hb)).reads I (u := .ref b) rfl
      have := hr.units
      have h1 := depth_tints d
      rw [isT_of r, ← eqv_tints]
      exact SeqAt.eqAt_reads _ _ _ _ _ _ _ _ r1 r2 (Dp.ints (K := X.K) (H := H) (SqT.of r)).lay (Dp.ints (K := X.K) (H := H) (SqT.of hb)).lay (by show X.A.units + 1 + _ < _; omega)
    · exact mem_isT hr I hb t u hu
theorem op_inT {k : Nat} (hr : Room k X.A) : OpR X (compareOp .In) (rInT X.K false) := by
  intro pins s σ H x y v u Q I rx ry h
  obtain ⟨b, p, as, c, cs, rfl, rfl, hb, hp, ht, q⟩ := h
  cases rx
  cases ry
  obtain ⟨its, rv, pl, hz⟩ := I.list hp
  cases vals_refs rv
  refine SeqAt.in_listAt (isT H c) pl.isList (fun w hw => mem_isT hr I hb ht w (by simpa using hw)) ⟨.bl _, H, I, rfl, ?_⟩
  rw [show (as.map Value.ref).toArray.any (isT H c) = (as.map Value.ref).any (isT H c) by simp, any_isT ht]
  exact q
end
end L2
namespace L2
open PySem PySem.Spec PyProof.Rows
section
variable {prog : Program} {w : World} {d : Addr} {es : Array DictEntry} {ep : Nat}
end
section
variable {X : Cx}
end
end L2
namespace L2
open PySem PySem.Spec PyProof.Rows
section
variable {X : Cx}
end
end L2
namespace L2
open PySem PySem.Spec PyProof.Rows
section
variable {prog : Program} {w : World} {κ : Type} [DecidableEq κ] {knd : HeapKind prog w κ} {A : Around} {E : Value → Shared → Prop} {s : Shared}
end
section
variable {X : Cx}
end
section
open PySem.SeqAt
open PySem.AutoSeq1 (wpAny_loadPart')
open PySem.MeetsSeq PySem.MeetsSeq2 PySem.MeetsSeq3
end
section
variable {prog : Program} {w : World} {A : Around} {E : Value → Shared → Prop} {s : Shared}
end
end L2
namespace L2
open PySem PySem.Spec PyProof.Rows
section
variable {prog : Program} {w : World} {A : Around} {R : Result → Shared → Prop} {it : Addr} {fp wr : List Addr} {P : Nat → Value → Prop} {St : Nat → Heap → Prop}
end
section
variable {prog : Program} {w : World} {A : Around} {E : Value → Shared → Prop} {s : Shared}
end
section
variable {X : Cx}
end
section
variable {prog : Program} {w : World} {A : Around} {R : Result → Shared → Prop} {it : Addr} {fp wr : List Addr} {P : Nat → Value → Prop} {St : Nat → Heap → Prop}
end
section
variable {prog : Program} {w : World} {A : Around} {E : Value → Shared → Prop} {s : Shared}
end
section
variable {X : Cx}
end
end L2
namespace L2
open PySem PySem.Spec PyProof.Rows
section
variable {X : Cx}
end
end L2
namespace L2
open PySem PySem.Spec PyProof.Rows
end L2
namespace L2
open PySem PySem.Spec PyProof.Rows
end L2
namespace L2
open PySem PySem.Spec PyProof.Rows
end L2
namespace L2
open PySem PySem.Spec PyProof.Rows
end L2
namespace L2
open PySem PySem.Spec PyProof.Rows
section
variable {X : Cx} {pins : List (Addr × Obj)} {σ : St} {H : Hp} {s : Shared}
end
section
variable {M : Model} {A : Around} {E : Value → Shared → Prop} {s : Shared} {env : Env} {pos : Pos} {f : Addr} {Q : Value → Shared → Prop}
end
section
variable {X : Cx}
end
end L2
namespace L2
open PySem PySem.Spec PyProof.Rows
section
variable {X : Cx}
end
end L2
namespace L2
open PySem PySem.Spec PyProof.Rows
section
variable {P : Program} {w : World} {K : PySem.W.Frag} {mg : Str → Option Value} {base : Heap}
end
end L2
namespace L2
open PySem PySem.Spec PyProof.Rows
end L2
namespace L2
open PySem PySem.Spec PyProof.Rows
namespace TabA
open SetTable
variable (t : SetTable) (hashAt : Nat → Int) (h : Int)
def lp (p : Probe) : Probe := { p with j := (leap t.mask p.i p.perturb).1, more := runEnd t.mask (leap t.mask p.i p.perturb).1 - (leap t.mask p.i p.perturb).1, i := (leap t.mask p.i p.perturb).1, perturb := (leap t.mask p.i p.perturb).2 }
variable {t hashAt h}
theorem slot_live {j i : Nat} (e : t.slot j = .live i) : i < t.place.size := by
  unfold slot at e
  dsimp only at e
  split at e
  · rename_i q
    injection e with e
    subst e
    have q' := beq_iff_eq.mp q
    exact (Array.getElem?_eq_some_iff.mp q').1
  · split at e <;> cases e
theorem slot_nodummy {j : Nat} (hd : t.dummies = #[]) : t.slot j ≠ .dummy := by
  unfold slot
  dsimp only
  split
  · intro z; cases z
  · rw [hd]
    split
    · rename_i q
      unfold has at q
      simp at q
    · intro z; cases z
theorem slot_free {j : Nat} (hd : t.dummies = #[]) (hj : j ∉ t.place) : t.slot j = .empty := by
  cases e : t.slot j with
  | empty => rfl
  | dummy => exact (slot_nodummy hd e).elim
  | live i =>
    unfold slot at e
    dsimp only at e
    split at e
    · rename_i q
      have q' := beq_iff_eq.mp q
      exact (hj (Array.mem_of_getElem? q')).elim
    · split at e <;> cases e
theorem run_le (m i : Nat) : runEnd m i - i ≤ 9 := by unfold runEnd; split <;> omega
def nth (t : SetTable) (h : Int) : Nat → Probe
  | 0 => t.probeStart h
  | n + 1 => lp t (nth t h n)
theorem nth_more : ∀ n, (nth t h n).more ≤ 9
  | 0 => run_le _ _
  | _ + 1 => run_le _ _
theorem nth_j : ∀ n, (nth t h n).j = (nth t h n).i
  | 0 => rfl
  | _ + 1 => rfl
theorem bits_lt (h : Int) : bits h < 2 ^ 64 := by unfold bits; omega
theorem nth_pert : ∀ n, (nth t h n).perturb = bits h / 32 ^ n
  | 0 => by show bits h = _; simp
  | n + 1 => by
    show (nth t h n).perturb / 32 = _
    rw [nth_pert n, Nat.div_div_eq_div_mul, Nat.pow_succ]
theorem nth_i (n : Nat) : (nth t h (n + 1)).i = ((nth t h n).i * 5 + 1 + bits h / 32 ^ (n + 1)) % (t.mask + 1) := by
  show ((nth t h n).i * 5 + 1 + (nth t h n).perturb / 32) % (t.mask + 1) = _
  rw [nth_pert n, Nat.div_div_eq_div_mul, Nat.pow_succ]
theorem pert0 {n : Nat} (hn : 13 ≤ n) : bits h / 32 ^ n = 0 := by
  refine Nat.div_eq_of_lt (Nat.lt_of_lt_of_le (bits_lt h) ?_)
  exact Nat.le_trans (by decide : 2 ^ 64 ≤ 32 ^ 13) (Nat.pow_le_pow_right (by decide) hn)
def it (M : Nat) : Nat → Nat → Nat
  | 0, a => a
  | k + 1, a => (it M k a * 5 + 1) % M
theorem nth_it : ∀ k, (nth t h (12 + k)).i = it (t.mask + 1) k (nth t h 12).i
  | 0 => rfl
  | k + 1 => by
    show (nth t h (12 + k + 1)).i = _
    rw [nth_i, pert0 (by omega), nth_it k]
    rfl
theorem it8 : ∀ a < 8, ∀ j < 8, ∃ k, k < 8 ∧ it 8 k a = j := by decide +kernel
theorem it32 : ∀ a < 32, ∀ j < 32, ∃ k, k < 32 ∧ it 32 k a = j := by decide +kernel
theorem nth_lt : ∀ n, (nth t h n).i < t.mask + 1
  | 0 => Nat.mod_lt _ (Nat.succ_pos _)
  | n + 1 => by rw [nth_i]; exact Nat.mod_lt _ (Nat.succ_pos _)
theorem all_met (hm : t.mask = 7 ∨ t.mask = 31) {j : Nat} (hj : j < t.mask + 1) : ∃ n, n < 13 + t.mask ∧ (nth t h n).i = j := by
  have l := nth_lt (t := t) (h := h) 12
  rcases hm with e | e
  · rw [e] at hj l ⊢
    obtain ⟨k, hk, q⟩ := it8 _ l j hj
    exact ⟨12 + k, by omega, by rw [nth_it, e]; exact q⟩
  · rw [e] at hj l ⊢
    obtain ⟨k, hk, q⟩ := it32 _ l j hj
    exact ⟨12 + k, by omega, by rw [nth_it, e]; exact q⟩
theorem nodup_le : ∀ {l m : List Nat}, l.Nodup → (∀ x ∈ l, x ∈ m) → l.length ≤ m.length
  | [], m, _, _ => Nat.zero_le _
  | a :: l, m, hn, hs => by
    have ha := hs a List.mem_cons_self
    have := nodup_le (l := l) (m := m.erase a) (List.nodup_cons.mp hn).2 fun x hx => (List.mem_erase_of_ne (fun (e : x = a) => (List.nodup_cons.mp hn).1 (e ▸ hx))).mpr (hs x (List.mem_cons_of_mem _ hx))
    rw [List.length_erase_of_mem ha] at this
    have := List.length_pos_of_mem ha
    simp only [List.length_cons]
    omega
theorem some_free (_hd : t.dummies = #[]) (hs : t.place.size ≤ t.mask) : ∃ j, j < t.mask + 1 ∧ j ∉ t.place := by
  by_cases q : ∀ j, j < t.mask + 1 → j ∈ t.place
  · exfalso
    have := nodup_le (l := List.range (t.mask + 1)) (m := t.place.toList) List.nodup_range fun j hj => Array.mem_toList_iff.mpr (q j (List.mem_range.mp hj))
    simp at this
    omega
  · simp only [Classical.not_forall] at q
    obtain ⟨j, h1, h2⟩ := q
    exact ⟨j, h1, h2⟩
def cnt (o : Array (Option Nat)) : Nat := o.toList.countP Option.isSome
end TabA
def addT2 (t : SetTable) (es : Array (Int × Value)) (h : Int) (x : Value) : Option (SetTable × Array (Int × Value)) :=
  if t.gaveWay = true then none else
  match t.probe (hAt es) h (t.probeStart h) with
  | some (.empty j none) => if (t.put j).1.fits (SetTable.insertAt es (t.put j).2 (h, x)).size = true then
      (if (t.put j).1.tooFull = true then
        (match (t.put j).1.relaid ((SetTable.insertAt es (t.put j).2 (h, x)).map (·.1)) (SetTable.grown (es.size + 1)) with
        | some (t2, order) => if (order.filterMap ((SetTable.insertAt es (t.put j).2 (h, x))[·]?)).size = (SetTable.insertAt es (t.put j).2 (h, x)).size then some (t2, order.filterMap ((SetTable.insertAt es (t.put j).2 (h, x))[·]?)) else none
        | none => none)
      else some ((t.put j).1, SetTable.insertAt es (t.put j).2 (h, x))) else none
  | _ => none
section
variable {prog : Program} {w : World} {A : Around} {E : Value → Shared → Prop} {s : Shared}
theorem relay_of {a : Addr} {o : Obj} {es : Array (Int × Value)} {ep wanted : Nat} {t t2 : SetTable} {order : Array Nat} {Q : Unit → Shared → Prop} (ho : s.heap.get? a = some o) (hd : o.data = .set es ep t) (hf : t.fits es.size = true) (hw : SetTable.sizeAbove wanted ≤ sizeLine)
    (e : t.relaid (es.map (·.1)) wanted = some (t2, order)) (hz : (order.filterMap (es[·]?)).size = es.size) (hs : es.size < 1000) (h : Q () { s with heap := s.heap.update a (Obj.putSet (order.filterMap (es[·]?)) t2) }) :
    wpAny (model prog w) A (setRelay a wanted) Q E s := by
  unfold setRelay
  refine wpAny_bind (wpAny_setState_of ho hd hf ?_)
  dsimp only
  rw [if_neg (by omega), e]
  refine wpAny_bind ?_
  show wpAny _ _ (if ((order.filterMap (es[·]?)).size != es.size) = true then _ else _) _ _ _
  rw [if_neg (by simp [hz])]
  refine wpAny_pure ?_
  dsimp only
  exact wpAny_storeSet_of ho hd h (by have : sizeLine = 2 ^ 24 := rfl; omega)
theorem setAdd_free2 {K : Type} [DecidableEq K] {knd : HeapKind prog w K} {a b : Addr} {k : K} {o : Obj} {es es' : Array (Int × Value)} {ep : Nat} {t t' : SetTable} {Q : Bool → Shared → Prop} (hr : knd.room A) (hk : knd.is s.heap k b) (ho : s.heap.get? a = some o) (hd : o.data = .set es ep t) (hf : t.fits es.size = true) (hz : es'.size < 1000) (hsz : es.size < 999)
    (hv : ∀ (tk : Nat) (Q' : Bool → Shared → Prop), Q' true { s with toks := tk } → wpAny (model prog w) A (hashByValue 8 (.ref b)) Q' E { s with toks := tk })
    (e : addT2 t es (knd.hash k) (.ref b) = some (t', es')) (hsa : SetTable.sizeAbove (SetTable.grown (es.size + 1)) ≤ sizeLine)
    (h : ∀ h' ep', Heap.SameBut a s.heap h' → h'.get? a = some { o with data := .set es' ep' t' } → Q true { s with heap := h', toks := s.toks + knd.draws k }) :
    wpAny (model prog w) A (setAdd a (.ref b)) Q E s := by
  unfold addT2 at e
  split at e
  · cases e
  · rename_i hg
    split at e
    · rename_i j hp
      split at e
      · rename_i hfit
        have hiz : (SetTable.insertAt es (t.put j).2 (knd.hash k, Value.ref b)).size = es.size + 1 := by
          have := (SetTable.insertAt_perm es (t.put j).2 (knd.hash k, Value.ref b)).length_eq
          simpa using this
        unfold setAdd
        refine wpAny_holding (wpAny_bind (knd.pyHash hr hk ?_))
        unfold setAddHashed
        refine wpAny_holding ?_
        show wpAny _ _ (setAddHashedIn a (.ref b) (knd.hash k) (99999 + 1)) _ _ _
        unfold setAddHashedIn
        refine wpAny_bind (wpAny_setState_of (s := { s with toks := s.toks + knd.draws k }) ho hd hf ?_)
        dsimp only
        rw [if_neg (show ¬ byScan (.ref b) es = true by simp [byScan, Value.scannable])]
        refine wpAny_bind ?_
        unfold setSearch
        show wpAny _ _ (setSearchFrom a (.ref b) (knd.hash k) true (99999 + 1) none) _ _ _
        unfold setSearchFrom
        refine wpAny_bind (wpAny_setState_of (s := { s with toks := s.toks + knd.draws k }) ho hd hf ?_)
        dsimp only
        rw [if_neg hg]
        split
        · rename_i met hm
          have em : met = .empty j none := Option.some.inj (hm.symm.trans hp)
          subst em
          dsimp only
          refine wpAny_pure ?_
          dsimp only
          refine wpAny_bind (wpAny_setState_of (s := { s with toks := s.toks + knd.draws k }) ho hd hf ?_)
          dsimp only
          have tail : wpAny (model prog w) A (storeSet a (SetTable.insertAt es (t.put j).2 (knd.hash k, .ref b)) (t.put j).1 >>= fun _ => if (!false && (t.put j).1.tooFull) = true then (setRelay a (SetTable.grown (es.size + 1)) >>= fun _ => pure true) else pure true) Q E { s with toks := s.toks + knd.draws k } := by
            refine wpAny_bind (wpAny_storeSet_of (s := { s with toks := s.toks + knd.draws k }) ho hd ?_ (by have : sizeLine = 2 ^ 24 := rfl; omega))
            have g1 := Heap.get?_update_self (Obj.putSet (SetTable.insertAt es (t.put j).2 (knd.hash k, .ref b)) (t.put j).1) ho (by rw [putSet_of _ _ hd]; rfl)
            rw [putSet_of _ _ hd] at g1
            split at e
            · rename_i hfull
              rw [if_pos (by simpa using hfull)]
              split at e
              · rename_i t2 order hrl
                split at e
                · rename_i hq
                  injection e with e
                  injection e with e1 e2
                  subst e1 e2
                  refine wpAny_bind (relay_of (s := { s with heap := _, toks := s.toks + knd.draws k }) g1 rfl hfit hsa hrl hq (by omega) ?_)
                  refine wpAny_pure (h _ (ep + 1 + 1) ((Heap.SameBut.update ..).trans (Heap.SameBut.update ..)) ?_)
                  have := Heap.get?_update_self (Obj.putSet (order.filterMap ((SetTable.insertAt es (t.put j).2 (knd.hash k, Value.ref b))[·]?)) t2) g1 (by rw [putSet_of _ _ rfl]; rfl)
                  rw [putSet_of _ _ rfl] at this
                  exact this
                · cases e
              · cases e
            · rename_i hfull
              injection e with e
              injection e with e1 e2
              subst e1 e2
              rw [if_neg (by simpa using hfull)]
              exact wpAny_pure (h _ _ (Heap.SameBut.update ..) g1)
          split
          · refine wpAny_bind (hv _ _ ?_)
            rw [if_pos (rfl : true = true)]
            exact tail
          · refine wpAny_bind (wpAny_pure ?_)
            rw [if_pos (rfl : true = true)]
            exact tail
        · rename_i hm
          exact (hm _ hp).elim
      · cases e
    · cases e
end
section
variable {prog : Program} {w : World} {A : Around} {R : Result → Shared → Prop} {I : Addr} {fp wr : List Addr} {G : Array GenState → Array GenState → Prop} {n : Nat} {P : Nat → Value → Prop} {St : Nat → Shared → Prop}
end
theorem insert_size {α : Type} (xs : Array α) (p : Nat) (x : α) : (SetTable.insertAt xs p x).size = xs.size + 1 := by
  have := (SetTable.insertAt_perm xs p x).length_eq
  simpa using this
end L2
namespace L2
open PySem PySem.Spec PyProof.Rows
section
variable {prog : Program} {w : World} {κ : Type} [DecidableEq κ] {knd : HeapKind prog w κ} {A : Around} {E : Value → Shared → Prop} {s : Shared}
end
section
variable {X : Cx}
end
end L2
namespace L2
open PySem PySem.Spec PyProof.Rows
section
variable {prog : Program} {w : World}
variable {A : Around} {E : Value → Shared → Prop} {s : Shared}
end
end L2
namespace L2
open PySem PySem.Spec PyProof.Rows
section
variable {X : Cx}
end
end L2
namespace L2
open PySem PySem.Spec PyProof.Rows
section
variable {X : Cx}
end
section
variable {X : Cx}
end
section
variable {P : Program} {w : World} {K : PySem.W.Frag} {mg : Str → Option Value} {base : Heap}
end
end L2
namespace L2
open PySem PySem.Spec PyProof.Rows
section
variable {X : Cx}
end
structure KCalleeM (P : Program) (w : World) (K : PySem.W.Frag) (mg : Str → Option Value) (base : Heap) (C : Addr) (x : Str) (k : Nat) (ps : List Str) (sp : Sp) : Prop where
  ex : ∃ f fd, FnOk P w K mg base CX0 k f fd ps sp ∧ Mk K C f ∧ mg x = some (.ref C) ∧ Binds K fd ps [] ∧ Binds K fd ps [Value.none] ∧ Binds K fd ps [Value.none, Value.none]
section
variable {X : Cx} {C : Addr} {k : Nat} {ps : List Str} {sp : Sp} {x : Str} {p pos : Pos} {e : Expr} {es : List Expr} {t : TA} (G : KCalleeM X.prog X.w X.K X.mg X.base C x k ps sp) (hr : Room (k + 1) X.A) (hg : Gl X x) (ha : PA X (e :: es) t) (hdb : (x == ("__debug__" : Str)) = false := by decide)
    (he : starEach (e :: es) X.env = (false, eval e X.env) :: starEach es X.env := by rfl) (hpl : (backTo pos (starEach es X.env)).any (·.1) = false := by rfl)
include G hr hg ha hdb he hpl
end
theorem bindsM {K : PySem.W.Frag} {fd : FuncData} {ps : List Str} {ds : List Value} {T : Addr} {oc : Value} {od : Option Addr} {sl : Array (Option Value)} {items : Array Value} {n : Nat} (hd : fd.defaults = .ref T) (ho : K.lookup T = some ⟨oc, od, .seq items n, sl⟩)
    (m : Nat) (hm : ps.length = m + ds.length) (h : ∀ us : List Value, us.length = m → ∃ k, bindArgs fd ⟨us, []⟩ = (seqItems? fd.defaults >>= k) ∧ k (some items) = pure (ps.zip (us ++ ds))) : Binds K fd ps ds := fun s us hX hl => by
  obtain ⟨k, h1, h2⟩ := h us (by rw [hm, List.length_append] at hl; omega)
  exact PySem.W.binds_K hX hd ho rfl h1 h2
end L2
namespace L2
open PySem PySem.Spec PyProof.Rows
end L2
namespace L2
open PySem PySem.Spec PyProof.Rows
section
variable {P : Program} {w : World} {K : PySem.W.Frag} {mg : Str → Option Value} {base : Heap}
end
end L2
namespace L2
open PySem PySem.Spec PyProof.Rows
end L2
namespace L2
open PySem PySem.Spec PyProof.Rows
end L2
namespace L2
open PySem PySem.Spec PyProof.Rows
section
variable {X : Cx}
end
section
variable {prog : Program} {w : World} {A : Around} {R : Result → Shared → Prop} {it : Addr} {fp wr : List Addr} {P : Nat → Value → Prop} {St : Nat → Heap → Prop} {n : Nat}
end
section
variable {prog : Program} {w : World} {A : Around} {E : Value → Shared → Prop} {s : Shared}
end
section
variable {X : Cx}
end
end L2
namespace L2
open PySem PySem.Spec PyProof.Rows
section
variable {X : Cx}
end
section
variable {X : Cx} {pins : List (Addr × Obj)} {σ : St} {H : Hp} {s : Shared} {a : Addr} {C : Value} {cx : Str} {CW : Addr} {np hpos pos : Pos} {b₀ : Stmt} {suite : List Stmt} {nm : Option Str} {rest : List ExceptHandler} {D : Ends}
end
section
variable {X : Cx}
end
section
variable {X : Cx} {scope : Scope} {ls ys : List Str} {ix : List Nat} {tg iter elt : Expr} {ifs : List Expr} {pos : Pos} {wi : TI} {g : TG} {tt : TT} {te : TE}
end
section
variable {P : Program} {w : World} {K : PySem.W.Frag} {mg : Str → Option Value} {base : Heap} {N : List Str} {qual : Str} {scope : Scope} {f : Addr} {cd : Value} {A : Around} {outer : List Env} {s₀ : Shared} {H₀ : Hp} {E : XK}
end
section
variable {X : Cx} {scope : Scope} {ls ys : List Str} {ix : List Nat} {tg iter elt : Expr} {ifs : List Expr} {pos : Pos} {wi : TI} {g : TG} {tt : TT} {te : TE}
end
end L2
namespace L2
open PySem PySem.Spec PyProof.Rows
section
variable {X : Cx}
end
section
variable {X : Cx} {C : Addr} {x : Str} {p pos : Pos}
end
section
open PySem.SeqAt
open PySem.AutoSeq1 (wpAny_loadPart')
open PySem.MeetsSeq PySem.MeetsSeq2 PySem.MeetsSeq3
end
section
variable {prog : Program} {w : World} {A : Around} {E : Value → Shared → Prop} {s : Shared}
end
section
variable {X : Cx}
end
end L2
namespace HT
open PySem PyProof.Rows
section
variable {prog : Program} {w : World} {A : Around} {E : Value → Shared → Prop} {s : Shared}
end
end HT
namespace L2
open PySem PySem.Spec PyProof.Rows
end L2
namespace L2
open PySem PySem.Spec PyProof.Rows
section
open PySem.SeqAt
open PySem.AutoSeq1 (wpAny_loadPart')
open PySem.MeetsSeq PySem.MeetsSeq2 PySem.MeetsSeq3
end
section
variable {X : Cx}
end
structure KCalleeZ (P : Program) (w : World) (K : PySem.W.Frag) (mg : Str → Option Value) (base : Heap) (C : Addr) (x : Str) (k : Nat) (ps : List Str) (sp : Sp) (n : Nat) : Prop where
  ex : ∃ f fd, FnOk P w K mg base CX0 k f fd ps sp ∧ Mk K C f ∧ mg x = some (.ref C) ∧ ∀ j, j ≤ n → ∃ ds, Vals (List.replicate j (.int 0)) ds ∧ Binds K fd ps ds
section
variable {X : Cx} {C : Addr} {k n : Nat} {ps : List Str} {sp : Sp} {x : Str} {p pos : Pos} {e : Expr} {es : List Expr} {t : TA} (G : KCalleeZ X.prog X.w X.K X.mg X.base C x k ps sp n) (hr : Room (k + 1) X.A) (hg : Gl X x) (ha : PA X (e :: es) t) (hdb : (x == ("__debug__" : Str)) = false := by decide)
    (he : starEach (e :: es) X.env = (false, eval e X.env) :: starEach es X.env := by rfl) (hpl : (backTo pos (starEach es X.env)).any (·.1) = false := by rfl)
include G hr hg ha hdb he hpl
end
theorem bindsZ1 {K : PySem.W.Frag} {fd : FuncData} {ps : List Str} {t0 : Tok} (h0 : Binds K fd ps []) (h1 : Binds K fd ps [.int 0 t0]) : ∀ j, j ≤ 1 → ∃ ds, Vals (List.replicate j (.int 0)) ds ∧ Binds K fd ps ds
  | 0, _ => ⟨_, .nil, h0⟩
  | 1, _ => ⟨_, .cons ⟨_, rfl⟩ .nil, h1⟩
theorem bindsZ2 {K : PySem.W.Frag} {fd : FuncData} {ps : List Str} {t0 t1 : Tok} (h0 : Binds K fd ps []) (h1 : Binds K fd ps [.int 0 t1]) (h2 : Binds K fd ps [.int 0 t0, .int 0 t1]) : ∀ j, j ≤ 2 → ∃ ds, Vals (List.replicate j (.int 0)) ds ∧ Binds K fd ps ds
  | 0, _ => ⟨_, .nil, h0⟩
  | 1, _ => ⟨_, .cons ⟨_, rfl⟩ .nil, h1⟩
  | 2, _ => ⟨_, .cons ⟨_, rfl⟩ (.cons ⟨_, rfl⟩ .nil), h2⟩
section
variable {X : Cx}
end
section
variable {X : Cx}
def rCatG : R2 := fun x y H Q => ∃ a b xs ys, x = .ref a ∧ y = .ref b ∧ H a = some (.tup xs) ∧ H b = some (.tup ys) ∧ xs.length + ys.length ≤ sizeLine ∧ ∀ p H', Same H H' → H' p = some (.tup (xs ++ ys)) → Q (.ref p) H'
theorem op_catG : OpR X (binaryOp .Add) rCatG := by
  intro pins s σ H x y v u Q I rx ry h
  obtain ⟨a, b, xs, ys, rfl, rfl, ha, hb, hz, q⟩ := h
  by_cases e : xs = []
  · subst e
    cases rx
    cases ry
    obtain ⟨its, r1, p1, _⟩ := I.tuple (SqT.of ha)
    obtain ⟨its2, r2, p2, _⟩ := I.tuple (SqT.of hb)
    cases r1
    obtain ⟨⟨c0, d0, b0, l0⟩, o1, k1, n1, e1⟩ := id p1
    obtain ⟨⟨c2, d2, b2, l2⟩, o2, k2, n2, e2⟩ := id p2
    simp only at k1 e1 k2 e2
    subst k1 e1 k2 e2
    exact concat_meets ⟨_, o1, rfl⟩ ⟨_, o2, rfl⟩ noFill_tuple_add seq_tuple_add PySem.F.slot_tuple_add PySem.F.entry_tuple_add (PySem.F.args_tuple_add_2 _ _)
      (tuple_addW0 a b _ _ n1 n2 d0 d2 l0 l2 rfl) ⟨o1, o2, ⟨.ref b, H, I, rfl, q b H (Same.refl H) hb⟩⟩
  · refine op_catT pins s σ H _ _ v u Q I rx ry ⟨a, b, xs, ys, rfl, rfl, SqT.of ha, SqT.of hb, e, hz, fun z => ?_, fun _ p np => q p _ ((Same.refl H).upd np) upd_same⟩
    refine q a H (Same.refl H) ?_
    rw [z, List.append_nil]
    exact ha
end
section
variable {X : Cx}
end
end L2
namespace L2
open PySem PySem.Spec PyProof.Rows
namespace TabB
open SetTable
abbrev Own := Nat → Option Int
inductive Res where
  | free (j : Nat)
  | hit (j : Nat)
def adv (m : Nat) (p : Probe) : Probe :=
  if p.more > 0 then { p with j := p.j + 1, more := p.more - 1 } else
  { p with j := (leap m p.i p.perturb).1, more := runEnd m (leap m p.i p.perturb).1 - (leap m p.i p.perturb).1, i := (leap m p.i p.perturb).1, perturb := (leap m p.i p.perturb).2 }
theorem adv_eq (t : SetTable) (p : Probe) : t.advance p = adv t.mask p := rfl
theorem adv_dummy {m : Nat} {p : Probe} : (adv m p).dummy = p.dummy := by unfold adv; split <;> rfl
def goA (m : Nat) (f : Own) (h : Int) : Nat → Probe → Option Res
  | 0, _ => none
  | n + 1, p => match f p.j with
    | none => some (.free p.j)
    | some k => if k = h then some (.hit p.j) else goA m f h n (adv m p)
def updO (f : Own) (j : Nat) (h : Int) : Own := fun q => if q = j then some h else f q
section
variable {m : Nat} {f : Own} {h : Int}
theorem goA_free : ∀ {n : Nat} {p : Probe} {j : Nat}, goA m f h n p = some (.free j) → f j = none
  | 0, _, _, e => nomatch e
  | n + 1, p, j, e => by
    unfold goA at e
    cases q : f p.j with
    | none =>
      rw [q] at e
      injection e with e
      injection e with e
      rw [← e]; exact q
    | some k =>
      rw [q] at e
      dsimp only at e
      split at e
      · injection e with e; cases e
      · exact goA_free e
theorem goA_hit : ∀ {n : Nat} {p : Probe} {j : Nat}, goA m f h n p = some (.hit j) → f j = some h
  | 0, _, _, e => nomatch e
  | n + 1, p, j, e => by
    unfold goA at e
    cases q : f p.j with
    | none => rw [q] at e; injection e with e; cases e
    | some k =>
      rw [q] at e
      dsimp only at e
      split at e
      · rename_i z
        injection e with e
        injection e with e
        rw [← e, q, z]
      · exact goA_hit e
theorem goA_keep {j : Nat} {k : Int} (hj : f j = none) : ∀ {n : Nat} {p : Probe} {q : Nat}, goA m f h n p = some (.hit q) → goA m (updO f j k) h n p = some (.hit q)
  | 0, _, _, e => nomatch e
  | n + 1, p, q, e => by
    unfold goA at e ⊢
    cases z : f p.j with
    | none => rw [z] at e; injection e with e; cases e
    | some k' =>
      rw [z] at e
      have ne : p.j ≠ j := fun y => by rw [y, hj] at z; cases z
      rw [show updO f j k p.j = some k' by unfold updO; rw [if_neg ne]; exact z]
      dsimp only at e ⊢
      split at e
      · rename_i y; rw [if_pos y]; exact e
      · rename_i y; rw [if_neg y]; exact goA_keep hj e
theorem goA_new : ∀ {n : Nat} {p : Probe} {j : Nat}, goA m f h n p = some (.free j) → goA m (updO f j h) h n p = some (.hit j)
  | 0, _, _, e => nomatch e
  | n + 1, p, j, e => by
    have hj := goA_free e
    unfold goA at e ⊢
    cases z : f p.j with
    | none =>
      rw [z] at e
      injection e with e
      injection e with e
      rw [show updO f j h p.j = some h by unfold updO; rw [if_pos e]]
      dsimp only
      rw [if_pos rfl, e]
    | some k' =>
      rw [z] at e
      have ne : p.j ≠ j := fun y => by rw [y, hj] at z; cases z
      rw [show updO f j h p.j = some k' by unfold updO; rw [if_neg ne]; exact z]
      dsimp only at e ⊢
      split at e
      · injection e with e; cases e
      · rename_i y; rw [if_neg y]; exact goA_new e
theorem goA_mono : ∀ {n N : Nat} {p : Probe} {r : Res}, goA m f h n p = some r → n ≤ N → goA m f h N p = some r
  | 0, _, _, _, e, _ => nomatch e
  | n + 1, N, p, r, e, l => by
    obtain ⟨N, rfl⟩ : ∃ M, N = M + 1 := ⟨N - 1, by omega⟩
    unfold goA at e ⊢
    cases z : f p.j with
    | none => rw [z] at e; exact e
    | some k =>
      rw [z] at e
      dsimp only at e ⊢
      split at e
      · rename_i y; rw [if_pos y]; exact e
      · rename_i y; rw [if_neg y]; exact goA_mono e (by omega)
def GoodA (m : Nat) (f : Own) (h : Int) (N : Nat) (p : Probe) : Prop := ∃ r, goA m f h N p = some r
theorem goodA_step {N : Nat} {p : Probe} (g : GoodA m f h N (adv m p)) : GoodA m f h (N + 1) p := by
  unfold GoodA goA
  cases z : f p.j with
  | none => exact ⟨_, rfl⟩
  | some k =>
    dsimp only
    split
    · exact ⟨_, rfl⟩
    · exact g
theorem goodA_mono {N M : Nat} {p : Probe} (g : GoodA m f h N p) (l : N ≤ M) : GoodA m f h M p := g.imp fun _ e => goA_mono e l
theorem goodA_run : ∀ (k N : Nat) (p : Probe), p.more = k → GoodA m f h N (TabA.lp { mask := m, place := #[], dummies := #[], finger := 0, led := true, moves := 0, plain := true } p) → GoodA m f h (N + (k + 1)) p := by
  intro k
  induction k with
  | zero =>
    intro N p hm g
    refine goodA_step ?_
    have e : adv m p = TabA.lp { mask := m, place := #[], dummies := #[], finger := 0, led := true, moves := 0, plain := true } p := by unfold adv; rw [if_neg (by omega)]; rfl
    rw [e]; exact g
  | succ k ih =>
    intro N p hm g
    have e : adv m p = { p with j := p.j + 1, more := k } := by unfold adv; rw [if_pos (by omega), hm]; rfl
    refine goodA_step (N := N + (k + 1)) ?_
    rw [e]
    exact ih N _ rfl g
end
def tm (m : Nat) : SetTable := { mask := m, place := #[], dummies := #[], finger := 0, led := true, moves := 0, plain := true }
section
variable {m : Nat} {f : Own} {h : Int}
theorem goodA_nth : ∀ (n k : Nat), f (TabA.nth (tm m) h (k + n)).j = none → GoodA m f h (1 + 10 * n) (TabA.nth (tm m) h k)
  | 0, k, e => by
    refine ⟨.free (TabA.nth (tm m) h k).j, ?_⟩
    show goA m f h (0 + 1) _ = _
    unfold goA
    rw [show f (TabA.nth (tm m) h k).j = none from e]
  | n + 1, k, e => by
    have g : GoodA m f h (1 + 10 * n) (TabA.nth (tm m) h (k + 1)) := goodA_nth n (k + 1) (by rw [show k + 1 + n = k + (n + 1) by omega]; exact e)
    have := goodA_run _ _ (TabA.nth (tm m) h k) rfl g
    exact goodA_mono this (by have := TabA.nth_more (t := tm m) (h := h) k; omega)
theorem it_add (M : Nat) (x : Nat) (b : Nat) : ∀ a, TabA.it M (a + b) x = TabA.it M a (TabA.it M b x)
  | 0 => by rw [Nat.zero_add]; rfl
  | a + 1 => by
    rw [show a + 1 + b = (a + b) + 1 by omega]
    show (TabA.it M (a + b) x * 5 + 1) % M = (TabA.it M a (TabA.it M b x) * 5 + 1) % M
    rw [it_add M x b a]
theorem it128_0 : ∀ j < 128, ∃ k, k < 128 ∧ TabA.it 128 k 0 = j := by decide +kernel
theorem it128 (a : Nat) (ha : a < 128) (j : Nat) (hj : j < 128) : ∃ k, k < 128 ∧ TabA.it 128 k a = j := by
  obtain ⟨ka, h1, ea⟩ := it128_0 a ha
  obtain ⟨kj, h2, ej⟩ := it128_0 j hj
  by_cases c : ka ≤ kj
  · refine ⟨kj - ka, by omega, ?_⟩
    rw [← ea, ← it_add, show kj - ka + ka = kj by omega, ej]
  · refine ⟨kj + 128 - ka, by omega, ?_⟩
    rw [← ea, ← it_add, show kj + 128 - ka + ka = kj + 128 by omega, it_add, show TabA.it 128 128 0 = 0 by decide +kernel, ej]
theorem all_metB (hm : m = 7 ∨ m = 31 ∨ m = 127) {j : Nat} (hj : j < m + 1) : ∃ n, n < 13 + m ∧ (TabA.nth (tm m) h n).j = j := by
  rcases hm with e | e | e
  · obtain ⟨n, h1, h2⟩ := TabA.all_met (t := tm m) (h := h) (.inl e) hj
    exact ⟨n, h1, by rw [TabA.nth_j]; exact h2⟩
  · obtain ⟨n, h1, h2⟩ := TabA.all_met (t := tm m) (h := h) (.inr e) hj
    exact ⟨n, h1, by rw [TabA.nth_j]; exact h2⟩
  · subst e
    have l := TabA.nth_lt (t := tm 127) (h := h) 12
    obtain ⟨k, hk, q⟩ := it128 _ l j hj
    exact ⟨12 + k, by omega, by rw [TabA.nth_j, TabA.nth_it]; exact q⟩
def start (m : Nat) (h : Int) : Probe := { j := bits h % (m + 1), more := runEnd m (bits h % (m + 1)) - bits h % (m + 1), i := bits h % (m + 1), perturb := bits h, dummy := none }
theorem search_ends (hm : m = 7 ∨ m = 31 ∨ m = 127) {j : Nat} (hj : j < m + 1) (e : f j = none) : ∃ r, goA m f h (10 * turns m) (start m h) = some r := by
  obtain ⟨n, hn, ej⟩ := all_metB (h := h) hm hj
  have := goodA_nth (m := m) (f := f) (h := h) n 0 (by rw [Nat.zero_add, ej]; exact e)
  exact goodA_mono this (by unfold turns; omega)
end
def ownOf (t : SetTable) (g : Nat → Int) : Own := fun j => match t.slot j with
  | .live i => some (g i)
  | _ => none
section
variable {t : SetTable} {g : Nat → Int} {h : Int}
theorem go_free (hd : t.dummies = #[]) : ∀ {n : Nat} {p : Probe} {j : Nat}, p.dummy = none → goA t.mask (ownOf t g) h n p = some (.free j) → probe.go t g h n p = some (.empty j none)
  | 0, _, _, _, e => nomatch e
  | n + 1, p, j, hp, e => by
    unfold goA ownOf at e
    unfold probe.go
    cases z : t.slot p.j with
    | empty =>
      rw [z] at e
      injection e with e
      injection e with e
      dsimp only
      rw [hp, e]
    | dummy => exact (TabA.slot_nodummy hd z).elim
    | live i =>
      rw [z] at e
      dsimp only at e ⊢
      split at e
      · injection e with e; cases e
      · rename_i y
        rw [if_neg (by simpa using y)]
        exact go_free hd (by rw [adv_eq, adv_dummy]; exact hp) e
theorem go_hit (hd : t.dummies = #[]) : ∀ {n : Nat} {p : Probe} {j : Nat}, goA t.mask (ownOf t g) h n p = some (.hit j) → ∃ i nx, probe.go t g h n p = some (.candidate j i nx) ∧ t.slot j = .live i ∧ g i = h
  | 0, _, _, e => nomatch e
  | n + 1, p, j, e => by
    unfold goA ownOf at e
    unfold probe.go
    cases z : t.slot p.j with
    | empty => rw [z] at e; injection e with e; cases e
    | dummy => exact (TabA.slot_nodummy hd z).elim
    | live i =>
      rw [z] at e
      dsimp only at e ⊢
      split at e
      · rename_i y
        injection e with e
        injection e with e
        rw [if_pos (by simpa using y)]
        exact ⟨i, _, by rw [e], by rw [← e]; exact z, y⟩
      · rename_i y
        rw [if_neg (by simpa using y)]
        exact go_hit hd e
end
def Ris (xs : Array Nat) : Prop := ∀ (i j x y : Nat), xs[i]? = some x → xs[j]? = some y → i < j → x < y
theorem below_go {xs : Array Nat} {j : Nat} (hr : Ris xs) : ∀ (fuel lo hi : Nat), hi - lo ≤ fuel → lo ≤ hi → hi ≤ xs.size → (∀ i x, i < lo → xs[i]? = some x → x < j) → (∀ i x, hi ≤ i → xs[i]? = some x → j ≤ x) →
    lo ≤ below.go xs j fuel lo hi ∧ below.go xs j fuel lo hi ≤ hi ∧ (∀ i x, i < below.go xs j fuel lo hi → xs[i]? = some x → x < j) ∧ (∀ i x, below.go xs j fuel lo hi ≤ i → xs[i]? = some x → j ≤ x)
  | 0, lo, hi, hf, hl, _, h1, h2 => by
    have : lo = hi := by omega
    subst this
    unfold below.go
    exact ⟨Nat.le_refl _, Nat.le_refl _, h1, h2⟩
  | fuel + 1, lo, hi, hf, hl, hs, h1, h2 => by
    unfold below.go
    by_cases c : lo < hi
    · rw [if_pos c]
      dsimp only
      have hmid : (lo + hi) / 2 < xs.size := by omega
      have em : xs[(lo + hi) / 2]? = some xs[(lo + hi) / 2] := Array.getElem?_eq_getElem hmid
      rw [show xs.getD ((lo + hi) / 2) j = xs[(lo + hi) / 2] by rw [Array.getD_eq_getD_getElem?, em]; rfl]
      split
      · rename_i y
        obtain ⟨a, b, c', d⟩ := below_go hr fuel ((lo + hi) / 2 + 1) hi (by omega) (by omega) hs (fun i x hi' e => by
          by_cases z : i = (lo + hi) / 2
          · rw [z, em] at e; cases e; exact y
          · exact Nat.lt_trans (hr _ _ _ _ e em (by omega)) y) h2
        exact ⟨by omega, b, c', d⟩
      · rename_i y
        obtain ⟨a, b, c', d⟩ := below_go hr fuel lo ((lo + hi) / 2) (by omega) (by omega) (by omega) h1 (fun i x hi' e => by
          by_cases z : i = (lo + hi) / 2
          · rw [z, em] at e; cases e; omega
          · have := hr _ _ _ _ em e (by omega)
            omega)
        exact ⟨a, by omega, c', d⟩
    · rw [if_neg c]
      have : lo = hi := by omega
      subst this
      exact ⟨Nat.le_refl _, Nat.le_refl _, h1, h2⟩
theorem below_ok {xs : Array Nat} (hr : Ris xs) (j : Nat) : below xs j ≤ xs.size ∧ (∀ i x, i < below xs j → xs[i]? = some x → x < j) ∧ (∀ i x, below xs j ≤ i → xs[i]? = some x → j ≤ x) := by
  have := below_go hr (j := j) xs.size 0 xs.size (by omega) (Nat.zero_le _) (Nat.le_refl _) (fun i x h _ => absurd h (Nat.not_lt_zero _)) (fun i x h e => by
    have := (Array.getElem?_eq_some_iff.mp e).1
    omega)
  exact this.2
theorem below_at {xs : Array Nat} (hr : Ris xs) {i j : Nat} (e : xs[i]? = some j) : below xs j = i := by
  obtain ⟨h0, h1, h2⟩ := below_ok hr j
  by_cases c : below xs j ≤ i
  · by_cases c2 : below xs j = i
    · exact c2
    · have lt : below xs j < xs.size := by have := (Array.getElem?_eq_some_iff.mp e).1; omega
      have e2 : xs[below xs j]? = some xs[below xs j] := Array.getElem?_eq_getElem lt
      have := h2 _ _ (Nat.le_refl _) e2
      have := hr _ _ _ _ e2 e (by omega)
      omega
  · have := h1 i j (by omega) e
    omega
theorem slot_iff {t : SetTable} (hd : t.dummies = #[]) (hr : Ris t.place) {i j : Nat} : t.slot j = .live i ↔ t.place[i]? = some j := by
  constructor
  · intro e
    unfold slot at e
    dsimp only at e
    split at e
    · rename_i q
      injection e with e
      rw [← e]
      exact beq_iff_eq.mp q
    · split at e <;> cases e
  · intro e
    unfold slot
    dsimp only
    rw [below_at hr e, if_pos (by rw [e]; simp)]
end TabB
end L2
namespace L2
open PySem PySem.Spec PyProof.Rows
namespace TabB
open SetTable
def lpsF (m : Nat) (i p : Nat) : Nat → Nat × Nat
  | 0 => (i, p)
  | n + 1 => leap m (lpsF m i p n).1 (lpsF m i p n).2
theorem lps_succ (m : Nat) (i p : Nat) : ∀ n, lpsF m i p (n + 1) = lpsF m (leap m i p).1 (leap m i p).2 n
  | 0 => rfl
  | n + 1 => by
    show leap m _ _ = leap m _ _
    rw [lps_succ m i p n]
theorem lps_nth (m : Nat) (h : Int) : ∀ n, lpsF m (bits h % (m + 1)) (bits h) n = ((TabA.nth (tm m) h n).i, (TabA.nth (tm m) h n).perturb)
  | 0 => rfl
  | n + 1 => by show leap m _ _ = _; rw [lps_nth m h n]; rfl
theorem freeB_some {m : Nat} {o : Array (Option Nat)} : ∀ (f i p : Nat), (∃ n, n < f ∧ o.getD (lpsF m i p n).1 (some 0) = none) → ∃ j, layClean.free m o f i p = some j
  | 0, _, _, ⟨n, hn, _⟩ => absurd hn (Nat.not_lt_zero _)
  | f + 1, i, p, ⟨n, hn, e⟩ => by
    unfold layClean.free
    cases q : (List.range (runEnd m i + 1 - i)).find? fun k => (o.getD (i + k) (some 0)).isNone with
    | some k => exact ⟨i + k, rfl⟩
    | none =>
      dsimp only
      cases n with
      | zero =>
        exfalso
        have e : o.getD i (some 0) = none := e
        have := List.find?_eq_none.mp q 0 (List.mem_range.mpr (by unfold runEnd; split <;> omega))
        rw [Nat.add_zero, e] at this
        exact this rfl
      | succ n => exact freeB_some f _ _ ⟨n, by omega, by rw [← lps_succ]; exact e⟩
def fo (o : Array (Option Nat)) (hs : Array Int) : Own := fun j => (o.getD j none).bind fun k => hs[k]?
theorem run_goA {m : Nat} {f : Own} {h : Int} : ∀ (c N : Nat) (p : Probe), c ≤ p.more → (∀ b, b < c → ∃ k, f (p.j + b) = some k ∧ k ≠ h) → goA m f h (c + N) p = goA m f h N { p with j := p.j + c, more := p.more - c }
  | 0, N, p, _, _ => by rw [Nat.zero_add]; rfl
  | c + 1, N, p, hc, hb => by
    obtain ⟨k, e, ne⟩ := hb 0 (Nat.succ_pos _)
    rw [show c + 1 + N = (c + N) + 1 by omega]
    show (match f p.j with | none => _ | some k => _) = _
    rw [Nat.add_zero] at e
    rw [e]
    dsimp only
    rw [if_neg ne]
    have ea : adv m p = { p with j := p.j + 1, more := p.more - 1 } := by unfold adv; rw [if_pos (by omega)]
    rw [ea, run_goA c N _ (by show c ≤ p.more - 1; omega) fun b hb' => by
      have := hb (b + 1) (by omega)
      rw [show p.j + (b + 1) = p.j + 1 + b by omega] at this
      exact this]
    congr 1
    show ({ j := p.j + 1 + c, more := p.more - 1 - c, i := p.i, perturb := p.perturb, dummy := p.dummy } : Probe) = { j := p.j + (c + 1), more := p.more - (c + 1), i := p.i, perturb := p.perturb, dummy := p.dummy }
    rw [show p.j + 1 + c = p.j + (c + 1) by omega, show p.more - 1 - c = p.more - (c + 1) by omega]
theorem run_bd {m i : Nat} (hi : i ≤ m) : i ≤ runEnd m i ∧ runEnd m i ≤ m ∧ runEnd m i - i ≤ 9 := by unfold runEnd; split <;> omega
theorem free_goA {m : Nat} {o : Array (Option Nat)} {f : Own} {h : Int} (hf : ∀ q, q ≤ m → (o.getD q (some 0) = none → f q = none) ∧ (o.getD q (some 0) ≠ none → ∃ k, f q = some k ∧ k ≠ h)) : ∀ (n i p j : Nat), i ≤ m → layClean.free m o n i p = some j →
    goA m f h (10 * n) { j := i, more := runEnd m i - i, i := i, perturb := p, dummy := none } = some (.free j)
  | 0, _, _, _, _, e => nomatch e
  | n + 1, i, p, j, hi, e => by
    obtain ⟨b1, b2, b3⟩ := run_bd hi
    unfold layClean.free at e
    cases q : (List.range (runEnd m i + 1 - i)).find? fun k => (o.getD (i + k) (some 0)).isNone with
    | some k =>
      rw [q] at e
      dsimp only at e
      injection e with e
      obtain ⟨h1, h2, h3⟩ := List.find?_range_eq_some.mp q
      have hk : k < runEnd m i + 1 - i := by simpa using h2
      have s := run_goA (m := m) (f := f) (h := h) k 1 { j := i, more := runEnd m i - i, i := i, perturb := p, dummy := none } (by show k ≤ runEnd m i - i; omega) fun b hb => by
        have := h3 b hb
        exact (hf (i + b) (by omega)).2 (by
          intro z
          rw [z] at this
          cases this)
      have hn0 : f (i + k) = none := (hf (i + k) (by omega)).1 (by simpa using h1)
      have s2 : goA m f h 1 { j := i + k, more := runEnd m i - i - k, i := i, perturb := p, dummy := none } = some (.free (i + k)) := by
        show (match f (i + k) with | none => _ | some k => _) = _
        rw [hn0]
      rw [← e]
      exact goA_mono (s.trans s2) (by omega)
    | none =>
      rw [q] at e
      dsimp only at e
      have occ : ∀ b, b ≤ runEnd m i - i → ∃ k, f (i + b) = some k ∧ k ≠ h := fun b hb => (hf (i + b) (by omega)).2 (by
        have := List.find?_eq_none.mp q b (List.mem_range.mpr (by omega))
        intro z
        rw [z] at this
        exact this rfl)
      have hi' : (leap m i p).1 ≤ m := by
        show (i * 5 + 1 + p / 32) % (m + 1) ≤ m
        have := Nat.mod_lt (i * 5 + 1 + p / 32) (show 0 < m + 1 by omega)
        omega
      have ih := free_goA hf n _ _ j hi' e
      have s := run_goA (m := m) (f := f) (h := h) (runEnd m i - i) (10 * n + 1) { j := i, more := runEnd m i - i, i := i, perturb := p, dummy := none } (Nat.le_refl _) fun b hb => occ b (by omega)
      obtain ⟨k, e1, e2⟩ := occ (runEnd m i - i) (Nat.le_refl _)
      have s2 : goA m f h (10 * n + 1) { j := i + (runEnd m i - i), more := runEnd m i - i - (runEnd m i - i), i := i, perturb := p, dummy := none } = some (.free j) := by
        show (match f (i + (runEnd m i - i)) with | none => _ | some k => _) = _
        rw [e1]
        dsimp only
        rw [if_neg e2]
        have ea : adv m { j := i + (runEnd m i - i), more := runEnd m i - i - (runEnd m i - i), i := i, perturb := p, dummy := none } = { j := (leap m i p).1, more := runEnd m (leap m i p).1 - (leap m i p).1, i := (leap m i p).1, perturb := (leap m i p).2, dummy := none } := by
          unfold adv
          rw [if_neg (by show ¬ runEnd m i - i - (runEnd m i - i) > 0; omega)]
        rw [ea]
        exact ih
      exact goA_mono (s.trans s2) (by omega)
theorem freeB_in {m : Nat} {o : Array (Option Nat)} (sz : o.size = m + 1) : ∀ (f i p j : Nat), i ≤ m → layClean.free m o f i p = some j → j < o.size ∧ o[j]? = some none
  | 0, _, _, _, _, e => nomatch e
  | f + 1, i, p, j, hi, e => by
    unfold layClean.free at e
    cases q : (List.range (runEnd m i + 1 - i)).find? fun k => (o.getD (i + k) (some 0)).isNone with
    | some k =>
      rw [q] at e
      dsimp only at e
      injection e with e
      obtain ⟨h1, h2, _⟩ := List.find?_range_eq_some.mp q
      have hk : k < runEnd m i + 1 - i := by simpa using h2
      have := run_bd hi
      have hj : j < o.size := by rw [sz]; omega
      refine ⟨hj, ?_⟩
      rw [e, Array.getD_eq_getD_getElem?, Array.getElem?_eq_getElem hj] at h1
      rw [Array.getElem?_eq_getElem hj]
      have h1 : o[j].isNone = true := h1
      rw [Option.isNone_iff_eq_none.mp h1]
    | none =>
      rw [q] at e
      dsimp only at e
      exact freeB_in sz f _ _ j (by
        show (i * 5 + 1 + p / 32) % (m + 1) ≤ m
        have := Nat.mod_lt (i * 5 + 1 + p / 32) (show 0 < m + 1 by omega)
        omega) e
structure LW (m : Nat) (hs : Array Int) (o : Array (Option Nat)) (k : Nat) : Prop where
  sz : o.size = m + 1
  ct : TabA.cnt o = k
  lt : ∀ (j v : Nat), o[j]? = some (some v) → v < k
  ij : ∀ (j j' v : Nat), o[j]? = some (some v) → o[j']? = some (some v) → j = j'
  fd : ∀ (i : Nat) (h : Int), i < k → hs[i]? = some h → ∃ j, goA m (fo o hs) h (10 * turns m) (start m h) = some (.hit j)
theorem lw_free {m : Nat} {hs : Array Int} {o : Array (Option Nat)} {k : Nat} (w : LW m hs o k) (hk : k < m + 1) : ∃ j, j < m + 1 ∧ o[j]? = some none := by
  by_cases q : ∀ j, j < m + 1 → o[j]? ≠ some none
  · exfalso
    have : o.toList.countP Option.isSome = o.toList.length := by
      refine List.countP_eq_length.mpr fun v hv => ?_
      obtain ⟨j, hj, e⟩ := List.mem_iff_getElem.mp hv
      have hj' : j < o.size := by simpa using hj
      have := q j (by rw [← w.sz]; exact hj')
      rw [Array.getElem?_eq_getElem hj'] at this
      have e' : o[j] = v := by simpa using e
      rw [e'] at this
      cases v with
      | none => exact (this rfl).elim
      | some _ => rfl
    have h1 := w.ct
    unfold TabA.cnt at h1
    rw [this, Array.length_toList, w.sz] at h1
    omega
  · simp only [Classical.not_forall, Classical.not_not] at q
    obtain ⟨j, h1, h2⟩ := q
    exact ⟨j, h1, h2⟩
theorem getD_of {o : Array (Option Nat)} {j : Nat} {v d : Option Nat} (e : o[j]? = some v) : o.getD j d = v := by rw [Array.getD_eq_getD_getElem?, e]; rfl
theorem fo_put {o : Array (Option Nat)} {hs : Array Int} {j k : Nat} {h : Int} (hj : j < o.size) (hk : hs[k]? = some h) : fo (o.setIfInBounds j (some k)) hs = updO (fo o hs) j h := by
  funext q
  unfold fo updO
  by_cases e : q = j
  · subst e
    rw [if_pos rfl, getD_of (v := some k) (by rw [Array.getElem?_setIfInBounds]; simp [hj])]
    exact hk
  · rw [if_neg e]
    show ((o.setIfInBounds j (some k)).getD q none).bind _ = (o.getD q none).bind _
    rw [Array.getD_eq_getD_getElem?, Array.getD_eq_getD_getElem?, Array.getElem?_setIfInBounds, if_neg (fun z => e z.symm)]
theorem lw_step {m : Nat} {hs : Array Int} {o : Array (Option Nat)} {k : Nat} {h : Int} (hm : m = 7 ∨ m = 31 ∨ m = 127) (w : LW m hs o k) (hk : k < m + 1) (hh : hs[k]? = some h) (hnew : ∀ i, i < k → hs[i]? ≠ some h) :
    ∃ j, layClean.free m o (turns m) (bits h % (m + 1)) (bits h) = some j ∧ LW m hs (o.setIfInBounds j (some k)) (k + 1) := by
  have hks : k < hs.size := (Array.getElem?_eq_some_iff.mp hh).1
  obtain ⟨j0, hj0, e0⟩ := lw_free w hk
  obtain ⟨n, hn, ej⟩ := all_metB (h := h) hm hj0
  obtain ⟨j, hfr⟩ := freeB_some (m := m) (o := o) (turns m) (bits h % (m + 1)) (bits h) ⟨n, by unfold turns; omega, by rw [lps_nth, ← TabA.nth_j, ej]; exact getD_of e0⟩
  have hf : ∀ q, q ≤ m → (o.getD q (some 0) = none → fo o hs q = none) ∧ (o.getD q (some 0) ≠ none → ∃ k', fo o hs q = some k' ∧ k' ≠ h) := fun q hq => by
    have hq' : q < o.size := by rw [w.sz]; omega
    have eq : o[q]? = some o[q] := Array.getElem?_eq_getElem hq'
    rw [getD_of eq]
    unfold fo
    rw [getD_of eq]
    cases z : o[q] with
    | none => exact ⟨fun _ => rfl, fun y => absurd rfl y⟩
    | some v =>
      refine ⟨(fun y => nomatch y), fun _ => ?_⟩
      have hv := w.lt q v (by rw [eq, z])
      have hvs : v < hs.size := by omega
      refine ⟨hs[v], by show (some v).bind _ = _; exact Array.getElem?_eq_getElem hvs, fun y => hnew v hv (by rw [Array.getElem?_eq_getElem hvs, y])⟩
  have g := free_goA hf (turns m) (bits h % (m + 1)) (bits h) j (by have := Nat.mod_lt (bits h) (show 0 < m + 1 by omega); omega) hfr
  have g : goA m (fo o hs) h (10 * turns m) (start m h) = some (.free j) := g
  have hjn := goA_free g
  have hjo : j < o.size ∧ o[j]? = some none := by
    exact freeB_in w.sz (turns m) _ _ j (by have := Nat.mod_lt (bits h) (show 0 < m + 1 by omega); omega) hfr
  refine ⟨j, hfr, ?_, ?_, ?_, ?_, ?_⟩
  · simpa using w.sz
  · have h1 := w.ct
    unfold TabA.cnt at h1 ⊢
    obtain ⟨l, e'⟩ := Array.getElem?_eq_some_iff.mp hjo.2
    rw [Array.toList_setIfInBounds, List.countP_set (by simpa using l), h1]
    simp [e']
  · intro i v q
    rw [Array.getElem?_setIfInBounds] at q
    split at q
    · split at q
      · injection q with q; injection q with q; omega
      · cases q
    · have := w.lt i v q; omega
  · intro a b v qa qb
    rw [Array.getElem?_setIfInBounds] at qa qb
    have old : ∀ {z : Nat}, o[z]? = some (some v) → v < k := fun {z} q => w.lt z v q
    by_cases ca : j = a
    · by_cases cb : j = b
      · omega
      · rw [if_neg cb] at qb
        rw [if_pos ca, if_pos (by omega)] at qa
        injection qa with qa
        injection qa with qa
        have := old qb
        omega
    · rw [if_neg ca] at qa
      by_cases cb : j = b
      · rw [if_pos cb, if_pos (by omega)] at qb
        injection qb with qb
        injection qb with qb
        have := old qa
        omega
      · rw [if_neg cb] at qb
        exact w.ij a b v qa qb
  · intro i h' hi eh
    rw [fo_put hjo.1 hh]
    by_cases c : i = k
    · subst c
      cases (Option.some.inj (eh.symm.trans hh) : h' = h)
      exact ⟨j, goA_new g⟩
    · obtain ⟨j', e'⟩ := w.fd i h' (by omega) eh
      exact ⟨j', goA_keep hjn e'⟩
end TabB
end L2
namespace L2
open PySem PySem.Spec PyProof.Rows
namespace TabB
open SetTable
theorem nd_at {α : Type} {l : List α} (hn : l.Nodup) {i j : Nat} {x : α} (h1 : l[i]? = some x) (h2 : l[j]? = some x) : i = j :=
  (List.getElem?_inj (List.getElem?_eq_some_iff.mp h1).1 hn).mp (h1.trans h2.symm)
theorem lay_foldB {m : Nat} (hm : m = 7 ∨ m = 31 ∨ m = 127) {hs : Array Int} (hn : hs.toList.Nodup) (hl : hs.size ≤ m + 1) : ∀ (l : List Int) (o : Array (Option Nat)) (k : Nat), LW m hs o k → hs.toList.drop k = l → k ≤ hs.size → ∃ o', (l.foldl (init := some (o, k)) fun acc h => do
    let (owner, k) ← acc
    let j ← layClean.free m owner (turns m) (bits h % (m + 1)) (bits h)
    pure (owner.setIfInBounds j (some k), k + 1)) = some (o', hs.size) ∧ LW m hs o' hs.size
  | [], o, k, w, e, hk => by
    have : hs.size - k = 0 := by
      have := congrArg List.length e
      simpa using this
    obtain rfl : k = hs.size := by omega
    exact ⟨o, rfl, w⟩
  | h :: l, o, k, w, e, hk => by
    have e0 : hs.toList[k]? = some h := by
      have : (hs.toList.drop k)[0]? = some h := by rw [e]; rfl
      rw [List.getElem?_drop] at this
      exact this
    have e0' : hs[k]? = some h := by rw [← Array.getElem?_toList]; exact e0
    have hks : k < hs.size := (Array.getElem?_eq_some_iff.mp e0').1
    obtain ⟨j, hf, w2⟩ := lw_step hm w (by omega) e0' fun i hi ei => by
      rw [← Array.getElem?_toList] at ei
      have := nd_at hn ei e0
      omega
    obtain ⟨o', h1, h2⟩ := lay_foldB hm hn hl l _ _ w2 (by rw [← List.drop_drop, e]; rfl) (by omega)
    refine ⟨o', ?_, h2⟩
    rw [List.foldl_cons, ← h1]
    congr 1
    show (layClean.free m o (turns m) (bits h % (m + 1)) (bits h) >>= _) = _
    rw [hf]
    rfl
theorem layB {m : Nat} (hm : m = 7 ∨ m = 31 ∨ m = 127) {hs : Array Int} (hn : hs.toList.Nodup) (hl : hs.size ≤ m + 1) : ∃ o, layClean m hs = some o ∧ LW m hs o hs.size := by
  obtain ⟨o, h1, w⟩ := lay_foldB hm hn hl hs.toList (Array.replicate (m + 1) none) 0 ⟨by simp, by unfold TabA.cnt; rw [Array.toList_replicate, List.countP_replicate]; simp, (fun j v e => by
    rw [Array.getElem?_replicate] at e
    split at e <;> simp at e), (fun j j' v e => by
    rw [Array.getElem?_replicate] at e
    split at e <;> simp at e), fun i h hi => absurd hi (Nat.not_lt_zero _)⟩ rfl (Nat.zero_le _)
  refine ⟨o, ?_, w⟩
  unfold layClean
  rw [← Array.foldl_toList, h1]
  rfl
theorem fm_map {α β : Type} (f : α → Option β) (g : α → β) : ∀ l : List α, (∀ x ∈ l, f x = some (g x)) → l.filterMap f = l.map g
  | [], _ => rfl
  | x :: l, h => by rw [List.filterMap_cons, h x List.mem_cons_self, List.map_cons, fm_map f g l fun y hy => h y (List.mem_cons_of_mem _ hy)]
def lives (m : Nat) (o : Array (Option Nat)) : List (Nat × Nat) := (List.range (m + 1)).filterMap fun j => (o.getD j none).map (j, ·)
theorem lives_mem {m : Nat} {o : Array (Option Nat)} {j k : Nat} : (j, k) ∈ lives m o ↔ j < m + 1 ∧ o.getD j none = some k := by
  unfold lives
  rw [List.mem_filterMap]
  constructor
  · rintro ⟨q, hq, e⟩
    obtain ⟨v, h1, h2⟩ := Option.map_eq_some_iff.mp e
    injection h2 with h2 h3
    subst h2 h3
    exact ⟨List.mem_range.mp hq, h1⟩
  · rintro ⟨h1, h2⟩
    exact ⟨j, List.mem_range.mpr h1, by rw [h2]; rfl⟩
theorem lives_pw (m : Nat) (o : Array (Option Nat)) : (lives m o).Pairwise (fun a b => a.1 < b.1) := by
  unfold lives
  refine List.Pairwise.filterMap (R := fun (a b : Nat) => a < b) (S := fun (a b : Nat × Nat) => a.1 < b.1) _ (fun a b hab x hx y hy => ?_) List.pairwise_lt_range
  obtain ⟨u, _, rfl⟩ := Option.map_eq_some_iff.mp hx
  obtain ⟨v, _, rfl⟩ := Option.map_eq_some_iff.mp hy
  exact hab
theorem ris_of {xs : Array Nat} (h : xs.toList.Pairwise (· < ·)) : Ris xs := fun i j x y e1 e2 lt => by
  rw [← Array.getElem?_toList] at e1 e2
  obtain ⟨h1, rfl⟩ := List.getElem?_eq_some_iff.mp e1
  obtain ⟨h2, rfl⟩ := List.getElem?_eq_some_iff.mp e2
  exact List.pairwise_iff_getElem.mp h i j h1 h2 lt
theorem pw_of {xs : Array Nat} (h : Ris xs) : xs.toList.Pairwise (· < ·) := List.pairwise_iff_getElem.mpr fun i j h1 h2 lt => h i j _ _ (by rw [← Array.getElem?_toList]; exact List.getElem?_eq_getElem h1) (by rw [← Array.getElem?_toList]; exact List.getElem?_eq_getElem h2) lt
structure SB (t : SetTable) (es : Array (Int × Value)) (c : List (Int × Value)) : Prop where
  dm : t.dummies = #[]
  ri : Ris t.place
  le : ∀ x ∈ t.place.toList, x ≤ t.mask
  sz : es.size = t.place.size
  ms : t.mask = 7 ∧ es.size < 5 ∨ t.mask = 31 ∧ es.size < 19 ∨ t.mask = 127 ∧ es.size < 76
  nd : (es.toList.map (·.1)).Nodup
  me : ∀ e, e ∈ es.toList ↔ e ∈ c
  fd : ∀ e ∈ es.toList, ∃ j, goA t.mask (ownOf t (hAt es)) e.1 (10 * turns t.mask) (start t.mask e.1) = some (.hit j)
theorem SB.m3 {t : SetTable} {es : Array (Int × Value)} {c : List (Int × Value)} (I : SB t es c) : t.mask = 7 ∨ t.mask = 31 ∨ t.mask = 127 := by
  rcases I.ms with h | h | h
  · exact .inl h.1
  · exact .inr (.inl h.1)
  · exact .inr (.inr h.1)
theorem hAt_of {es : Array (Int × Value)} {i : Nat} {e : Int × Value} (h : es[i]? = some e) : hAt es i = e.1 := by unfold hAt; rw [h]; rfl
theorem own_some {t : SetTable} {es : Array (Int × Value)} (hd : t.dummies = #[]) (hr : Ris t.place) (hz : es.size = t.place.size) {q : Nat} {k : Int} : ownOf t (hAt es) q = some k ↔ ∃ (i : Nat) (e : Int × Value), t.place[i]? = some q ∧ es[i]? = some e ∧ e.1 = k := by
  unfold ownOf
  constructor
  · intro h
    cases z : t.slot q with
    | empty => rw [z] at h; cases h
    | dummy => rw [z] at h; cases h
    | live i =>
      rw [z] at h
      have e1 := (slot_iff hd hr).mp z
      have hi : i < es.size := by rw [hz]; exact (Array.getElem?_eq_some_iff.mp e1).1
      have e2 : es[i]? = some es[i] := Array.getElem?_eq_getElem hi
      refine ⟨i, es[i], e1, e2, ?_⟩
      have h : hAt es i = k := Option.some.inj h
      rw [← h, hAt_of e2]
  · rintro ⟨i, e, e1, e2, rfl⟩
    rw [(slot_iff hd hr).mpr e1]
    show some (hAt es i) = _
    rw [hAt_of e2]
theorem own_none {t : SetTable} {g : Nat → Int} (hd : t.dummies = #[]) {q : Nat} (h : q ∉ t.place.toList) : ownOf t g q = none := by
  unfold ownOf
  rw [TabA.slot_free hd (fun z => h (Array.mem_toList_iff.mpr z))]
structure PIn (m : Nat) (p : Probe) : Prop where
  a : p.i ≤ m
  b : p.i ≤ p.j
  c : p.j + p.more ≤ m
theorem PIn.adv {m : Nat} {p : Probe} (h : PIn m p) : PIn m (adv m p) := by
  have h1 := h.a
  have h2 := h.b
  have h3 := h.c
  unfold TabB.adv
  split
  · exact ⟨h1, by show p.i ≤ p.j + 1; omega, by show p.j + 1 + (p.more - 1) ≤ m; omega⟩
  · have hi : (leap m p.i p.perturb).1 ≤ m := by
      show (p.i * 5 + 1 + p.perturb / 32) % (m + 1) ≤ m
      have := Nat.mod_lt (p.i * 5 + 1 + p.perturb / 32) (show 0 < m + 1 by omega)
      omega
    have hb := run_bd hi
    exact ⟨hi, Nat.le_refl _, by show (leap m p.i p.perturb).1 + (runEnd m (leap m p.i p.perturb).1 - (leap m p.i p.perturb).1) ≤ m; omega⟩
theorem goA_in {m : Nat} {f : Own} {h : Int} : ∀ {n : Nat} {p : Probe} {j : Nat}, PIn m p → goA m f h n p = some (.free j) → j ≤ m
  | 0, _, _, _, e => nomatch e
  | n + 1, p, j, hp, e => by
    unfold goA at e
    cases q : f p.j with
    | none =>
      rw [q] at e
      injection e with e
      injection e with e
      have := hp.c
      omega
    | some k =>
      rw [q] at e
      dsimp only at e
      split at e
      · injection e with e; cases e
      · exact goA_in hp.adv e
theorem start_in (m : Nat) (h : Int) : PIn m (start m h) := by
  have hi : bits h % (m + 1) ≤ m := by have := Nat.mod_lt (bits h) (show 0 < m + 1 by omega); omega
  have hb := run_bd hi
  exact ⟨hi, Nat.le_refl _, by show bits h % (m + 1) + (runEnd m (bits h % (m + 1)) - bits h % (m + 1)) ≤ m; omega⟩
theorem SB.free {t : SetTable} {es : Array (Int × Value)} {c : List (Int × Value)} {h : Int} (I : SB t es c) (hh : ∀ e ∈ es.toList, e.1 ≠ h) : ∃ j, j ≤ t.mask ∧ j ∉ t.place.toList ∧ goA t.mask (ownOf t (hAt es)) h (10 * turns t.mask) (start t.mask h) = some (.free j) := by
  have fr : ∃ j, j < t.mask + 1 ∧ j ∉ t.place := TabA.some_free I.dm (by have := I.sz; rcases I.ms with q | q | q <;> omega)
  obtain ⟨j0, h1, h2⟩ := fr
  obtain ⟨r, er⟩ := search_ends (f := ownOf t (hAt es)) (h := h) I.m3 h1 (own_none I.dm fun z => h2 (Array.mem_toList_iff.mp z))
  cases r with
  | hit j =>
    obtain ⟨i, e, e1, e2, e3⟩ := (own_some I.dm I.ri I.sz).mp (goA_hit er)
    exact absurd e3 (hh e (by rw [← Array.getElem?_toList] at e2; exact List.mem_of_getElem? e2))
  | free j =>
    have hj := goA_free er
    refine ⟨j, ?_, fun z => ?_, er⟩
    · exact goA_in (start_in _ _) er
    · obtain ⟨i, hi, e⟩ := List.mem_iff_getElem.mp z
      have e1 : t.place[i]? = some j := by rw [← Array.getElem?_toList, List.getElem?_eq_getElem hi, e]
      have hi' : i < es.size := by rw [I.sz]; simpa using hi
      have := (own_some I.dm I.ri I.sz (k := es[i].1)).mpr ⟨i, es[i], e1, Array.getElem?_eq_getElem hi', rfl⟩
      rw [hj] at this
      cases this
end TabB
end L2
namespace L2
open PySem PySem.Spec PyProof.Rows
namespace TabB
open SetTable
section
variable {α : Type} {L : List α} {x : α} {p i : Nat}
theorem ins_lt (hp : p ≤ L.length) (hi : i < p) : (L.take p ++ x :: L.drop p)[i]? = L[i]? := by
  rw [List.getElem?_append_left (by rw [List.length_take]; omega), List.getElem?_take, if_pos hi]
theorem ins_eq (hp : p ≤ L.length) : (L.take p ++ x :: L.drop p)[p]? = some x := by
  rw [List.getElem?_append_right (by rw [List.length_take]; omega), List.length_take, show p - min p L.length = 0 by omega]; rfl
theorem ins_gt (hp : p ≤ L.length) (hi : p ≤ i) : (L.take p ++ x :: L.drop p)[i + 1]? = L[i]? := by
  rw [List.getElem?_append_right (by rw [List.length_take]; omega), List.length_take, show i + 1 - min p L.length = (i - p) + 1 by omega, List.getElem?_cons_succ, List.getElem?_drop, show p + (i - p) = i by omega]
theorem ins_mem {y : α} : y ∈ L.take p ++ x :: L.drop p ↔ y = x ∨ y ∈ L := by
  rw [List.mem_append, List.mem_cons]
  constructor
  · rintro (h | h | h)
    · exact .inr (List.mem_of_mem_take h)
    · exact .inl h
    · exact .inr (List.mem_of_mem_drop h)
  · rintro (h | h)
    · exact .inr (.inl h)
    · rw [← List.take_append_drop p L] at h
      exact (List.mem_append.mp h).imp id .inr
end
theorem ins_list {α : Type} (xs : Array α) (p : Nat) (x : α) : (insertAt xs p x).toList = xs.toList.take p ++ x :: xs.toList.drop p := by
  unfold insertAt
  rw [Array.toList_append, Array.toList_push, Array.toList_extract, Array.toList_extract, List.append_assoc]
  simp
  exact List.take_of_length_le (by simp)
structure SB0 (t : SetTable) (es : Array (Int × Value)) (c : List (Int × Value)) : Prop where
  dm : t.dummies = #[]
  ri : Ris t.place
  le : ∀ x ∈ t.place.toList, x ≤ t.mask
  sz : es.size = t.place.size
  nd : (es.toList.map (·.1)).Nodup
  me : ∀ e, e ∈ es.toList ↔ e ∈ c
  fd : ∀ e ∈ es.toList, ∃ j, goA t.mask (ownOf t (hAt es)) e.1 (10 * turns t.mask) (start t.mask e.1) = some (.hit j)
theorem put_ok {t : SetTable} {es : Array (Int × Value)} {c : List (Int × Value)} {h : Int} {x : Value} {j : Nat} (I : SB t es c) (hh : ∀ e ∈ es.toList, e.1 ≠ h) (hj : j ≤ t.mask) (hjp : j ∉ t.place.toList) (hg : goA t.mask (ownOf t (hAt es)) h (10 * turns t.mask) (start t.mask h) = some (.free j)) :
    SB0 (t.put j).1 (insertAt es (t.put j).2 (h, x)) ((h, x) :: c) := by
  obtain ⟨hb, hlo, hhi⟩ := below_ok I.ri j
  have ep : (t.put j).1.place = insertAt t.place (below t.place j) j := rfl
  have e2 : (t.put j).2 = below t.place j := rfl
  have em : (t.put j).1.mask = t.mask := rfl
  have d1 : (t.put j).1.dummies = #[] := by
    unfold SetTable.put
    dsimp only
    rw [I.dm]
    split
    · rename_i q; unfold SetTable.has at q; simp at q
    · rfl
  rw [e2]
  have lp : (t.put j).1.place.toList = t.place.toList.take (below t.place j) ++ j :: t.place.toList.drop (below t.place j) := by rw [ep, ins_list]
  have le : (insertAt es (below t.place j) (h, x)).toList = es.toList.take (below t.place j) ++ (h, x) :: es.toList.drop (below t.place j) := ins_list _ _ _
  have hb1 : below t.place j ≤ t.place.toList.length := by simpa using hb
  have hb2 : below t.place j ≤ es.toList.length := by have := I.sz; simp; omega
  have ri : Ris (t.put j).1.place := by
    refine ris_of ?_
    rw [lp]
    have pw := pw_of I.ri
    have tk : ∀ y ∈ t.place.toList.take (below t.place j), y < j := fun y hy => by
      obtain ⟨i, hi, e⟩ := List.mem_iff_getElem.mp hy
      rw [List.length_take] at hi
      refine hlo i y (by omega) ?_
      rw [← Array.getElem?_toList, ← e, List.getElem_take, List.getElem?_eq_getElem]
    have dr : ∀ y ∈ t.place.toList.drop (below t.place j), j < y := fun y hy => by
      obtain ⟨i, hi, e⟩ := List.mem_iff_getElem.mp hy
      rw [List.length_drop] at hi
      have h1 := hhi (below t.place j + i) y (by omega) (by rw [← Array.getElem?_toList, ← e, List.getElem_drop, List.getElem?_eq_getElem])
      have h2 : y ≠ j := fun z => hjp (z ▸ List.mem_of_mem_drop hy)
      omega
    refine List.pairwise_append.mpr ⟨pw.sublist (List.take_sublist _ _), List.pairwise_cons.mpr ⟨dr, pw.sublist (List.drop_sublist _ _)⟩, fun a ha b hb => ?_⟩
    rcases List.mem_cons.mp hb with rfl | hb
    · exact tk a ha
    · exact Nat.lt_trans (tk a ha) (dr b hb)
  have sz : (insertAt es (below t.place j) (h, x)).size = (t.put j).1.place.size := by
    rw [ep, insert_size, insert_size, I.sz]
  have own : ownOf (t.put j).1 (hAt (insertAt es (below t.place j) (h, x))) = updO (ownOf t (hAt es)) j h := by
    funext q
    unfold updO
    by_cases c : q = j
    · rw [if_pos c]
      refine (own_some d1 ri sz).mpr ⟨below t.place j, (h, x), ?_, ?_, rfl⟩
      · rw [← Array.getElem?_toList, lp, c]; exact ins_eq hb1
      · rw [← Array.getElem?_toList, le]; exact ins_eq hb2
    · rw [if_neg c]
      cases z : ownOf t (hAt es) q with
      | some k =>
        obtain ⟨i, e, e1, e3, e4⟩ := (own_some I.dm I.ri I.sz).mp z
        rw [← Array.getElem?_toList] at e1 e3
        by_cases ci : i < below t.place j
        · exact (own_some d1 ri sz).mpr ⟨i, e, by rw [← Array.getElem?_toList, lp, ins_lt hb1 ci]; exact e1, by rw [← Array.getElem?_toList, le, ins_lt hb2 ci]; exact e3, e4⟩
        · exact (own_some d1 ri sz).mpr ⟨i + 1, e, by rw [← Array.getElem?_toList, lp, ins_gt hb1 (by omega)]; exact e1, by rw [← Array.getElem?_toList, le, ins_gt hb2 (by omega)]; exact e3, e4⟩
      | none =>
        refine own_none d1 fun y => ?_
        rw [lp] at y
        rcases ins_mem.mp y with y | y
        · exact c y
        · obtain ⟨i, hi, e⟩ := List.mem_iff_getElem.mp y
          have hi' : i < es.size := by rw [I.sz]; simpa using hi
          have := (own_some I.dm I.ri I.sz (k := es[i].1)).mpr ⟨i, es[i], by rw [← Array.getElem?_toList, List.getElem?_eq_getElem hi, e], Array.getElem?_eq_getElem hi', rfl⟩
          rw [z] at this
          cases this
  refine ⟨d1, ri, fun y hy => ?_, sz, ?_, fun e => ?_, fun e he => ?_⟩
  · rw [lp] at hy
    rw [em]
    rcases ins_mem.mp hy with rfl | hy
    · exact hj
    · exact I.le y hy
  · rw [le, List.map_append, List.map_cons, List.map_take, List.map_drop]
    have hp : ((es.toList.map (·.1)).take (below t.place j) ++ h :: (es.toList.map (·.1)).drop (below t.place j)).Perm (h :: es.toList.map (·.1)) := by
      have := List.perm_middle (a := h) (l₁ := (es.toList.map (·.1)).take (below t.place j)) (l₂ := (es.toList.map (·.1)).drop (below t.place j))
      rw [List.take_append_drop] at this
      exact this
    refine hp.nodup_iff.mpr (List.nodup_cons.mpr ⟨fun z => ?_, I.nd⟩)
    obtain ⟨e, he, e'⟩ := List.mem_map.mp z
    exact hh e he e'
  · rw [le, ins_mem, List.mem_cons, I.me]
  · rw [le] at he
    rw [own, em]
    rcases ins_mem.mp he with rfl | he
    · exact ⟨j, goA_new hg⟩
    · obtain ⟨j', e'⟩ := I.fd e he
      exact ⟨j', goA_keep (goA_free hg) e'⟩
theorem lives_len {m : Nat} {hs : Array Int} {o : Array (Option Nat)} {k : Nat} (w : LW m hs o k) : (lives m o).length = k := by
  unfold lives
  rw [List.length_filterMap_eq_countP]
  have e1 : o.toList = (List.range (m + 1)).map (fun j => o.getD j none) := by
    refine List.ext_getElem? fun j => ?_
    rw [List.getElem?_map, Array.getElem?_toList]
    by_cases hj : j < m + 1
    · rw [List.getElem?_range hj]
      have : j < o.size := by rw [w.sz]; exact hj
      simp [Array.getElem?_eq_getElem this]
    · have : ¬ j < o.size := by rw [w.sz]; exact hj
      rw [Array.getElem?_eq_none (by omega)]
      rw [List.getElem?_eq_none (by simpa using hj)]
      rfl
  have h2 := w.ct
  unfold TabA.cnt at h2
  rw [e1, List.countP_map] at h2
  rw [← h2]
  congr 1
  funext j
  simp
theorem relay_ok {t : SetTable} {es : Array (Int × Value)} {c : List (Int × Value)} (I : SB0 t es c) {m : Nat} (hm : m = 7 ∨ m = 31 ∨ m = 127) (hl : es.size ≤ m + 1) (finger moves : Nat) (led plain : Bool) :
    ∃ t2 order, laid m finger moves led plain (es.map (·.1)) = some (t2, order) ∧ t2.mask = m ∧ SB0 t2 (order.filterMap (es[·]?)) c ∧ (order.filterMap (es[·]?)).size = es.size := by
  have hnd : (es.map (·.1)).toList.Nodup := by rw [Array.toList_map]; exact I.nd
  obtain ⟨o, ec, w⟩ := layB hm hnd (by rw [Array.size_map]; exact hl)
  rw [Array.size_map] at w
  have lt : ∀ jk ∈ lives m o, jk.2 < es.size := fun ⟨j, k⟩ h => by
    have := (lives_mem.mp h).2
    rw [Array.getD_eq_getD_getElem?] at this
    cases z : o[j]? with
    | none => rw [z] at this; cases this
    | some u => rw [z] at this; exact w.lt j k (by rw [z]; exact congrArg some this)
  have eL : (((lives m o).map (·.2)).toArray.filterMap (es[·]?)).toList = (lives m o).map fun jk => es.getD jk.2 (0, .none) := by
    rw [Array.toList_filterMap, List.toList_toArray, List.filterMap_map]
    refine fm_map _ _ _ fun jk h => ?_
    show es[jk.2]? = _
    rw [Array.getElem?_eq_getElem (lt jk h), Array.getD_eq_getD_getElem?, Array.getElem?_eq_getElem (lt jk h)]; rfl
  have hAtk : ∀ {k : Nat} (hk : k < es.size), (es.map (·.1))[k]? = some es[k].1 := fun {k} hk => by rw [Array.getElem?_map, Array.getElem?_eq_getElem hk]; rfl
  have getk : ∀ {k : Nat} (hk : k < es.size), es.getD k (0, .none) = es[k] := fun {k} hk => by rw [Array.getD_eq_getD_getElem?, Array.getElem?_eq_getElem hk]; rfl
  have lz : (((lives m o).map (·.2)).toArray.filterMap (es[·]?)).size = (lives m o).length := by rw [← Array.length_toList, eL, List.length_map]
  refine ⟨{ mask := m, place := ((lives m o).map (·.1)).toArray, dummies := #[], finger := finger, led := led, moves := moves, plain := plain }, ((lives m o).map (·.2)).toArray, by unfold laid; rw [ec]; rfl, rfl, ?_, by rw [lz, lives_len w]⟩
  have ri : Ris ((lives m o).map (·.1)).toArray := ris_of (by rw [List.toList_toArray]; exact List.pairwise_map.mpr (lives_pw m o))
  have sz : (((lives m o).map (·.2)).toArray.filterMap (es[·]?)).size = ((lives m o).map (·.1)).toArray.size := by rw [lz, List.size_toArray, List.length_map]
  have own : ownOf { mask := m, place := ((lives m o).map (·.1)).toArray, dummies := #[], finger := finger, led := led, moves := moves, plain := plain } (hAt (((lives m o).map (·.2)).toArray.filterMap (es[·]?))) = fo o (es.map (·.1)) := by
    funext q
    cases z : fo o (es.map (·.1)) q with
    | some k =>
      unfold fo at z
      obtain ⟨v, e1, e2⟩ := Option.bind_eq_some_iff.mp z
      have hq : q < m + 1 := by
        rw [← w.sz]
        by_cases hq : q < o.size
        · exact hq
        · rw [Array.getD_eq_getD_getElem?, Array.getElem?_eq_none (by omega)] at e1; cases e1
      have hmem : (q, v) ∈ lives m o := lives_mem.mpr ⟨hq, e1⟩
      have hv := lt _ hmem
      obtain ⟨i, hi, ei⟩ := List.mem_iff_getElem.mp hmem
      refine (own_some rfl ri sz).mpr ⟨i, es[v], ?_, ?_, ?_⟩
      · show ((lives m o).map (·.1)).toArray[i]? = some q
        rw [← Array.getElem?_toList, List.toList_toArray, List.getElem?_map, List.getElem?_eq_getElem hi, ei]; rfl
      · rw [← Array.getElem?_toList, eL, List.getElem?_map, List.getElem?_eq_getElem hi, ei]
        exact congrArg some (getk hv)
      · rw [hAtk hv] at e2
        exact Option.some.inj e2
    | none =>
      refine own_none rfl fun y => ?_
      have y : q ∈ ((lives m o).map (·.1)).toArray.toList := y
      rw [List.toList_toArray] at y
      obtain ⟨⟨q', v⟩, hmem, rfl⟩ := List.mem_map.mp y
      have e1 := (lives_mem.mp hmem).2
      have hv := lt _ hmem
      unfold fo at z
      rw [e1] at z
      have z : (es.map (·.1))[v]? = none := z
      rw [hAtk hv] at z
      cases z
  have hit : ∀ k (hk : k < es.size), ∃ j, (j, k) ∈ lives m o := fun k hk => by
    obtain ⟨j, e⟩ := w.fd k _ hk (hAtk hk)
    have e := goA_hit e
    unfold fo at e
    obtain ⟨v, e1, e2⟩ := Option.bind_eq_some_iff.mp e
    have hj : j < m + 1 := by
      rw [← w.sz]
      by_cases hq : j < o.size
      · exact hq
      · rw [Array.getD_eq_getD_getElem?, Array.getElem?_eq_none (by omega)] at e1; cases e1
    have hmem : (j, v) ∈ lives m o := lives_mem.mpr ⟨hj, e1⟩
    have : v = k := nd_at hnd (by rw [Array.getElem?_toList]; exact e2) (by rw [Array.getElem?_toList]; exact hAtk hk)
    exact ⟨j, this ▸ hmem⟩
  have sn : ((lives m o).map (·.2)).Nodup := by
    refine List.pairwise_map.mpr ?_
    refine (List.pairwise_iff_getElem.mpr fun i j hi hj lt' e => ?_)
    have m1 := lives_mem.mp (show ((lives m o)[i].1, (lives m o)[i].2) ∈ lives m o from List.getElem_mem hi)
    have m2 := lives_mem.mp (show ((lives m o)[j].1, (lives m o)[j].2) ∈ lives m o from List.getElem_mem hj)
    have g1 : ∀ {q v : Nat}, o.getD q none = some v → o[q]? = some (some v) := fun {q v} z => by
      rw [Array.getD_eq_getD_getElem?] at z
      cases y : o[q]? with
      | none => rw [y] at z; cases z
      | some u => rw [y] at z; exact congrArg some z
    have := w.ij _ _ _ (g1 m1.2) (by rw [e]; exact g1 m2.2)
    have := List.pairwise_iff_getElem.mp (lives_pw m o) i j hi hj lt'
    omega
  refine ⟨rfl, ri, fun y hy => ?_, sz, ?_, fun e => ?_, fun e he => ?_⟩
  · have hy : y ∈ ((lives m o).map (·.1)).toArray.toList := hy
    rw [List.toList_toArray] at hy
    obtain ⟨⟨q, v⟩, hmem, rfl⟩ := List.mem_map.mp hy
    have := (lives_mem.mp hmem).1
    show q ≤ m
    omega
  · rw [eL, List.map_map]
    have : ((lives m o).map ((·.1) ∘ fun jk => es.getD jk.2 (0, .none))) = (((lives m o).map (·.2)).map fun k => (es.getD k (0, .none)).1) := by rw [List.map_map]; rfl
    rw [this]
    refine List.pairwise_map.mpr ((List.pairwise_iff_getElem.mpr fun i j hi hj lt' e => ?_))
    have hk : ∀ k ∈ (lives m o).map (·.2), k < es.size := fun k hk => by
      obtain ⟨jk, h1, rfl⟩ := List.mem_map.mp hk
      exact lt jk h1
    have k1 := hk _ (List.getElem_mem hi)
    have k2 := hk _ (List.getElem_mem hj)
    rw [getk k1, getk k2] at e
    have h3 : ((lives m o).map (·.2))[i] = ((lives m o).map (·.2))[j] := nd_at hnd (by rw [Array.getElem?_toList]; exact hAtk k1) (by rw [Array.getElem?_toList, e]; exact hAtk k2)
    exact List.pairwise_iff_getElem.mp sn i j hi hj lt' h3
  · rw [eL, ← I.me, List.mem_map]
    constructor
    · rintro ⟨jk, h1, rfl⟩
      rw [getk (lt jk h1)]
      exact Array.mem_toList_iff.mpr (Array.getElem_mem _)
    · intro he
      obtain ⟨k, hk, e'⟩ := List.mem_iff_getElem.mp he
      have hk' : k < es.size := by simpa using hk
      obtain ⟨j, hj⟩ := hit k hk'
      exact ⟨_, hj, by rw [getk hk', ← e']; simp⟩
  · rw [eL] at he
    obtain ⟨jk, h1, rfl⟩ := List.mem_map.mp he
    rw [own, getk (lt jk h1)]
    exact w.fd jk.2 _ (lt jk h1) (hAtk (lt jk h1))
theorem SB.add {t : SetTable} {es : Array (Int × Value)} {c : List (Int × Value)} {h : Int} {x : Value} (I : SB t es c) (hn : es.size < 75) (hh : ∀ e ∈ es.toList, e.1 ≠ h) : ∃ t' es', addT2 t es h x = some (t', es') ∧ SB t' es' ((h, x) :: c) ∧ es'.size = es.size + 1 := by
  obtain ⟨j, hj, hjp, hg⟩ := I.free hh
  have hp : t.probe (hAt es) h (t.probeStart h) = some (.empty j none) := go_free I.dm rfl hg
  have m3 := I.m3
  have hgw : ¬ t.gaveWay = true := by unfold SetTable.gaveWay; rcases m3 with q | q | q <;> simp [q]
  have J := put_ok (x := x) I hh hj hjp hg
  have m1 : (t.put j).1.mask = t.mask := rfl
  have es1 : (insertAt es (t.put j).2 (h, x)).size = es.size + 1 := insert_size _ _ _
  have p1 : (t.put j).1.place.size = es.size + 1 := by rw [← J.sz, es1]
  have f1 : (t.put j).1.fill = es.size + 1 := by unfold SetTable.fill; rw [p1, J.dm]; rfl
  have fit : (t.put j).1.fits (insertAt es (t.put j).2 (h, x)).size = true := by
    unfold SetTable.fits
    rw [es1, p1, f1, m1]
    simp
    rcases I.ms with q | q | q <;> omega
  unfold addT2
  rw [if_neg hgw, hp]
  dsimp only
  rw [if_pos fit]
  by_cases hf : (t.put j).1.tooFull = true
  · rw [if_pos hf]
    unfold SetTable.tooFull at hf
    rw [f1, m1] at hf
    simp only [ge_iff_le, decide_eq_true_eq] at hf
    obtain ⟨m2, hm2, e2, hms⟩ : ∃ m2, (m2 = 7 ∨ m2 = 31 ∨ m2 = 127) ∧ sizeAbove (grown (es.size + 1)) - 1 = m2 ∧ (m2 = 7 ∧ es.size + 1 < 5 ∨ m2 = 31 ∧ es.size + 1 < 19 ∨ m2 = 127 ∧ es.size + 1 < 76) := by
      rcases I.ms with ⟨q, r⟩ | ⟨q, r⟩ | ⟨q, r⟩
      · rw [q] at hf
        have : es.size = 4 := by omega
        rw [this]
        exact ⟨31, .inr (.inl rfl), by decide, .inr (.inl ⟨rfl, by decide⟩)⟩
      · rw [q] at hf
        have : es.size = 18 := by omega
        rw [this]
        exact ⟨127, .inr (.inr rfl), by decide, .inr (.inr ⟨rfl, by decide⟩)⟩
      · rw [q] at hf; omega
    obtain ⟨t2, order, el, em, J2, sz2⟩ := relay_ok J hm2 (by rw [es1]; rcases hms with q | q | q <;> omega) (t.put j).1.finger ((t.put j).1.movedTo m2) (t.put j).1.led (t.put j).1.plain
    have er : (t.put j).1.relaid ((insertAt es (t.put j).2 (h, x)).map (·.1)) (grown (es.size + 1)) = some (t2, order) := by
      unfold SetTable.relaid
      rw [e2]
      exact el
    rw [er]
    dsimp only
    rw [if_pos sz2]
    exact ⟨_, _, rfl, ⟨J2.dm, J2.ri, J2.le, J2.sz, by rw [sz2, es1, em]; exact hms, J2.nd, J2.me, J2.fd⟩, by rw [sz2, es1]⟩
  · rw [if_neg hf]
    unfold SetTable.tooFull at hf
    rw [f1, m1] at hf
    simp only [ge_iff_le, decide_eq_true_eq] at hf
    refine ⟨_, _, rfl, ⟨J.dm, J.ri, J.le, J.sz, ?_, J.nd, J.me, J.fd⟩, es1⟩
    rw [es1, m1]
    rcases I.ms with ⟨q, r⟩ | ⟨q, r⟩ | ⟨q, r⟩
    · rw [q] at hf; exact .inl ⟨q, by omega⟩
    · rw [q] at hf; exact .inr (.inl ⟨q, by omega⟩)
    · rw [q] at hf; exact .inr (.inr ⟨q, by omega⟩)
theorem SB.hit {t : SetTable} {es : Array (Int × Value)} {c : List (Int × Value)} {e : Int × Value} (I : SB t es c) (he : e ∈ es.toList) : ∃ j i nx, t.probe (hAt es) e.1 (t.probeStart e.1) = some (.candidate j i nx) ∧ es[i]? = some e := by
  obtain ⟨j, hg⟩ := I.fd e he
  obtain ⟨i, nx, h1, h2, h3⟩ := go_hit I.dm hg
  have hi : i < es.size := by rw [I.sz]; exact TabA.slot_live h2
  refine ⟨j, i, nx, h1, ?_⟩
  obtain ⟨k, hk, ek⟩ := List.mem_iff_getElem.mp he
  have e1 : (es.toList.map (·.1))[i]? = some e.1 := by
    rw [List.getElem?_map, Array.getElem?_toList, Array.getElem?_eq_getElem hi]
    rw [hAt_of (Array.getElem?_eq_getElem hi)] at h3
    exact congrArg some h3
  have e2 : (es.toList.map (·.1))[k]? = some e.1 := by rw [List.getElem?_map, List.getElem?_eq_getElem hk, ek]; rfl
  have := nd_at I.nd e1 e2
  subst this
  rw [← Array.getElem?_toList, List.getElem?_eq_getElem hk, ek]
theorem SB.nil (led : Bool) : SB (.fresh 0 0 led) #[] [] := ⟨rfl, (fun i j x y e => by simp [SetTable.fresh] at e), (fun x hx => by simp [SetTable.fresh] at hx), rfl, .inl ⟨rfl, by decide⟩, List.nodup_nil, fun e => by simp, fun e he => by simp at he⟩
theorem SB.fits {t : SetTable} {es : Array (Int × Value)} {c : List (Int × Value)} (I : SB t es c) : t.fits es.size = true := by
  unfold SetTable.fits SetTable.fill
  rw [I.sz, I.dm]
  simp
  have := I.sz
  rcases I.ms with q | q | q <;> omega
end TabB
end L2
namespace L2
open PySem PySem.Spec PyProof.Rows
section
variable {prog : Program} {w : World} {A : Around} {E : Value → Shared → Prop} {s : Shared}
theorem ofA_ints {b : Addr} {k : List Int} {Q : Bool → Shared → Prop} (ht : ITup s.heap k b) (h : Q false s) : wpAny (model prog w) A (ofAClassStatement 8 (.ref b)) Q E s := by
  obtain ⟨o, items, n, ho, hc, hd, hi⟩ := ht
  have hT : s.TypeIs (.ref b) "tuple" := ⟨o, ho, hc⟩
  unfold ofAClassStatement
  refine wpAny_bind (wpAny_typeOf hT ?_)
  dsimp only
  rw [if_pos (by decide)]
  refine wpAny_bind (wpAny_pure ?_)
  simp only [Bool.not_true, Bool.false_eq_true, if_false]
  refine wpAny_bind (wpAny_seqItems ho hd ?_)
  dsimp only
  refine wpAny_bind ?_
  show wpAny _ _ (forIn items _ _) _ _ _
  rw [← Array.forIn_toList]
  refine wpAny_forIn_list _ (fun rest q s' => s' = s ∧ q = (none, ()) ∧ ∀ v ∈ rest, ∃ i t, v = Value.int i t) _ ?_ ?_ _ _ ⟨rfl, rfl, fun v hv => hi.allInts v (by simpa using hv)⟩
  · rintro v rest q s' ⟨rfl, rfl, hr⟩
    obtain ⟨i, t, rfl⟩ := hr v List.mem_cons_self
    have e : ofAClassStatement 7 (.int i t) = pure false := by simp [ofAClassStatement]
    rw [e]
    exact wpAny_bind (wpAny_pure (by
      show wpAny _ _ (if false = true then _ else _) _ _ _
      rw [if_neg (by decide)]
      exact wpAny_pure ⟨rfl, rfl, fun x hx => hr x (List.mem_cons_of_mem _ hx)⟩))
  · rintro q s' ⟨rfl, rfl, _⟩
    exact wpAny_pure h
theorem seen_not {knd : HeapKind prog w (List Int)} (his : ∀ h k b, ITup h k b → knd.is h k b) {b : Addr} {k : List Int} {stored : List Value} {Q : Bool → Shared → Prop} (hb : ITup s.heap k b) (hs : ∀ y ∈ stored, ∃ kk bb, y = .ref bb ∧ ITup s.heap kk bb) (h : Q false s) :
    wpAny (model prog w) A (searchCouldBeSeen (.ref b) stored) Q E s := by
  unfold searchCouldBeSeen
  refine wpAny_bind ?_
  refine wpAny_forIn_list _ (fun rest q s' => s' = s ∧ q = (none, ()) ∧ ∀ y ∈ rest, ∃ kk bb, y = Value.ref bb ∧ ITup s.heap kk bb) _ ?_ ?_ _ _ ⟨rfl, rfl, hs⟩
  · rintro y rest q s' ⟨rfl, rfl, hr⟩
    obtain ⟨kk, bb, rfl, hbb⟩ := hr y List.mem_cons_self
    have nx : ∀ x ∈ rest, ∃ kk bb, x = Value.ref bb ∧ ITup s'.heap kk bb := fun x hx => hr x (List.mem_cons_of_mem _ hx)
    dsimp only
    split
    · exact wpAny_pure ⟨rfl, rfl, nx⟩
    · refine wpAny_bind (knd.quiet (his _ _ _ hb) ?_)
      simp only [Bool.not_true, Bool.false_eq_true, if_false]
      refine wpAny_bind (knd.quiet (his _ _ _ hbb) ?_)
      simp only [Bool.not_true, Bool.false_eq_true, if_false]
      refine wpAny_bind (ofA_ints hb ?_)
      simp only [Bool.false_eq_true, if_false]
      refine wpAny_bind (ofA_ints hbb ?_)
      simp only [Bool.false_eq_true, if_false]
      exact wpAny_pure ⟨rfl, rfl, nx⟩
  · rintro q s' ⟨rfl, rfl, _⟩
    exact wpAny_pure h
theorem setAdd_there {knd : HeapKind prog w (List Int)} (his : ∀ h k b, ITup h k b → knd.is h k b) {a b b' : Addr} {k : List Int} {o : Obj} {es : Array (Int × Value)} {ep : Nat} {t : SetTable} {c : List (Int × Value)} {Q : Bool → Shared → Prop} (hr : knd.room A) (hb : ITup s.heap k b) (hb' : ITup s.heap k b') (ho : s.heap.get? a = some o) (hd : o.data = .set es ep t)
    (I : TabB.SB t es c) (he : (knd.hash k, Value.ref b') ∈ es.toList) (hall : ∀ e ∈ es.toList, ∃ kk bb, e.2 = Value.ref bb ∧ ITup s.heap kk bb) (h : Q false { s with toks := s.toks + knd.draws k }) : wpAny (model prog w) A (setAdd a (.ref b)) Q E s := by
  obtain ⟨j, i, nx, hp, ei⟩ := I.hit he
  have hf := I.fits
  have hg : ¬ t.gaveWay = true := by unfold SetTable.gaveWay; rcases I.m3 with q | q | q <;> simp [q]
  unfold setAdd
  refine wpAny_holding (wpAny_bind (knd.pyHash hr (his _ _ _ hb) ?_))
  unfold setAddHashed
  refine wpAny_holding ?_
  show wpAny _ _ (setAddHashedIn a (.ref b) (knd.hash k) (99999 + 1)) _ _ _
  unfold setAddHashedIn
  refine wpAny_bind (wpAny_setState_of (s := { s with toks := s.toks + knd.draws k }) ho hd hf ?_)
  dsimp only
  rw [if_neg (show ¬ byScan (.ref b) es = true by simp [byScan, Value.scannable])]
  refine wpAny_bind ?_
  unfold setSearch
  show wpAny _ _ (setSearchFrom a (.ref b) (knd.hash k) true (99999 + 1) none) _ _ _
  unfold setSearchFrom
  refine wpAny_bind (wpAny_setState_of (s := { s with toks := s.toks + knd.draws k }) ho hd hf ?_)
  dsimp only
  rw [if_neg hg]
  split
  · rename_i met hm
    have em : met = .candidate j i nx := Option.some.inj (hm.symm.trans hp)
    subst em
    dsimp only
    split
    · refine wpAny_bind (seen_not (knd := knd) (s := { s with toks := s.toks + knd.draws k }) his hb (fun y hy => ?_) ?_)
      · obtain ⟨e, he', rfl⟩ := List.mem_map.mp hy
        exact hall e (Array.mem_toList_iff.mpr (Array.mem_filter.mp (Array.mem_toList_iff.mp he')).1)
      rw [if_neg (by decide), ei]
      dsimp only
      refine wpAny_bind (wpAny_holding (knd.eqBool (s := { s with toks := s.toks + knd.draws k }) hr (his _ _ _ hb') (his _ _ _ hb) ?_))
      refine wpAny_bind (wpAny_setState_of (s := { s with toks := s.toks + knd.draws k }) ho hd hf ?_)
      rw [if_pos (by simp)]
      exact wpAny_pure (wpAny_pure h)
    · rw [ei]
      dsimp only
      refine wpAny_bind (wpAny_holding (knd.eqBool (s := { s with toks := s.toks + knd.draws k }) hr (his _ _ _ hb') (his _ _ _ hb) ?_))
      refine wpAny_bind (wpAny_setState_of (s := { s with toks := s.toks + knd.draws k }) ho hd hf ?_)
      rw [if_pos (by simp)]
      exact wpAny_pure (wpAny_pure h)
  · rename_i hm
    exact (hm _ hp).elim
end
def SetAt (hash : List Int → Int) (key : Nat → List Int) (ad : Nat → Addr) (i : Nat) (h : Heap) (S : Addr) : Prop := ∃ (o : Obj) (ep : Nat) (es : Array (Int × Value)) (t : SetTable) (c : List (Int × Value)), h.get? S = some o ∧ o.ExactSet ∧ o.data = .set es ep t ∧ TabB.SB t es c ∧
  (∀ e ∈ es.toList, ∃ j, j < i ∧ e = (hash (key j), Value.ref (ad j))) ∧ (∀ j, j < i → ∃ e ∈ es.toList, e.1 = hash (key j)) ∧ es.size ≤ i
theorem grown_ok (n : Nat) (h : n < 77) : SetTable.sizeAbove (SetTable.grown (n + 1)) ≤ sizeLine := (show ∀ n < 77, SetTable.sizeAbove (SetTable.grown (n + 1)) ≤ sizeLine by decide +kernel) n h
section
variable {prog : Program} {w : World} {A : Around} {R : Result → Shared → Prop} {I : Addr} {fp wr : List Addr} {G : Array GenState → Array GenState → Prop} {n : Nat} {P : Nat → Value → Prop} {St : Nat → Shared → Prop}
theorem loop_set (W : WalksS prog w A.in1 I fp wr G n P St) (S : Addr) (hSf : S ∉ fp) (knd : HeapKind prog w (List Int)) (hroom : knd.room A.in1) (his : ∀ h k b, ITup h k b → knd.is h k b) (ad : Nat → Addr) (key : Nat → List Int) (hval : ∀ i v, P i v → v = .ref (ad i))
    (had : ∀ i, i < n → ad i ≠ S ∧ ad i ∉ wr) (hinj : ∀ i j, i < n → j < n → knd.hash (key i) = knd.hash (key j) → key i = key j) (hn : n ≤ 74) :
    ∀ (k i : Nat) (s : Shared), n - i = k → i ≤ n → St i s → (∀ j, j < n → ITup s.heap (key j) (ad j)) → SetAt knd.hash key ad i s.heap S →
      (∀ s', Moved (S :: wr) G s s' → SetAt knd.hash key ad n s'.heap S → R (.ok (.ret .none)) s') →
      codeAny (model prog w) A (.builtin "set.update.loop" ⟨[.ref S, .ref I], []⟩) R s := by
  have hSw : S ∉ wr := fun h => hSf (W.sub _ h)
  have more : ∀ b ∈ wr, b ∈ S :: wr := fun b hb => List.mem_cons_of_mem _ hb
  have it_kept : ∀ {h h' : Heap} {k b}, ITup h k b → (∀ o, h.get? b = some o → h'.get? b = some o) → ITup h' k b := fun ⟨o, its, c, h1, h2⟩ f => ⟨o, its, c, f o h1, h2⟩
  intro k
  induction k with
  | zero =>
    intro i s hk hi hst ht hS hR
    obtain rfl : i = n := by omega
    refine codeAny_builtin F.entry_set_update_loop ?_
    rw [Around.under_plainId F.plain_set_update_loop _]
    show wpAny _ A.in1 (pyNext (.ref I) >>= _) _ _ s
    refine wpAny_bind (W.done s _ _ hst fun s' hm => wpAny_pure (hR s' (hm.mono more) ?_))
    obtain ⟨o, ep, es, t, c, h1, h2⟩ := hS
    exact ⟨o, ep, es, t, c, hm.heap S _ hSw h1, h2⟩
  | succ k ih =>
    intro i s hk hi hst ht hS hR
    have hlt : i < n := by omega
    refine codeAny_builtin F.entry_set_update_loop ?_
    rw [Around.under_plainId F.plain_set_update_loop _]
    show wpAny _ A.in1 (pyNext (.ref I) >>= _) _ _ s
    refine wpAny_bind (W.item i s _ _ hlt hst fun v s' hP hst' hm => ?_)
    obtain rfl := hval i v hP
    obtain ⟨o, ep, es, t, cc, h1, h2, h3, SBt, cov⟩ := hS
    have ht' : ∀ j, j < n → ITup s'.heap (key j) (ad j) := fun j hj => it_kept (ht j hj) fun o q => hm.heap _ o (had j hj).2 q
    obtain ⟨ob, its, c, g1, g2, g3, g4⟩ := id (ht' i hlt)
    show wpAny _ A.in1 (holding [Value.ref (ad i)] (setAdd S (.ref (ad i))) >>= _) _ _ s'
    refine wpAny_bind (wpAny_holding ?_)
    by_cases hin : ∃ e ∈ es.toList, e.1 = knd.hash (key i)
    · obtain ⟨e, he, eh⟩ := hin
      obtain ⟨j, hj, rfl⟩ := cov.1 e he
      have hk' : key j = key i := hinj j i (by omega) hlt eh
      refine setAdd_there (knd := knd) (s := s') his (b' := ad j) hroom (ht' i hlt) (hk' ▸ ht' j (by omega)) (hm.heap S _ hSw h1) h3 SBt (by rw [← eh]; exact he) (fun e he => by
        obtain ⟨j, hj, rfl⟩ := cov.1 e he
        exact ⟨key j, ad j, rfl, ht' j (by omega)⟩) ?_
      refine wpAny_pure ⟨plainId_quiet F.plain_set_update_loop _, ih (i + 1) _ (by omega) hlt (W.frame _ s' _ _ hst' (Nat.le_add_right _ _) fun b hb o e => e) ht' ⟨o, ep, es, t, cc, hm.heap S _ hSw h1, h2, h3, SBt, ⟨fun e he => ?_, fun q hq => ?_, by have := cov.2.2; omega⟩⟩ fun s'' hm'' hS'' => ?_⟩
      · obtain ⟨j', hj', e'⟩ := cov.1 e he
        exact ⟨j', by omega, e'⟩
      · by_cases z : q = i
        · exact ⟨_, he, by rw [z]; exact eh⟩
        · exact cov.2.1 q (by omega)
      · exact hR s'' (Moved.trans W.gtrans ((hm.mono more).then_heap (Nat.le_add_right _ _) fun b o hb e => e) hm'') hS''
    have hsz := cov.2.2
    obtain ⟨t', es', ea, SB', sz'⟩ := SBt.add (h := knd.hash (key i)) (x := .ref (ad i)) (by omega) (fun e he z => hin ⟨e, he, z⟩)
    refine setAdd_free2 (knd := knd) (s := s') hroom (his _ _ _ (ht' i hlt)) (hm.heap S _ hSw h1) h3 SBt.fits (by omega) (by omega) (fun tk Q' q => hbv_ints (s := { s' with toks := tk }) g1 g2 g3 (fun v hv => ?_) q) ea (grown_ok _ (by omega)) fun h' ep' sb hg => ?_
    · exact g4.allInts v (by simpa using hv)
    · refine wpAny_pure ⟨plainId_quiet F.plain_set_update_loop _, ih (i + 1) _ (by omega) hlt (W.frame _ s' _ _ hst' (Nat.le_add_right _ _) fun b hb o e => ?_) (fun j hj => it_kept (ht' j hj) fun o q => ?_) ⟨_, _, _, _, _, hg, h2, rfl, SB', ⟨fun e he => ?_, fun q hq => ?_, by omega⟩⟩ fun s'' hm'' hS'' => ?_⟩
      · rw [sb.2 b (fun z => hSf (z ▸ hb))]; exact e
      · rw [sb.2 _ (had j hj).1]; exact q
      · rcases List.mem_cons.mp ((SB'.me e).mp he) with rfl | he
        · exact ⟨i, by omega, rfl⟩
        · obtain ⟨j', hj', e'⟩ := cov.1 e ((SBt.me e).mpr he)
          exact ⟨j', by omega, e'⟩
      · by_cases z : q = i
        · exact ⟨_, (SB'.me _).mpr List.mem_cons_self, by rw [z]⟩
        · obtain ⟨e, he, e'⟩ := cov.2.1 q (by omega)
          exact ⟨e, (SB'.me _).mpr (List.mem_cons_of_mem _ ((SBt.me e).mp he)), e'⟩
      · refine hR s'' (Moved.trans W.gtrans ((hm.mono more).then_heap (Nat.le_add_right _ _) fun b o hb e => ?_) hm'') hS''
        rw [sb.2 b (fun z => hb (by rw [z]; exact List.mem_cons_self))]; exact e
end
set_option maxHeartbeats 3200000 in
theorem call_set_tups3 {prog : Program} {w : World} {A : Around} {E : Value → Shared → Prop} {s : Shared} {l : Addr} {as : List Addr} {Q : Value → Shared → Prop} (hh : A.handled = none) (hl : s.heap.IsList l (as.map Value.ref).toArray)
    (knd : HeapKind prog w (List Int)) (hroom : knd.room A.in1.in1.in1) (his : ∀ h k b, ITup h k b → knd.is h k b) (key : Nat → List Int) (htup : ∀ j, j < as.length → ITup s.heap (key j) (as.getD j 0))
    (hinj : ∀ i j, i < as.length → j < as.length → knd.hash (key i) = knd.hash (key j) → key i = key j) (hn : as.length ≤ 74)
    (h : ∀ (led : Bool) (h' : Heap) (tk : Nat), SetAt knd.hash key (fun i => as.getD i 0) as.length h' s.heap.objs.size → (∀ b o, b < s.heap.objs.size → s.heap.get? b = some o → h'.get? b = some o) →
      Q (.ref s.heap.objs.size) { s with heap := h', toks := tk }) : wpAny (model prog w) A (call (.type "set") [.ref l]) Q E s := by
  obtain ⟨c0, tl0, hmro⟩ := F.called_set.mro
  have made := F.called_set.made
  have sub := F.called_set.sub
  have nt := F.called_set.notType
  have cc := F.called_set.canCreate
  have ck := F.typeCall_set_1 (.ref l)
  refine wpAny_call (codeAny_of_tree ?_)
  show wpAny _ _ (callAny (.type "set") ⟨[.ref l], []⟩) _ _ _
  refine wpAny_pure ⟨Code.quiet_builtin _ (by decide +kernel), codeAny_builtin F.entry_type_call ?_⟩
  rw [Around.under_plain (weight_type_call_type "set" [.ref l] []) rfl]
  repeat (any_goals (first | assumption | wp_step))
  refine codeAny_mono (code_set_new_1 (.ref l) (E := E) (Q₁ := fun v s₁ => ∃ led : Bool, v = .ref s.heap.objs.size ∧ s₁ = { s with heap := s.heap.push (set0 led) }) fun led => ⟨led, rfl, rfl⟩) fun r s₁ hr => ?_
  match r, hr with
  | .error e, hr => exact hr
  | .ok (.ret v), ⟨led, ev, es⟩ =>
    subst ev es
    have hS : (s.heap.push (set0 led)).get? s.heap.objs.size = some (set0 led) := Heap.get?_push_size _ rfl
    have hT : Shared.TypeIs { s with heap := s.heap.push (set0 led) } (.ref s.heap.objs.size) "set" := ⟨_, hS, rfl⟩
    have li := F.called_set.init.lookup
    have bi := F.called_set.init.bind (.ref s.heap.objs.size)
    repeat (any_goals (first | assumption | wp_step))
    refine codeAny_mono (codeAny_call_builtin (R := wants (fun r s₂ => r = .none ∧ ∃ h' tk, s₂ = { s with heap := h', toks := tk } ∧ SetAt knd.hash key (fun i => as.getD i 0) as.length h' s.heap.objs.size ∧
      ∀ b o, b < s.heap.objs.size → s.heap.get? b = some o → h'.get? b = some o) E) F.called_set.init.plain F.entry_set_init (check_set_init_1 hT ?_)) fun r₂ s₂ hr₂ => ?_
    · have lt : l < s.heap.objs.size := by obtain ⟨o, ho, _⟩ := hl; exact Heap.lt_size ho
      obtain ⟨⟨oc, od, odt, osl⟩, hol, hcl, nl, hdl⟩ := id hl
      simp only at hcl hdl
      subst hcl hdl
      have hol' : (s.heap.push (set0 led)).get? l = some ⟨.type "list", od, .seq (as.map Value.ref).toArray nl, osl⟩ := Heap.get?_push_of_some _ hol
      have n1 := F.sub_list_set
      have n2 := F.sub_list_frozenset
      have n3 : (Value.type "list" == Value.type "dict") = false := by decide
      have hl1 : (s.heap.push (set0 led)).IsList l (as.map Value.ref).toArray := ⟨_, hol', rfl, nl, rfl⟩
      unfold Builtin.«set.__init__» noKeywords Builtin.Frozenset.updateFrom
      generalize ePI : pyIter = PI
      wp_walk
      subst ePI
      refine wpAny_pyIter_list hl1 (wpAny_bind (wpAny_runValue ?_))
      have sz1 : (s.heap.push (set0 led)).objs.size = s.heap.objs.size + 1 := Heap.size_push ..
      have hd3 : A.in1.in1.in1.handled = none := by simp [hh]
      have neI : l ≠ (s.heap.push (set0 led)).objs.size := by rw [sz1]; exact Nat.ne_of_lt (Nat.lt_succ_of_lt lt)
      have nS : s.heap.objs.size ∉ [(s.heap.push (set0 led)).objs.size, l] := by
        rw [sz1]
        intro z
        rcases List.mem_cons.mp z with z | z
        · exact absurd z (Nat.ne_of_lt (Nat.lt_succ_self _))
        · exact absurd (List.mem_singleton.mp z) (Nat.ne_of_gt lt)
      have hld : ∀ j, j < as.length → as.getD j 0 < s.heap.objs.size := fun j hj => by obtain ⟨o, _, _, h1, _⟩ := htup j hj; exact Heap.lt_size h1
      refine loop_set ((Walks.list hd3 _ l neI (as.map Value.ref).toArray).toS) s.heap.objs.size nS knd hroom his (fun i => as.getD i 0) key (fun i v hv => ?_) (fun i hi => ?_) (fun i j hi hj => hinj i j (by simpa using hi) (by simpa using hj)) (by simpa using hn)
        ((as.map Value.ref).toArray.size - 0) 0 _ (by omega) (Nat.zero_le _) ⟨⟨_, Heap.get?_push_size _ rfl, rfl, rfl⟩, (hl1.push _)⟩ (fun j hj => ?_) ?_ fun s' hm hS' => ?_
      · have hv' : (as.map Value.ref).toArray[i]? = some v := hv
        rw [List.getElem?_toArray, List.getElem?_map] at hv'
        obtain ⟨x, hx, rfl⟩ := Option.map_eq_some_iff.mp hv'
        show _ = Value.ref (as.getD i 0)
        rw [List.getD_eq_getElem?_getD, hx]; rfl
      · have hi' : i < as.length := by simpa using hi
        have := hld i hi'
        refine ⟨Nat.ne_of_lt this, fun z => ?_⟩
        have z' := List.mem_singleton.mp z
        rw [sz1] at z'
        exact absurd z' (Nat.ne_of_lt (Nat.lt_succ_of_lt this))
      · obtain ⟨o, its, c, q1, q2⟩ := htup j (by simpa using hj)
        exact ⟨o, its, c, Heap.get?_push_of_some _ (Heap.get?_push_of_some _ q1), q2⟩
      · exact ⟨_, 0, #[], .fresh 0 0 led, [], Heap.get?_push_of_some _ hS, ⟨rfl, rfl, rfl⟩, rfl, TabB.SB.nil led, (fun e he => by simp at he), (fun j hj => absurd hj (Nat.not_lt_zero _)), Nat.zero_le _⟩
      · obtain ⟨h', g', d', tk', os'⟩ := s'
        obtain rfl : g' = s.gens := hm.gens
        obtain rfl : d' = s.drawn := hm.drawn
        obtain rfl : os' = s.os := hm.os
        refine wpAny_pure ?_
        show wpAny _ _ (ret Value.none) _ _ _
        refine wpAny_pure ⟨rfl, h', tk', rfl, by simpa using hS', fun b o hb e => hm.heap b o (fun z => ?_) (Heap.get?_push_of_some _ (Heap.get?_push_of_some _ e))⟩
        rcases List.mem_cons.mp z with z | z
        · exact absurd z (Nat.ne_of_lt hb)
        · have z' := List.mem_singleton.mp z
          rw [sz1] at z'
          exact absurd z' (Nat.ne_of_lt (Nat.lt_succ_of_lt hb))
    · match r₂, hr₂ with
      | .error e, z => exact z
      | .ok (.ret v), ⟨e1, h', tk, e2, z1, z2⟩ =>
        subst e1 e2
        repeat (any_goals (first | assumption | wp_step))
        exact h led h' tk z1 z2
      | .ok .next, z => exact z.elim
      | .ok .brk, z => exact z.elim
      | .ok .cont, z => exact z.elim
  | .ok .next, hr => exact hr.elim
  | .ok .brk, hr => exact hr.elim
  | .ok .cont, hr => exact hr.elim
end L2
namespace L2
open PySem PySem.Spec PyProof.Rows
theorem nd_len {α : Type} [DecidableEq α] : ∀ {xs ys : List α}, xs.Nodup → (∀ x ∈ xs, x ∈ ys) → xs.length ≤ ys.length
  | [], _, _, _ => Nat.zero_le _
  | a :: l, m, hn, hs => by
    have ha := hs a List.mem_cons_self
    have := nd_len (xs := l) (ys := m.erase a) (List.nodup_cons.mp hn).2 fun x hx => (List.mem_erase_of_ne (fun (e : x = a) => (List.nodup_cons.mp hn).1 (e ▸ hx))).mpr (hs x (List.mem_cons_of_mem _ hx))
    rw [List.length_erase_of_mem ha] at this
    have := List.length_pos_of_mem ha
    simp only [List.length_cons]
    omega
theorem call_setG {X : Cx} (hc : X.calm = true) {k : Nat} (hr : Room k X.A) : CallR X (.type "set") (fun xs H Q => ∃ (l : Addr) (as : List Addr) (cs : List (List Int)), xs = [.ref l] ∧ SqL X.K H l (as.map V.ref) ∧ Tups H as cs ∧ cs.length ≤ 74 ∧ (∀ c ∈ cs, ∀ d ∈ cs, hashT c = hashT d → c = d) ∧
    ∀ p n, H p = none → (∀ ds : List (List Int), ds.Nodup → (∀ c, c ∈ ds ↔ c ∈ cs) → n = ds.length) → n ≤ 74 → Q (.ref p) (upd H p (stO p n))) := by
  intro pins s σ H xs us Q I r h
  obtain ⟨l, as, cs, rfl, hl, ht, hcl, hok, q⟩ := h
  obtain ⟨u, rfl, ru⟩ := vals1 r
  cases ru
  obtain ⟨its, rv, pl, hz⟩ := I.list hl
  obtain rfl := vals_refs rv
  have hu := hr.units
  have len : as.length = cs.length := Paired.length ht
  have gd : ∀ {j : Nat} (hj : j < cs.length), cs.getD j [] = cs[j] := fun {j} hj => by rw [List.getD_eq_getElem?_getD, List.getElem?_eq_getElem hj]; rfl
  have hat : ∀ j, j < as.length → ITup s.heap (cs.getD j []) (as.getD j 0) := fun j hj => by
    obtain ⟨c, h1, h2⟩ := ht.at (i := j) (a := as.getD j 0) (by rw [List.getD_eq_getElem?_getD, List.getElem?_eq_getElem hj]; rfl)
    rw [List.getD_eq_getElem?_getD, h1]
    exact tup_itup I.hok h2
  refine call_set_tups3 (I.ok.hd hc) pl.isList (tupleKind (intKind X.prog X.w)) (show X.A.units + 1 + 1 + 1 < cLine by omega) (fun h k b t => itup_is t) (fun i => cs.getD i []) hat (fun i j hi hj e => ?_) (by omega) fun led h' tk hS hk => ?_
  · rw [gd (by omega), gd (by omega)] at e ⊢
    exact hok _ (List.getElem_mem _) _ (List.getElem_mem _) e
  obtain ⟨o, ep, es, t, c, h1, h2, h3, SBt, c1, c2, c3⟩ := hS
  have card : ∀ ds : List (List Int), ds.Nodup → (∀ c, c ∈ ds ↔ c ∈ cs) → es.size = ds.length := fun ds hn hm => by
    have nd2 : (ds.map hashT).Nodup := List.pairwise_map.mpr (List.Pairwise.imp_of_mem (fun {a b} ha hb hne e => hne (hok a ((hm a).mp ha) b ((hm b).mp hb) e)) hn)
    have a1 := nd_len SBt.nd (ys := ds.map hashT) fun x hx => by
      obtain ⟨e, he, rfl⟩ := List.mem_map.mp hx
      obtain ⟨j, hj, rfl⟩ := c1 e he
      have hj' : j < cs.length := by omega
      refine List.mem_map.mpr ⟨cs[j], (hm _).mpr (List.getElem_mem _), ?_⟩
      rw [← gd hj']; rfl
    have a2 := nd_len nd2 (ys := es.toList.map (·.1)) fun x hx => by
      obtain ⟨d, hd, rfl⟩ := List.mem_map.mp hx
      obtain ⟨j, hj, e⟩ := List.mem_iff_getElem.mp ((hm d).mp hd)
      obtain ⟨e', he', q'⟩ := c2 j (by omega)
      refine List.mem_map.mpr ⟨e', he', ?_⟩
      rw [q']
      show hashT (cs.getD j []) = hashT d
      rw [gd hj, e]
    simp only [List.length_map, Array.length_toList] at a1 a2
    omega
  refine ⟨.ref s.heap.objs.size, _, I.laid (a := s.heap.objs.size) (o := stO s.heap.objs.size es.size) (t' := tk) (fun b u e => hk b u (Heap.lt_size e) e) (Nat.le_refl _) ⟨⟨o, _, ep, _, h1, h2, h3, SBt.fits, rfl⟩, ⟨o, h1⟩, ?_⟩, rfl, q _ es.size (I.hok.fresh (Nat.le_refl _)) card (by omega)⟩
  rintro g1 g2 ⟨o', es, ep', t, e1, e2⟩ k'
  exact ⟨o', es, ep', t, k' _ e1, e2⟩
end L2
namespace L2
open PySem PySem.Spec PyProof.Rows
def tMakXZ (Ex : St → Value → Hp → Prop) (C : Addr) (sp : Sp) (dvs : List V) (t : TA) : TE := fun σ H Q => t σ H fun vs H1 => ∀ x dx, H1 x = none → H1 dx = none → dx ≠ x →
  sp (.ref x :: (vs ++ dvs)) (upd (upd H1 dx (.own x)) x (.ins C dx [])) (fun v H2 => v = .non ∧ Q (.ref x) H2) fun C' _ H' => Ex σ C' H'
structure KCalleeZX (P : Program) (w : World) (K : PySem.W.Frag) (mg : Str → Option Value) (base : Heap) (C : Addr) (x : Str) (k : Nat) (ps : List Str) (sp : Sp) (n : Nat) : Prop where
  ex : ∃ f fd, FnOk P w K mg base (CX1 P w) k f fd ps sp ∧ Mk K C f ∧ mg x = some (.ref C) ∧ ∀ j, j ≤ n → ∃ ds, Vals (List.replicate j (.int 0)) ds ∧ Binds K fd ps ds
section
variable {X : Cx} {Ex : St → Value → Hp → Prop} {C : Addr} {k : Nat} {f : Addr} {fd : FuncData} {ps : List Str} {sp : Sp} {x m : Str} {p pos apos : Pos} {e o : Expr} {es : List Expr} {ta : TE} {t : TA}
theorem run_makeXZ {pins : List (Addr × Obj)} {σ : St} {H : Hp} {s : Shared} {Q : VK} {us ds : List Value} {vs dvs : List V} (M : Mk X.K C f) (F : FnOk X.prog X.w X.K X.mg X.base (CX1 X.prog X.w) k f fd ps sp) (hr : Room (k + 1) X.A) (hb : Binds X.K fd ps ds) (rd : Vals dvs ds)
    (hx : Comes X.prog X.w X Ex) (I : Inv X pins σ H s) (r : Vals vs us)
    (h : ∀ x dx, H x = none → H dx = none → dx ≠ x → sp (.ref x :: (vs ++ dvs)) (upd (upd H dx (.own x)) x (.ins C dx [])) (fun v H2 => v = .non ∧ Q (.ref x) H2) fun C' _ H' => Ex σ C' H') :
    wpAny (model X.prog X.w) X.A (call (.ref C) us) (EP X pins σ Q) X.xe s := by
  have hq := h (s.heap.objs.size + 1) s.heap.objs.size (I.hok.fresh (Nat.le_succ _)) (I.hok.fresh (Nat.le_refl _)) (Nat.ne_of_lt (Nat.lt_succ_self _))
  have I2 := Inv.made (C := C) I
  have r2 : Vals (V.ref (s.heap.objs.size + 1) :: (vs ++ dvs)) (Value.ref (s.heap.objs.size + 1) :: us ++ ds) := .cons rfl (r.append rd)
  have hl : (Value.ref (s.heap.objs.size + 1) :: us ++ ds).length = ps.length := by
    have e := r2.length
    rw [F.len _ _ _ _ hq] at e
    exact e.symm
  have hbi := hb _ (Value.ref (s.heap.objs.size + 1) :: us) I2.kIn hl
  refine wpAny_call (make_map (f := f) I.kIn M.makes M.init (beq_iff_eq.mp M.fn) (codeAny_mono (F.run _ X.stack _ _ ⟨Value.ref (s.heap.objs.size + 1) :: us, []⟩ (Value.ref (s.heap.objs.size + 1) :: us ++ ds) _ _ _ (hr.make C us [])
    (I2.env0.make C us []) hbi r2 hq) fun r s' hq' => ?_))
  cases r with
  | error e => exact hx pins σ _ _ e s' I2 hq'
  | ok fl =>
    cases fl with
    | ret u =>
      obtain ⟨v, H', I3, rv, ev, q3⟩ := I2.after hq'
      subst ev
      exact ⟨rv, ⟨V.ref (s.heap.objs.size + 1), H', I3, rfl, q3⟩⟩
    | next => exact False.elim hq'
    | brk => exact False.elim hq'
    | cont => exact False.elim hq'
theorem pe_mkXZ {n : Nat} (G : KCalleeZX X.prog X.w X.K X.mg X.base C x k ps sp n) (j : Nat) (hj : j ≤ n) (hr : Room (k + 1) X.A) (hg : Gl X x) (hx : Comes X.prog X.w X Ex) (ha : PA X (e :: es) t) (hdb : (x == ("__debug__" : Str)) = false := by decide)
    (he : starEach (e :: es) X.env = (false, eval e X.env) :: starEach es X.env := by rfl) (hpl : (backTo pos (starEach es X.env)).any (·.1) = false := by rfl) : PE X (.Call (.Name x p) (e :: es) [] pos) (tMakXZ Ex C sp (List.replicate j (.int 0)) t) := by
  obtain ⟨f, fd, F, M, hm, hb⟩ := G.ex
  obtain ⟨ds, rd, hb⟩ := hb j hj
  intro pins s σ H Q I h
  refine wpAny_Call_Name_kw (ld_glob I hg hm ?_ hdb)
  refine PySem.W.callWith_K (h₀ := X.base) I.ok.mod.kin M.kp (thn (ha pos pins s σ H _ I h) fun us s1 ⟨vs, H1, I1, r, q⟩ => ⟨I1.kIn, ?_⟩) he hpl
  exact run_makeXZ M F hr hb rd hx I1 r q
structure ClsCalleeX (P : Program) (w : World) (K : PySem.W.Frag) (mg : Str → Option Value) (base : Heap) (C : Addr) (m : Str) (k : Nat) (ps : List Str) (sp : Sp) : Prop where
  ex : ∃ f fd, FnOk P w K mg base (CX1 P w) k f fd ps sp ∧ ClsM K C m f ∧ Binds K fd ps []
def tClsX (Ex : St → Value → Hp → Prop) (sp : Sp) (t : TA) : TE := fun σ H Q => t σ H fun vs H1 => sp vs H1 Q fun C' _ H' => Ex σ C' H'
theorem pe_clsX {pl : Sem Bool} (he : PE X o (tC (.ref C))) (G : ClsCalleeX X.prog X.w X.K X.mg X.base C m k ps sp) (hr : Room k X.A) (hx : Comes X.prog X.w X Ex) (ha : PA X (e :: es) t)
    (hst : starEach (e :: es) X.env = (false, eval e X.env) :: starEach es X.env := by rfl) (hpl : (backTo pos (starEach es X.env)).any (·.1) = false := by rfl)
    (ht : eval (.Call (.Attribute o m apos) (e :: es) [] pos) X.env = (do
      let ov ← eval o X.env
      standAt apos.atName
      let (f, first) ← holding [ov] (getMethod ov m pl)
      callWith pos f first (backTo pos (starEach (e :: es) X.env)) (backToKw pos (keywordEach [] X.env))) := by rfl) :
    PE X (.Call (.Attribute o m apos) (e :: es) [] pos) (tClsX Ex sp t) := by
  obtain ⟨f, fd, F, hm, hb⟩ := G.ex
  obtain ⟨mc, h1, h2⟩ := hm.ex
  intro pins s σ H Q I h
  refine PySem.W.methodCall_KW (pl := pl) (thn (he pins s σ H (fun v H1 => v = .ref C ∧ H1 = H) I ⟨rfl, rfl⟩) fun u s1 ⟨x, H1, I1, rx, ex, eH⟩ => ?_) ht
  subst ex eH
  cases (show u = Value.ref C from rx)
  refine PySem.W.method_cls I1.kIn hm.hg (PySem.W.cls_value I1.kIn h1 h2 hm.hh ?_)
  have I2 := I1.tok (s1.toks + 1)
  refine PySem.W.callWith_K (first := []) (h₀ := X.base) I.ok.mod.kin hm.kp (thn (ha pos pins _ σ _ _ I2 h) fun us s2 ⟨vs, H2, I3, r, q2⟩ => ⟨I3.kIn, ?_⟩) hst hpl
  exact run_fnX F hr hb hx I3 r q2
end
theorem fp_repr {X : Cx} {k : Nat} {e : Expr} {t : TE} {pos : Pos} (_hr : Room k X.A) (h : PE X e t) : FP X (.FormattedValue e 114 none pos) fun σ H => t σ H fun v H' => H' = H ∧ ∃ x : Str, v = .str x ∧ (∀ c ∈ x.cps.toList, c < 16 ^ 8) ∧ x.length ≤ 500 := by
  intro pins σ H s Q I c q
  have hsz : sizeLine = 2 ^ 24 := rfl
  refine wpAny_FormattedValue_repr (wpAny_mono (h pins s σ H _ I c) (fun v s' hv => ?_) fun _ _ z => z)
  obtain ⟨v', H', I', r, rfl, x, rfl, hx, hl⟩ := hv
  obtain ⟨t, rfl⟩ := r
  have hz := PySem.StrLaws.reprText_len x hx
  refine wpAny_pyReprObj_str ?_ (by omega)
  exact formatField_str (fun t' tk => q _ _ _ (I'.tok _) (by omega)) (by omega)
section
variable {P : Program} {w : World} {K : PySem.W.Frag} {mg : Str → Option Value} {base : Heap}
theorem FunD.okX {x qual : Str} {st : Stmt} {f : Addr} {fd : FuncData} {N ps : List Str} {k : Nat} {sp : Sp} (F : FunD K x qual st f fd) (S : FnScope N ps (defScope st)) (len : ∀ vs H Q E, sp vs H Q E → vs.length = ps.length)
    (hbody : ∀ (cdv : Value) (A : Around) (outer : List Env) (s : Shared) (H : Hp) (vs : List V) (Q : VK) (E : XK), Room k (A.deeper (envOfC qual (defScope st) s.heap.objs.size f cdv)) → sp vs H Q E →
      ∃ t, PSs (cx1 P w K mg base N qual (defScope st) f cdv A outer s H E) (defBody st) t ∧ t { nx := fun _ H' => Q .non H', rt := Q } (start N vs) H) : FnOk P w K mg base (CX1 P w) (k + 1) f fd ps sp := by
  obtain ⟨oc, od, dV, kV, doc, pm, an, cdv, ct, osl, rfl, lk, hcd⟩ := F.ex
  exact fn_of lk hcd S len fun A outer s H vs Q E hr hsp => hbody cdv A outer s H vs Q E hr hsp
end
end L2
namespace L2
open PySem PySem.Spec PyProof.Rows
def tMeth2 (C C' : Addr) (m : Str) (sp sp' : Sp) (ta : TE) : TE := fun σ H Q => ta σ H fun x H1 => ∃ a D dx fs, x = .ref a ∧ H1 a = some (.ins D dx fs) ∧ fs.lookup m = none ∧
  ((D = C ∧ sp [x] H1 Q E0) ∨ (D = C' ∧ sp' [x] H1 Q E0))
section
variable {X : Cx} {C C' : Addr} {k k' : Nat} {ps ps' : List Str} {sp sp' : Sp} {m : Str} {pos apos : Pos} {o : Expr} {ta : TE}
theorem pe_met20 {pl : Sem Bool} (he : PE X o ta) (c : Cls X.K C) (c' : Cls X.K C') (G : MCallee X.prog X.w X.K X.mg X.base C m k ps sp) (G' : MCallee X.prog X.w X.K X.mg X.base C' m k' ps' sp') (hr : Room k X.A) (hr' : Room k' X.A)
    (ht : eval (.Call (.Attribute o m apos) [] [] pos) X.env = (do
      let ov ← eval o X.env
      standAt apos.atName
      let (f, first) ← holding [ov] (getMethod ov m pl)
      callWith pos f first (backTo pos (starEach [] X.env)) (backToKw pos (keywordEach [] X.env))) := by rfl) :
    PE X (.Call (.Attribute o m apos) [] [] pos) (tMeth2 C C' m sp sp' ta) := by
  obtain ⟨f, fd, F, hm, hb⟩ := G.ex
  obtain ⟨f', fd', F', hm', hb'⟩ := G'.ex
  intro pins s σ H Q I h
  refine PySem.W.methodCall_KW (pl := pl) (thn (he pins s σ H _ I h) fun u s1 ⟨x, H1, I1, rx, a, D, dx, fs, ex, ea, l, q⟩ => ?_) ht
  subst ex
  obtain rfl : u = Value.ref a := rx
  rcases q with ⟨rfl, q⟩ | ⟨rfl, q⟩
  · refine getmeth_ok I1 ea c hm l ?_
    exact PySem.W.callWith_K0 (first := [.ref a]) I1.kIn hm.kp (run_fn (us := [.ref a]) (vs := [.ref a]) F hr hb .nil pass0 I1 (.cons rfl .nil) q)
  · refine getmeth_ok I1 ea c' hm' l ?_
    exact PySem.W.callWith_K0 (first := [.ref a]) I1.kIn hm'.kp (run_fn (us := [.ref a]) (vs := [.ref a]) F' hr' hb' .nil pass0 I1 (.cons rfl .nil) q)
end
end L2
namespace L2
open PySem PySem.Spec PyProof.Rows
def rotL (x : Nat) : Nat := (x * 2147483648) % 18446744073709551616 + x / 8589934592
def rotR (x : Nat) : Nat := x / 2147483648 + (x % 2147483648) * 8589934592
def lane (acc h : Nat) : Nat := rotL ((acc + h * 14029467366897019727) % 18446744073709551616) * 11400714785074694791 % 18446744073709551616
def unmix (y : Nat) : Nat := rotR (y * 614540362697595703 % 18446744073709551616)
theorem rot_lt {x : Nat} (h : x < 18446744073709551616) : rotL x < 18446744073709551616 := by unfold rotL; omega
theorem rotR_rotL {x : Nat} (h : x < 18446744073709551616) : rotR (rotL x) = x := by
  obtain ⟨g, l, rfl, h1, h2⟩ : ∃ g l, x = 8589934592 * g + l ∧ l < 8589934592 ∧ g < 2147483648 := ⟨x / 8589934592, x % 8589934592, by omega, by omega, by omega⟩
  have e : rotL (8589934592 * g + l) = l * 2147483648 + g := by unfold rotL; omega
  rw [e]
  unfold rotR
  omega
theorem mul_inv1 {x : Nat} (h : x < 18446744073709551616) : x * 11400714785074694791 % 18446744073709551616 * 614540362697595703 % 18446744073709551616 = x := by omega
theorem mul_inv2 {x : Nat} (h : x < 18446744073709551616) : x * 14029467366897019727 % 18446744073709551616 * 839798700976720815 % 18446744073709551616 = x := by omega
theorem lane_lt (acc h : Nat) : lane acc h < 18446744073709551616 := by unfold lane; exact Nat.mod_lt _ (by decide)
theorem unmix_lane (acc h : Nat) : unmix (lane acc h) = (acc + h * 14029467366897019727) % 18446744073709551616 := by
  have hx : (acc + h * 14029467366897019727) % 18446744073709551616 < 18446744073709551616 := Nat.mod_lt _ (by decide)
  unfold unmix lane
  rw [mul_inv1 (rot_lt hx), rotR_rotL hx]
theorem hashInt_small {a : Nat} (h : a < 2000000000000000000) : hashInt (a : Int) = a := by
  have e : rawHash (a : Int) = a := by
    unfold rawHash
    have hn : ¬ ((a : Int) < 0) := by omega
    have e1 : ((a : Int).natAbs : Int) % ((2 ^ 61 - 1 : Nat) : Int) = a := by
      rw [Int.natAbs_natCast]
      exact Int.emod_eq_of_lt (by omega) (by omega)
    simp only [hn, if_false]
    first | rw [e1] | simp only [Int.natAbs_natCast]
    rw [if_neg (by intro z; have := eq_of_beq z; omega)]
  unfold hashInt
  rw [e, if_neg (by intro z; have := eq_of_beq z; omega)]
theorem lane_step (acc : Nat) (h : Nat) : ((acc + h * 14029467366897019727) % 2 ^ 64 * 2 ^ 31 % 2 ^ 64 + (acc + h * 14029467366897019727) % 2 ^ 64 / 2 ^ 33) * 11400714785074694791 % 2 ^ 64 = lane acc h := by
  have p64 : (2 : Nat) ^ 64 = 18446744073709551616 := by decide
  have p31 : (2 : Nat) ^ 31 = 2147483648 := by decide
  have p33 : (2 : Nat) ^ 33 = 8589934592 := by decide
  unfold lane rotL
  rw [p64, p31, p33]
def hFin (n acc : Nat) : Int := if ((acc + (n ^^^ (2870177450012600261 ^^^ 3527539))) % 2 ^ 64 == 2 ^ 64 - 1) = true then 1546275796 else
  if (acc + (n ^^^ (2870177450012600261 ^^^ 3527539))) % 2 ^ 64 < 2 ^ 63 then (((acc + (n ^^^ (2870177450012600261 ^^^ 3527539))) % 2 ^ 64 : Nat) : Int) else (((acc + (n ^^^ (2870177450012600261 ^^^ 3527539))) % 2 ^ 64 : Nat) : Int) - ((2 ^ 64 : Nat) : Int)
theorem th_eq (hs : List Int) : Builtin.Tuple.tupleHashOf hs = hFin hs.length (hs.foldl (fun acc h => lane acc (h % ((2 ^ 64 : Nat) : Int)).toNat) 2870177450012600261) := by
  unfold Builtin.Tuple.tupleHashOf
  simp only [lane_step]
  rfl
theorem hFin_of {n c acc : Nat} (hc : n ^^^ (2870177450012600261 ^^^ 3527539) = c) (hne : (acc + c) % 18446744073709551616 ≠ 18446744073709551615) :
    reduceHash (hFin n acc) = if (acc + c) % 18446744073709551616 < 9223372036854775808 then (((acc + c) % 18446744073709551616 : Nat) : Int) else (((acc + c) % 18446744073709551616 : Nat) : Int) - 18446744073709551616 := by
  have hlt : (acc + c) % 18446744073709551616 < 18446744073709551616 := Nat.mod_lt _ (by decide)
  have e : hFin n acc = if (acc + c) % 18446744073709551616 < 9223372036854775808 then (((acc + c) % 18446744073709551616 : Nat) : Int) else (((acc + c) % 18446744073709551616 : Nat) : Int) - 18446744073709551616 := by
    unfold hFin
    rw [hc, show (2 : Nat) ^ 64 = 18446744073709551616 from by decide, show (2 : Nat) ^ 63 = 9223372036854775808 from by decide, if_neg (by intro z; exact hne (by simpa using z))]
    rfl
  rw [e]
  generalize (acc + c) % 18446744073709551616 = f at *
  unfold reduceHash
  split <;> (rw [if_pos (by simp; omega)]; rw [if_neg (by intro z; have := eq_of_beq z; omega)])
end L2
namespace L2
open PySem PySem.Spec PyProof.Rows
def l3 (a b c : Nat) : Nat := lane (lane (lane 2870177450012600261 a) b) c
end L2
namespace L2
open PySem PySem.Spec PyProof.Rows
def tT (i : Nat) : Nat := lane (lane 2870177450012600261 (i / 23)) (i % 23) * 839798700976720815 % 18446744073709551616
def ord529 : List Nat := [25, 475, 429, 280, 69, 362, 447, 519, 465, 334, 419, 38, 123, 478, 226, 352, 141, 113, 396, 154, 239, 324, 185, 28, 368, 126, 72, 450, 301, 144, 255, 522, 468, 422, 188, 229, 355, 440, 18, 484, 242, 327, 31, 116, 471, 425, 358, 443, 21, 304, 147, 232, 525, 47, 276, 34, 119, 461, 330, 415, 24, 474, 222, 348, 446, 109, 392, 150, 235, 528, 464, 418, 122, 351, 14, 140, 518, 184, 27, 225, 112, 238, 323, 467, 421, 228, 354, 439, 17, 300, 143, 521, 326, 30, 115, 524, 470, 442, 20, 105, 146, 231, 514, 460, 329, 414, 118, 221, 347, 108, 234, 23, 275, 121, 139, 517, 463, 417, 224, 67, 350, 13, 111, 322, 26, 466, 296, 16, 101, 142, 520, 183, 412, 227, 438, 510, 88, 325, 217, 441, 19, 104, 230, 271, 117, 204, 9, 387, 513, 91, 320, 274, 220, 63, 346, 107, 233, 462, 503, 223, 12, 97, 138, 390, 516, 179, 408, 66, 295, 506, 110, 182, 267, 213, 200, 437, 15, 100, 87, 411, 216, 5, 298, 383, 509, 316, 270, 59, 499, 203, 103, 512, 90, 175, 219, 62, 345, 8, 93, 386, 106, 319, 273, 209, 502, 206, 291, 389, 515, 178, 263, 407, 65, 11, 96, 83, 212, 55, 505, 433, 1, 294, 379, 137, 99, 312, 181, 266, 410, 495, 199, 68, 297, 382, 508, 86, 171, 315, 269, 215, 58, 482, 436, 4, 202, 287, 102, 413, 498, 341, 45, 7, 92, 385, 511, 89, 174, 259, 318, 403, 272, 218, 61, 205, 290, 375, 133, 79, 457, 177, 262, 208, 51, 501, 344, 195, 64, 10, 95, 388, 321, 406, 491, 249, 504, 432, 0, 293, 378, 136, 82, 167, 311, 180, 265, 211, 54, 198, 283, 41, 98, 507, 365, 85, 170, 409, 494, 252, 337, 214, 57, 481, 435, 3, 381, 453, 314, 399, 157, 268, 497, 340, 201, 286, 44, 371, 129, 75, 384, 173, 258, 317, 402, 487, 191, 60, 6, 78, 163, 456, 160, 245, 207, 50, 500, 343, 428, 289, 374, 132, 94, 361, 307, 176, 261, 405, 490, 248, 333, 194, 279, 37, 292, 377, 81, 166, 459, 310, 395, 210, 53, 477, 431, 135, 71, 364, 449, 153, 264, 493, 251, 336, 197, 282, 40, 125, 2, 380, 84, 169, 254, 313, 398, 156, 483, 241, 187, 56, 480, 434, 285, 43, 370, 128, 74, 367, 452, 303, 172, 257, 46, 496, 339, 424, 357, 455, 401, 159, 486, 244, 190, 33, 473, 288, 373, 131, 77, 162, 306, 391, 149, 260, 527, 49, 342, 427, 193, 278, 36, 360, 445, 80, 165, 458, 404, 489, 247, 332, 476, 430, 376, 134, 363, 448, 309, 394, 152, 237, 52, 492, 196, 281, 39, 124, 70, 299, 168, 253, 250, 335, 420, 186, 29, 479, 353, 73, 366, 451, 114, 397, 155, 240, 469, 338, 423, 284, 42, 369, 127, 356, 302, 145, 256, 523, 400, 158, 485, 243, 328, 189, 32, 372, 76, 161, 454, 526, 48, 472, 426, 130, 359, 444, 22, 305, 148, 488, 246, 331, 416, 192, 277, 35, 120, 349, 164, 308, 393, 151, 236]
def chk : Nat → List Nat → Bool
  | _, [] => true
  | t, i :: r => decide (t + 1099511627776 ≤ tT i) && chk (tT i) r
theorem chk_ok : chk 0 ord529 = true := by decide +kernel
theorem bits_ok : ∀ i < 529, i ∈ ord529 := by decide +kernel
theorem top_ok : ∀ i ∈ ord529, tT i + 1099511627776 ≤ 18446744073709551616 := by decide +kernel
theorem chk_pw : ∀ (l : List Nat) (t : Nat), chk t l = true → (∀ i ∈ l, t + 1099511627776 ≤ tT i) ∧ l.Pairwise fun i j => tT i + 1099511627776 ≤ tT j
  | [], _, _ => ⟨(fun _ h => nomatch h), List.Pairwise.nil⟩
  | i :: r, t, h => by
    unfold chk at h
    rw [Bool.and_eq_true, decide_eq_true_eq] at h
    obtain ⟨h1, h2⟩ := chk_pw r (tT i) h.2
    refine ⟨fun j hj => ?_, List.pairwise_cons.mpr ⟨h1, h2⟩⟩
    rcases List.mem_cons.mp hj with rfl | hj
    · exact h.1
    · have := h1 j hj
      omega
theorem tT_far {i j : Nat} (hi : i < 529) (hj : j < 529) (ne : i ≠ j) : tT i + 1099511627776 ≤ tT j ∨ tT j + 1099511627776 ≤ tT i := by
  have pw := (chk_pw ord529 0 chk_ok).2
  obtain ⟨p, hp, rfl⟩ := List.mem_iff_getElem.mp (bits_ok i hi)
  obtain ⟨q, hq, rfl⟩ := List.mem_iff_getElem.mp (bits_ok j hj)
  have := List.pairwise_iff_getElem.mp pw
  by_cases c : p < q
  · exact .inl (this p q hp hq c)
  · by_cases c2 : q < p
    · exact .inr (this q p hq hp c2)
    · obtain rfl : p = q := by omega
      exact absurd rfl ne
theorem tT_lo {i : Nat} (hi : i < 529) : 1099511627776 ≤ tT i ∧ tT i + 1099511627776 ≤ 18446744073709551616 := ⟨by have := (chk_pw ord529 0 chk_ok).1 i (bits_ok i hi); omega, top_ok i (bits_ok i hi)⟩
theorem l3_T {i n : Nat} (hn : n < 17179869184) : unmix (l3 (i / 23) (i % 23) n) * 839798700976720815 % 18446744073709551616 = (tT i + n) % 18446744073709551616 := by
  unfold l3
  rw [unmix_lane]
  have h := mul_inv2 (x := n) (by omega)
  unfold tT
  generalize lane (lane 2870177450012600261 (i / 23)) (i % 23) = A
  rw [Nat.mod_mul_mod] at h ⊢
  rw [Nat.add_mul, Nat.add_mod, h]
theorem l3_inj {a b n a' b' n' : Nat} (ha : a < 23) (hb : b < 23) (hn : n < 17179869184) (ha' : a' < 23) (hb' : b' < 23) (hn' : n' < 17179869184) (e : l3 a b n = l3 a' b' n') : a = a' ∧ b = b' ∧ n = n' := by
  have i1 : (a * 23 + b) / 23 = a ∧ (a * 23 + b) % 23 = b := by omega
  have i2 : (a' * 23 + b') / 23 = a' ∧ (a' * 23 + b') % 23 = b' := by omega
  have e1 := l3_T (i := a * 23 + b) hn
  have e2 := l3_T (i := a' * 23 + b') hn'
  rw [i1.1, i1.2, e] at e1
  rw [i2.1, i2.2, e1] at e2
  have b1 := tT_lo (i := a * 23 + b) (by omega)
  have b2 := tT_lo (i := a' * 23 + b') (by omega)
  rw [Nat.mod_eq_of_lt (by omega), Nat.mod_eq_of_lt (by omega)] at e2
  by_cases c : a * 23 + b = a' * 23 + b'
  · rw [c] at e2
    omega
  · rcases tT_far (by omega) (by omega) c with h | h <;> omega
theorem fin_far : ∀ i < 529, 17179869184 ≤ (unmix ((18446744073709551615 + (18446744073709551616 - 2870177450013471925)) % 18446744073709551616) * 839798700976720815 % 18446744073709551616 + (18446744073709551616 - tT i)) % 18446744073709551616 := by decide +kernel
theorem fin_no {a b n : Nat} (ha : a < 23) (hb : b < 23) (hn : n < 17179869184) : (l3 a b n + 2870177450013471925) % 18446744073709551616 ≠ 18446744073709551615 := by
  intro e
  have hl : l3 a b n < 18446744073709551616 := lane_lt _ _
  have e' : l3 a b n = (18446744073709551615 + (18446744073709551616 - 2870177450013471925)) % 18446744073709551616 := by
    generalize l3 a b n = y at *
    omega
  have i1 : (a * 23 + b) / 23 = a ∧ (a * 23 + b) % 23 = b := by omega
  have e1 := l3_T (i := a * 23 + b) hn
  rw [i1.1, i1.2, e'] at e1
  have z := fin_far (a * 23 + b) (by omega)
  have b1 := tT_lo (i := a * 23 + b) (by omega)
  rw [Nat.mod_eq_of_lt (show tT (a * 23 + b) + n < 18446744073709551616 by omega)] at e1
  rw [e1] at z
  generalize tT (a * 23 + b) = y at *
  omega
theorem tupHashN {a b c : Nat} (ha : a < 23) (hb : b < 23) (hc : c < 17179869184) :
    hashT [(a : Int), (b : Int), (c : Int)] = if (l3 a b c + 2870177450013471925) % 18446744073709551616 < 9223372036854775808 then (((l3 a b c + 2870177450013471925) % 18446744073709551616 : Nat) : Int) else (((l3 a b c + 2870177450013471925) % 18446744073709551616 : Nat) : Int) - 18446744073709551616 := by
  have hx : 3 ^^^ (2870177450012600261 ^^^ 3527539) = 2870177450013471925 := by decide
  have l : ∀ a : Nat, a < 17179869184 → (((a : Int) % ((2 ^ 64 : Nat) : Int)).toNat) = a := fun a ha => by omega
  unfold hashT
  rw [List.map_cons, List.map_cons, List.map_cons, List.map_nil, hashInt_small (by omega), hashInt_small (by omega), hashInt_small (by omega), th_eq]
  have e : ([(a : Int), (b : Int), (c : Int)].foldl (fun acc h => lane acc (h % ((2 ^ 64 : Nat) : Int)).toNat) 2870177450012600261) = l3 a b c := by
    rw [List.foldl_cons, List.foldl_cons, List.foldl_cons, List.foldl_nil, l a (by omega), l b (by omega), l c hc]
    rfl
  rw [e]
  exact hFin_of hx (fin_no ha hb hc)
theorem hash3_inj {a b n a' b' n' : Nat} (ha : a < 23) (hb : b < 23) (hn : n < 17179869184) (ha' : a' < 23) (hb' : b' < 23) (hn' : n' < 17179869184) (e : hashT [(a : Int), (b : Int), (n : Int)] = hashT [(a' : Int), (b' : Int), (n' : Int)]) : a = a' ∧ b = b' ∧ n = n' := by
  rw [tupHashN ha hb hn, tupHashN ha' hb' hn'] at e
  have h1 : l3 a b n < 18446744073709551616 := lane_lt _ _
  have h2 : l3 a' b' n' < 18446744073709551616 := lane_lt _ _
  refine l3_inj ha hb hn ha' hb' hn' ?_
  generalize l3 a b n = y at *
  generalize l3 a' b' n' = z at *
  split at e <;> split at e <;> omega
end L2
namespace K06
open PySem L2
abbrev T3 := List Int
def Ins (L R C l r c : Int) : Prop := 0 ≤ l ∧ l < L ∧ 0 ≤ r ∧ r < R ∧ 0 ≤ c ∧ c < C
instance {L R C l r c : Int} : Decidable (Ins L R C l r c) := by unfold Ins; infer_instance
section
variable {L R C : Int}
end
end K06
namespace K06
open PySem L2
theorem same_at {H0 H' : Hp} {D : Addr} {y : HO} (s : Same H0 H') (nD : H0 D = none) : Same H0 (upd H' D y) := fun b u e => by
  rw [upd_ne (ne_of_none e nD)]; exact s _ _ e
section
variable {tc : TT} {t u : TS} {te ta tb td ty : TE} {D : Ends} {σ : St} {H : Hp} {a d : Addr} {y v : V} {o : Option V} {K : PySem.W.Frag}
theorem et_of {b c : Bool} (h : EvT tc σ H b) (e : b = c) : EvT tc σ H c := e ▸ h
theorem ev_of {c : V} (h : Ev te σ H v) (e : v = c) : Ev te σ H c := e ▸ h
theorem te_lst {tl : TA} {vs : List V} {Q : VK} (h : EvA tl σ H vs) (hz : vs.length ≤ sizeLine) (q : ∀ p, H p = none → Q (.ref p) (upd H p (.lst vs))) : tLst tl σ H Q := h _ ⟨hz, q⟩
theorem rd_tup {tl : TA} {vs : List V} (h : EvA tl σ H vs) (hz : vs.length ≤ sizeLine) (q : ∀ p, H p = none → D.rt (.ref p) (upd H p (.tup vs))) : tRet (tTup tl) D σ H := h _ ⟨hz, q⟩
theorem te_cal {sp : Sp} {tl : TA} {vs : List V} {Q : VK} (h : EvA tl σ H vs) (q : sp vs H Q E0) : tCall sp [] E0 tl σ H Q := h _ (by rw [List.append_nil]; exact q)
theorem rd_cal {sp : Sp} {tl : TA} {vs : List V} {n : Nat} (h : EvA tl σ H vs) (q : sp vs H (fun v H1 => D.nx (σ.set n (some v)) H1) E0) : tAsg (tCall sp [] E0 tl) (gName n) D σ H := h _ (by rw [List.append_nil]; exact q)
end
theorem tups_app {H : Hp} : ∀ {as bs : List Addr} {cs ds : List T3}, Tups H as cs → Tups H bs ds → Tups H (as ++ bs) (cs ++ ds)
  | _, _, _, _, .nil, t => t
  | _, _, _, _, .cons h s, t => .cons h (tups_app s t)
theorem tups_drop {H : Hp} : ∀ {as : List Addr} {cs : List T3}, Tups H as cs → ∀ m, Tups H (as.drop m) (cs.drop m)
  | _, _, .nil, m => by rw [List.drop_nil, List.drop_nil]; exact .nil
  | _, _, .cons h s, 0 => .cons h s
  | _, _, .cons h s, m + 1 => tups_drop s m
theorem tups_take {H : Hp} : ∀ {as : List Addr} {cs : List T3}, Tups H as cs → ∀ m, Tups H (as.take m) (cs.take m)
  | _, _, .nil, m => by rw [List.take_nil, List.take_nil]; exact .nil
  | _, _, .cons h s, 0 => .nil
  | _, _, .cons h s, m + 1 => .cons h (tups_take s m)
theorem sq_rng1 {ta : TA} {j : Int} {g : TG} {tb u : TS} {D : Ends} {σ : St} {H : Hp} (h : EvA ta σ H [.int j]) (h1 : -(2 ^ 62) ≤ j) (h2 : j < 2 ^ 62) (q : tFor (fun _ H R => R (Itr 0 j.toNat) H) g tb { D with nx := u D } σ H) : tSeq (tFor (iRng1 ta) g tb) u D σ H := h _ ⟨j, rfl, h1, h2, q⟩
theorem sq_rng2 {ta : TA} {i j : Int} {g : TG} {tb u : TS} {D : Ends} {σ : St} {H : Hp} (h : EvA ta σ H [.int i, .int j]) (h1 : -(2 ^ 62) ≤ i ∧ i < 2 ^ 62 ∧ -(2 ^ 62) ≤ j ∧ j < 2 ^ 62) (q : tFor (fun _ H R => R (Itr i (j - i).toNat) H) g tb { D with nx := u D } σ H) : tSeq (tFor (iRng2 ta) g tb) u D σ H := h _ ⟨i, j, rfl, h1, q⟩
theorem ev_cal {sp : Sp} {tl : TA} {vs : List V} {v : V} {σ : St} {H : Hp} (h : EvA tl σ H vs) (q : ∀ Q : VK, Q v H → sp vs H Q E0) : Ev (tCall sp [] E0 tl) σ H v := fun Q z => h _ (by rw [List.append_nil]; exact q Q z)
theorem te_op {r : R2} {ta tb : TE} {σ : St} {H : Hp} {Q : VK} (h : ta σ H fun x H1 => tb σ H1 fun y H2 => r x y H2 Q) : tOp r ta tb σ H Q := h
theorem take_one {α : Type} {xs : List α} {i : Nat} {x : α} (h : xs[i]? = some x) : xs.take (i + 1) = xs.take i ++ [x] := by rw [List.take_succ, h]; rfl
theorem depth_row {cs : List T3} : (PyData.list (cs.map fun c => PyData.tuple (c.map PyData.int))).depth ≤ 60 := by
  have : PyData.depthAll (cs.map fun c => PyData.tuple (c.map PyData.int)) ≤ 1 := depthAll_le fun d hd => by
    obtain ⟨c, _, rfl⟩ := List.mem_map.mp hd
    exact depth_tints c
  simp only [PyData.depth]
  omega
theorem et_orF {t1 t2 : TT} {b : Bool} {σ : St} {H : Hp} (h : EvT t1 σ H false) (h2 : EvT t2 σ H b) : EvT (tOr t1 t2) σ H b := fun Q q => h _ (iteF (h2 _ q))
theorem et_notF {tc : TT} {σ : St} {H : Hp} (h : EvT tc σ H true) : EvT (tNot tc) σ H false := fun _ q => h _ q
theorem ev_fldT {ta : TE} {K : PySem.W.Frag} {σ : St} {H : Hp} {p C dx : Addr} {fs : List (Str × V)} {f : Str} {v : V} (h : Ev ta σ H (.ref p)) (e : H p = some (.ins C dx fs)) (c : Cls K C) (n : NoAttr K C f) (l : fs.lookup f = some v) : Ev (tFld K ta f) σ H v := fun _ q => h _ ⟨p, C, dx, fs, v, rfl, e, c, n, l, q⟩
theorem same_make {H : Hp} {p dx C : Addr} (np : H p = none) (ndx : H dx = none) : Same H (upd (upd H dx (.own p)) p (.ins C dx [])) := fun b o e => by
  rw [upd_ne (ne_of_none e np), upd_ne (ne_of_none e ndx)]; exact e
def ButP (H H' : Hp) (p : Addr) : Prop := ∀ b o, b ≠ p → H b = some o → H' b = some o
theorem ButP.same {H H1 H2 : Hp} {p : Addr} (s : Same H H1) (n : H p = none) (b : ButP H1 H2 p) : Same H H2 := fun a o e => b a o (ne_of_none e n) (s a o e)
theorem ButP.st {H H1 H2 : Hp} {p : Addr} (b : ButP H H1 p) (s : Same H1 H2) : ButP H H2 p := fun a o n e => s _ _ (b a o n e)
theorem ButP.of {H H1 : Hp} {p : Addr} (s : Same H H1) : ButP H H1 p := fun a o _ e => s _ _ e
theorem tups_at {H : Hp} {as : List Addr} {cs : List T3} (h : Tups H as cs) : ∀ {i : Nat} {a : Addr}, as[i]? = some a → ∃ c, cs[i]? = some c ∧ H a = some (.tup (c.map V.int)) := by
  induction h with
  | nil => intro i a e; simp at e
  | cons r _ ih =>
    intro i a e
    cases i with
    | zero => simp at e; subst e; exact ⟨_, by simp, r⟩
    | succ i => simp at e; obtain ⟨p, h1, h2⟩ := ih e; exact ⟨p, by simpa using h1, h2⟩
theorem rd_te {te : TE} {D : Ends} {σ : St} {H : Hp} (h : te σ H D.rt) : tRet te D σ H := h
theorem fresh_of {H H' : Hp} {t : Addr} (s : Same H H') (n : H' t = none) : H t = none := by
  cases e : H t with
  | none => rfl
  | some o => rw [s _ _ e] at n; cases n
section
variable {K : PySem.W.Frag} {σ σ0 : St} {H H1 : Hp} {D a : Addr} {g : TG} {tt : TT} {te t0 : TE} {ta : TA} {n : Nat} {ix : List Nat} {as : List Addr} {cs : List T3}
theorem tups_mono {H H' : Hp} {as : List Addr} {cs : List T3} (h : Tups H as cs) (s : ∀ b xs, H b = some (.tup xs) → H' b = some (.tup xs)) : Tups H' as cs := Paired.mapP h fun a c e => s _ _ e
theorem sq_lc1 {u : TS} {E : Ends} {i : Nat} {j : Int} (h : EvA ta σ H [.int j]) (h1 : -(2 ^ 62) ≤ j) (h2 : j < 2 ^ 62) (q : ∀ D, H D = none → lcW (inSt n ix σ) g tt te (Itr 0 j.toNat) H D fun H' => u E (σ.set i (some (.ref D))) H') : tSeq (tLcSet (iRng1 ta) n ix g tt te i) u E σ H := h _ ⟨j, rfl, h1, h2, q⟩
end
theorem mem_pair {α β : Type} {F : α → β → Prop} {as : List α} {cs : List β} (h : Paired F as cs) {a : α} (m : a ∈ as) : ∃ c ∈ cs, F a c := by
  induction h with
  | nil => cases m
  | cons r _ ih =>
    rcases List.mem_cons.mp m with e | m
    · exact ⟨_, List.mem_cons_self, e ▸ r⟩
    · obtain ⟨c, hc, hf⟩ := ih m
      exact ⟨c, List.mem_cons_of_mem _ hc, hf⟩
theorem eqv_same {K : PySem.W.Frag} {H : Hp} {v : V} {d : PyData} (h : Dp K H v d) : (!PyData.eqv d d) = false := by rw [eqv_refl h.lay]; rfl
theorem ta_tup {tl tr : TA} {vs : List V} {σ : St} {H : Hp} {Q : List V → Hp → Prop} (h : EvA tl σ H vs) (hz : vs.length ≤ sizeLine) (q : ∀ p, H p = none → tr σ (upd H p (.tup vs)) fun xs H2 => Q (.ref p :: xs) H2) : tCons (tTup tl) tr σ H Q := h _ ⟨hz, q⟩
theorem nd_take {α : Type} : ∀ {l : List α} {i : Nat} {a : α}, l.Nodup → l[i]? = some a → a ∉ l.take i
  | [], _, _, _, h => by simp at h
  | x :: l, 0, a, _, _ => by simp
  | x :: l, i + 1, a, nd, h => by
    rw [List.nodup_cons] at nd
    have h' : l[i]? = some a := by simpa using h
    rw [List.take_succ_cons, List.mem_cons]
    rintro (e | m)
    · exact nd.1 (e ▸ List.mem_of_getElem? h')
    · exact nd_take nd.2 h' m
theorem rd_asgE {te : TE} {g : TG} {D : Ends} {σ : St} {H : Hp} {v : V} (h : Ev te σ H v) (q : g v σ H D.nx) : tAsg te g D σ H := h _ q
theorem at_int {cs : List Int} {i : Int} (h0 : 0 ≤ i) (h1 : i < cs.length) : ∃ c, atI (cs.map V.int) i = some (.int c) ∧ ixN (cs.map V.int).length i = some i.toNat := by
  obtain ⟨n, rfl⟩ := Int.eq_ofNat_of_zero_le h0
  have hi : n < cs.length := by omega
  refine ⟨cs[n], atI_nat ?_, ?_⟩
  · rw [List.getElem?_map, List.getElem?_eq_getElem hi]; rfl
  · unfold ixN
    rw [if_pos h0, if_pos (by rw [List.length_map]; exact h1)]
theorem te_nest2 {sp : Sp} {te : TE} {tr : TA} {σ : St} {H : Hp} {Q : VK} (h : te σ H fun v H1 => tr σ H1 fun vs H2 => sp ((v :: vs) ++ []) H2 Q E0) : tCall sp [] E0 (tCons te tr) σ H Q := h
end K06
namespace K06
open PySem L2
def top (i : Nat) : Stmt := PySem.Challenge.pw_wirefloor_k06_thing_made.main.body.getD i (.Pass ⟨0, 0, 0, 0⟩)
abbrev sName : Stmt := top 19
abbrev sUnlike : Stmt := top 20
abbrev sTInit : Stmt := inClass (top 21) 0
abbrev sNInit : Stmt := inClass (top 22) 0
abbrev sBInit : Stmt := inClass (top 23) 0
abbrev sCell : Stmt := top 25
abbrev sFolded : Stmt := top 26
abbrev sLName : Stmt := top 27
abbrev sSpoiled : Stmt := top 28
abbrev sSpots : Stmt := top 29
abbrev sDoubled : Stmt := top 30
abbrev sOut : Stmt := top 31
abbrev sLMany : Stmt := top 32
abbrev sGood : Stmt := top 33
abbrev sDue : Stmt := top 34
abbrev sMake : Stmt := top 35
abbrev sRefused : Stmt := top 36
abbrev sNumber : Stmt := top 37
abbrev sNEnds : Stmt := inClass (top 22) 1
abbrev sBEnds : Stmt := inClass (top 23) 1
abbrev sTold : Stmt := top 38
abbrev slaw : Stmt := top 39
structure Txt (K : PySem.W.Frag) (mg : Str → Option Value) (cThing cNet cBundle cWireError cBadSize cBadPrice cOutOfFloor cTwice cNoFit cCrowded cBadThing : Addr) : Prop where
  len_ : mg "len" = none
  range_ : mg "range" = none
  isinstance_ : mg "isinstance" = none
  int_ : mg "int" = none
  bool_ : mg "bool" = none
  tuple_ : mg "tuple" = none
  set_ : mg "set" = none
  list_ : mg "list" = none
  str_ : mg "str" = none
  all_ : mg "all" = none
  ValueError_ : mg "ValueError" = none
  cl_Thing : Cls K cThing
  mg_Thing : mg "Thing" = some (.ref cThing)
  cl_Net : Cls K cNet
  mg_Net : mg "Net" = some (.ref cNet)
  na_Net_name : NoAttr K cNet "name"
  na_Net_half : NoAttr K cNet "half"
  na_Net_room : NoAttr K cNet "room"
  na_Net_pins : NoAttr K cNet "pins"
  cl_Bundle : Cls K cBundle
  mg_Bundle : mg "Bundle" = some (.ref cBundle)
  na_Bundle_name : NoAttr K cBundle "name"
  na_Bundle_half : NoAttr K cBundle "half"
  na_Bundle_room : NoAttr K cBundle "room"
  na_Bundle_starts : NoAttr K cBundle "starts"
  na_Bundle_goals : NoAttr K cBundle "goals"
  eWireError : mg "WireError" = some (.ref cWireError)
  eBadSize : mg "BadSize" = some (.ref cBadSize)
  eBadPrice : mg "BadPrice" = some (.ref cBadPrice)
  eOutOfFloor : mg "OutOfFloor" = some (.ref cOutOfFloor)
  eTwice : mg "Twice" = some (.ref cTwice)
  eNoFit : mg "NoFit" = some (.ref cNoFit)
  eCrowded : mg "Crowded" = some (.ref cCrowded)
  eBadThing : ExcN K mg "BadThing" cBadThing
  g_LETTERS : ∃ u, mg "LETTERS" = some u ∧ RelV (.str (Str.ofString "abcdefghijklmnopqrstuvwxyz")) u
  g_FIGURES : ∃ u, mg "FIGURES" = some u ∧ RelV (.str (Str.ofString "0123456789")) u
  g_MOST_SIGNS : ∃ u, mg "MOST_SIGNS" = some u ∧ RelV (.int 12) u
  g_MOST_HALF : ∃ u, mg "MOST_HALF" = some u ∧ RelV (.int 2) u
  g_MOST_ROOM : ∃ u, mg "MOST_ROOM" = some u ∧ RelV (.int 3) u
  g_MOST_PINS : ∃ u, mg "MOST_PINS" = some u ∧ RelV (.int 6) u
  g_MOST_STARTS : ∃ u, mg "MOST_STARTS" = some u ∧ RelV (.int 6) u
  g_MOST_GOALS : ∃ u, mg "MOST_GOALS" = some u ∧ RelV (.int 12) u
  ii : PySem.W.kitOne K (.type "int") (.type "int") = some true
  ib : PySem.W.kitOne K (.type "int") (.type "bool") = some false
  ll : PySem.W.kitOne K (.type "list") (.type "list") = some true
  tt : PySem.W.kitOne K (.type "tuple") (.type "tuple") = some true
  ss : PySem.W.kitOne K (.type "str") (.type "str") = some true
  nT : PySem.W.kitOne K (.ref cNet) (.ref cThing) = some true
  bT : PySem.W.kitOne K (.ref cBundle) (.ref cThing) = some true
  qN : PySem.W.findIn K (.ref cNet) "__class__" = some (some (.builtin "object.__class__"))
  qB : PySem.W.findIn K (.ref cBundle) "__class__" = some (some (.builtin "object.__class__"))
  qg : PySem.W.specialIn K (.builtin "object.__class__") "__get__" = some (some (.builtin "getset_descriptor.__get__"))
  qt : PySem.W.takesIn K (.builtin "object.__class__") = some true
  oN : PySem.W.mroIn K cNet (.type "object") = some true
  oB : PySem.W.mroIn K cBundle (.type "object") = some true
  bb : PySem.W.kitOne K (.ref cBadThing) (.ref cBadThing) = some true
  bv : PySem.W.kitOne K (.ref cBadThing) (.type "ValueError") = some true
  b1 : PySem.W.kitOne K (.ref cBadThing) (.ref cBadSize) = some false
  b2 : PySem.W.kitOne K (.ref cBadThing) (.ref cBadPrice) = some false
  b3 : PySem.W.kitOne K (.ref cBadThing) (.ref cOutOfFloor) = some false
  b4 : PySem.W.kitOne K (.ref cBadThing) (.ref cTwice) = some false
  b5 : PySem.W.kitOne K (.ref cBadThing) (.ref cNoFit) = some false
  b6 : PySem.W.kitOne K (.ref cBadThing) (.ref cCrowded) = some false
  xw : PySem.W.exmOne K (.ref cBadThing) (.ref cWireError) = some true
theorem len_c {α : Type} {n : Nat} : ∀ {us : List α}, us.length = n + 1 → ∃ a r, us = a :: r ∧ r.length = n
  | [], h => nomatch h
  | a :: r, h => ⟨a, r, rfl, Nat.succ.inj h⟩
theorem len_z {α : Type} {us : List α} (h : us.length = 0) : us = [] := List.eq_nil_of_length_eq_zero h
theorem bl1 {α : Type} {us : List α} (h : us.length = 1) : ∃ a0, us = [a0] := by
  obtain ⟨a0, r0, rfl, h0⟩ := len_c h
  cases len_z h0
  exact ⟨a0, rfl⟩
theorem bd1 {K : PySem.W.Frag} {x qual : Str} {st : Stmt} {f : Addr} {fd : FuncData} {p0 : Str} (F : Fun K x qual st f fd) (h : ∀ (kV doc pm : Value) (an : Option Addr) (cdv ct a0 : Value), bindArgs (PySem.W.fnOf x qual (defArgs st) (defBody st) (defScope st) .none kV doc pm an cdv ct) ⟨[a0], []⟩ = pure ([p0].zip [a0])) : Binds K fd [p0] [] := F.binds fun kV doc pm an cdv ct us hl => by
  obtain ⟨a0, rfl⟩ := bl1 (us := us) hl
  exact h kV doc pm an cdv ct a0
theorem bl2 {α : Type} {us : List α} (h : us.length = 2) : ∃ a0 a1, us = [a0, a1] := by
  obtain ⟨a0, r0, rfl, h0⟩ := len_c h
  obtain ⟨a1, r1, rfl, h1⟩ := len_c h0
  cases len_z h1
  exact ⟨a0, a1, rfl⟩
theorem bd2 {K : PySem.W.Frag} {x qual : Str} {st : Stmt} {f : Addr} {fd : FuncData} {p0 p1 : Str} (F : Fun K x qual st f fd) (h : ∀ (kV doc pm : Value) (an : Option Addr) (cdv ct a0 a1 : Value), bindArgs (PySem.W.fnOf x qual (defArgs st) (defBody st) (defScope st) .none kV doc pm an cdv ct) ⟨[a0, a1], []⟩ = pure ([p0, p1].zip [a0, a1])) : Binds K fd [p0, p1] [] := F.binds fun kV doc pm an cdv ct us hl => by
  obtain ⟨a0, a1, rfl⟩ := bl2 (us := us) hl
  exact h kV doc pm an cdv ct a0 a1
theorem bl3 {α : Type} {us : List α} (h : us.length = 3) : ∃ a0 a1 a2, us = [a0, a1, a2] := by
  obtain ⟨a0, r0, rfl, h0⟩ := len_c h
  obtain ⟨a1, r1, rfl, h1⟩ := len_c h0
  obtain ⟨a2, r2, rfl, h2⟩ := len_c h1
  cases len_z h2
  exact ⟨a0, a1, a2, rfl⟩
theorem bd3 {K : PySem.W.Frag} {x qual : Str} {st : Stmt} {f : Addr} {fd : FuncData} {p0 p1 p2 : Str} (F : Fun K x qual st f fd) (h : ∀ (kV doc pm : Value) (an : Option Addr) (cdv ct a0 a1 a2 : Value), bindArgs (PySem.W.fnOf x qual (defArgs st) (defBody st) (defScope st) .none kV doc pm an cdv ct) ⟨[a0, a1, a2], []⟩ = pure ([p0, p1, p2].zip [a0, a1, a2])) : Binds K fd [p0, p1, p2] [] := F.binds fun kV doc pm an cdv ct us hl => by
  obtain ⟨a0, a1, a2, rfl⟩ := bl3 (us := us) hl
  exact h kV doc pm an cdv ct a0 a1 a2
theorem bl4 {α : Type} {us : List α} (h : us.length = 4) : ∃ a0 a1 a2 a3, us = [a0, a1, a2, a3] := by
  obtain ⟨a0, r0, rfl, h0⟩ := len_c h
  obtain ⟨a1, r1, rfl, h1⟩ := len_c h0
  obtain ⟨a2, r2, rfl, h2⟩ := len_c h1
  obtain ⟨a3, r3, rfl, h3⟩ := len_c h2
  cases len_z h3
  exact ⟨a0, a1, a2, a3, rfl⟩
theorem bd4 {K : PySem.W.Frag} {x qual : Str} {st : Stmt} {f : Addr} {fd : FuncData} {p0 p1 p2 p3 : Str} (F : Fun K x qual st f fd) (h : ∀ (kV doc pm : Value) (an : Option Addr) (cdv ct a0 a1 a2 a3 : Value), bindArgs (PySem.W.fnOf x qual (defArgs st) (defBody st) (defScope st) .none kV doc pm an cdv ct) ⟨[a0, a1, a2, a3], []⟩ = pure ([p0, p1, p2, p3].zip [a0, a1, a2, a3])) : Binds K fd [p0, p1, p2, p3] [] := F.binds fun kV doc pm an cdv ct us hl => by
  obtain ⟨a0, a1, a2, a3, rfl⟩ := bl4 (us := us) hl
  exact h kV doc pm an cdv ct a0 a1 a2 a3
theorem bl5 {α : Type} {us : List α} (h : us.length = 5) : ∃ a0 a1 a2 a3 a4, us = [a0, a1, a2, a3, a4] := by
  obtain ⟨a0, r0, rfl, h0⟩ := len_c h
  obtain ⟨a1, r1, rfl, h1⟩ := len_c h0
  obtain ⟨a2, r2, rfl, h2⟩ := len_c h1
  obtain ⟨a3, r3, rfl, h3⟩ := len_c h2
  obtain ⟨a4, r4, rfl, h4⟩ := len_c h3
  cases len_z h4
  exact ⟨a0, a1, a2, a3, a4, rfl⟩
theorem bl6 {α : Type} {us : List α} (h : us.length = 6) : ∃ a0 a1 a2 a3 a4 a5, us = [a0, a1, a2, a3, a4, a5] := by
  obtain ⟨a0, r0, rfl, h0⟩ := len_c h
  obtain ⟨a1, r1, rfl, h1⟩ := len_c h0
  obtain ⟨a2, r2, rfl, h2⟩ := len_c h1
  obtain ⟨a3, r3, rfl, h3⟩ := len_c h2
  obtain ⟨a4, r4, rfl, h4⟩ := len_c h3
  obtain ⟨a5, r5, rfl, h5⟩ := len_c h4
  cases len_z h5
  exact ⟨a0, a1, a2, a3, a4, a5, rfl⟩
theorem bd6 {K : PySem.W.Frag} {x qual : Str} {st : Stmt} {f : Addr} {fd : FuncData} {p0 p1 p2 p3 p4 p5 : Str} (F : Fun K x qual st f fd) (h : ∀ (kV doc pm : Value) (an : Option Addr) (cdv ct a0 a1 a2 a3 a4 a5 : Value), bindArgs (PySem.W.fnOf x qual (defArgs st) (defBody st) (defScope st) .none kV doc pm an cdv ct) ⟨[a0, a1, a2, a3, a4, a5], []⟩ = pure ([p0, p1, p2, p3, p4, p5].zip [a0, a1, a2, a3, a4, a5])) : Binds K fd [p0, p1, p2, p3, p4, p5] [] := F.binds fun kV doc pm an cdv ct us hl => by
  obtain ⟨a0, a1, a2, a3, a4, a5, rfl⟩ := bl6 (us := us) hl
  exact h kV doc pm an cdv ct a0 a1 a2 a3 a4 a5
theorem bl7 {α : Type} {us : List α} (h : us.length = 7) : ∃ a0 a1 a2 a3 a4 a5 a6, us = [a0, a1, a2, a3, a4, a5, a6] := by
  obtain ⟨a0, r0, rfl, h0⟩ := len_c h
  obtain ⟨a1, r1, rfl, h1⟩ := len_c h0
  obtain ⟨a2, r2, rfl, h2⟩ := len_c h1
  obtain ⟨a3, r3, rfl, h3⟩ := len_c h2
  obtain ⟨a4, r4, rfl, h4⟩ := len_c h3
  obtain ⟨a5, r5, rfl, h5⟩ := len_c h4
  obtain ⟨a6, r6, rfl, h6⟩ := len_c h5
  cases len_z h6
  exact ⟨a0, a1, a2, a3, a4, a5, a6, rfl⟩
theorem bd7 {K : PySem.W.Frag} {x qual : Str} {st : Stmt} {f : Addr} {fd : FuncData} {p0 p1 p2 p3 p4 p5 p6 : Str} (F : Fun K x qual st f fd) (h : ∀ (kV doc pm : Value) (an : Option Addr) (cdv ct a0 a1 a2 a3 a4 a5 a6 : Value), bindArgs (PySem.W.fnOf x qual (defArgs st) (defBody st) (defScope st) .none kV doc pm an cdv ct) ⟨[a0, a1, a2, a3, a4, a5, a6], []⟩ = pure ([p0, p1, p2, p3, p4, p5, p6].zip [a0, a1, a2, a3, a4, a5, a6])) : Binds K fd [p0, p1, p2, p3, p4, p5, p6] [] := F.binds fun kV doc pm an cdv ct us hl => by
  obtain ⟨a0, a1, a2, a3, a4, a5, a6, rfl⟩ := bl7 (us := us) hl
  exact h kV doc pm an cdv ct a0 a1 a2 a3 a4 a5 a6
theorem cut_to (xs : List V) (k : Nat) (h : k ≤ xs.length) : cutV xs none (some (k : Int)) = xs.take k := by
  unfold cutV
  rw [HT.sIx_none, HT.sIx_nat, Nat.min_eq_left h, List.drop_zero, Nat.sub_zero]
theorem cut_of (xs : List V) (k : Nat) (h : k ≤ xs.length) : cutV xs (some (k : Int)) none = xs.drop k := by
  unfold cutV
  rw [HT.sIx_none, HT.sIx_nat, Nat.min_eq_left h, List.take_of_length_le (by rw [List.length_drop]; omega)]
theorem at_of {xs : List Addr} {i : Int} (h0 : 0 ≤ i) (h1 : i < xs.length) : ∃ b, xs[i.toNat]? = some b ∧ atI (xs.map V.ref) i = some (.ref b) := by
  obtain ⟨n, rfl⟩ := Int.eq_ofNat_of_zero_le h0
  have hi : n < xs.length := by omega
  refine ⟨xs[n], List.getElem?_eq_getElem hi, atI_nat ?_⟩
  rw [List.getElem?_map, List.getElem?_eq_getElem hi]; rfl
theorem te_lstA {ta : TA} {σ : St} {H : Hp} {Q : VK} (h : ta σ H fun xs H1 => xs.length ≤ sizeLine ∧ ∀ p, H1 p = none → Q (.ref p) (upd H1 p (.lst xs))) : tLst ta σ H Q := h
theorem ta_ev {te : TE} {tr : TA} {σ : St} {H : Hp} {v : V} {Q : List V → Hp → Prop} (h : Ev te σ H v) (q : tr σ H fun xs H2 => Q (v :: xs) H2) : tCons te tr σ H Q := h _ q
theorem nrm {X : St → Hp → Prop} {σ σ' : St} {H : Hp} (e : σ = σ') (h : X σ' H) : X σ H := e ▸ h
theorem ta_one {te : TE} {tr : TA} {σ : St} {H : Hp} {Q : List V → Hp → Prop} (h : te σ H fun x H1 => tr σ H1 fun xs H2 => Q (x :: xs) H2) : tCons te tr σ H Q := h
theorem te_bm0 {K : PySem.W.Frag} {T : String} {r : V → List V → Hp → VK → Prop} {to : TE} {σ : St} {H : Hp} {x : V} {Q : VK} (h : Ev to σ H x) (ht : tyV K T x H) (q : r x [] H Q) : tBM0 K T r to σ H Q := h _ ⟨ht, q⟩
theorem te_bm {K : PySem.W.Frag} {T : String} {r : V → List V → Hp → VK → Prop} {to : TE} {ta : TA} {σ : St} {H : Hp} {x : V} {Q : VK} (h : Ev to σ H x) (ht : tyV K T x H) (q : ta σ H fun xs H2 => r x xs H2 Q) : tBM K T r to ta σ H Q := h _ ⟨ht, q⟩
theorem sq_J {t u : TS} {D : Ends} {σ : St} {H : Hp} (J : St → Hp → Prop) (h : ∀ R : St → Hp → Prop, (∀ σ H, J σ H → R σ H) → t { D with nx := R } σ H) (k : ∀ σ H, J σ H → u D σ H) : tSeq t u D σ H := h _ k
def lets : List Nat := cp (Str.ofString "abcdefghijklmnopqrstuvwxyz")
def figs : List Nat := cp (Str.ofString "0123456789")
def goodL : List Nat → Bool
  | [] => false
  | c :: r => decide (r.length ≤ 11) && decide (c ∈ lets) && r.all fun d => decide (d ∈ lets) || decide (d ∈ figs)
theorem good_cons (c : Nat) (r : List Nat) : goodL (c :: r) = (decide (r.length ≤ 11) && decide (c ∈ lets) && r.all fun d => decide (d ∈ lets) || decide (d ∈ figs)) := rfl
def Sp6 (c : List Int) : Prop := ∃ a b n : Nat, a < 23 ∧ b < 23 ∧ n < 17179869184 ∧ c = [(a : Int), (b : Int), (n : Int)]
theorem sp6_inj {c d : List Int} (hc : Sp6 c) (hd : Sp6 d) (e : hashT c = hashT d) : c = d := by
  obtain ⟨a, b, n, ha, hb, hn, rfl⟩ := hc
  obtain ⟨a', b', n', ha', hb', hn', rfl⟩ := hd
  obtain ⟨rfl, rfl, rfl⟩ := hash3_inj ha hb hn ha' hb' hn' e
  rfl
def dd : List (List Int) → List (List Int)
  | [] => []
  | c :: r => if c ∈ dd r then dd r else c :: dd r
theorem dd_mem : ∀ (cs : List (List Int)) (c : List Int), c ∈ dd cs ↔ c ∈ cs
  | [], _ => Iff.rfl
  | a :: r, c => by
    have h := dd_mem r c
    have ha := dd_mem r a
    unfold dd
    split
    · rename_i hh
      rw [h, List.mem_cons]
      exact ⟨.inr, fun x => x.elim (fun e => e ▸ ha.mp hh) id⟩
    · rw [List.mem_cons, List.mem_cons, h]
theorem dd_nodup : ∀ cs : List (List Int), (dd cs).Nodup
  | [] => List.nodup_nil
  | a :: r => by
    unfold dd
    split
    · exact dd_nodup r
    · rename_i hh
      exact List.nodup_cons.mpr ⟨hh, dd_nodup r⟩
theorem dd_le : ∀ cs : List (List Int), (dd cs).length ≤ cs.length
  | [] => Nat.le_refl _
  | a :: r => by
    have := dd_le r
    unfold dd
    split <;> simp only [List.length_cons] <;> omega
theorem dd_len : ∀ cs : List (List Int), (dd cs).length = cs.length ↔ cs.Nodup
  | [] => ⟨fun _ => List.nodup_nil, fun _ => rfl⟩
  | a :: r => by
    have h := dd_len r
    have h2 := dd_le r
    have h3 := dd_mem r a
    unfold dd
    rw [List.nodup_cons]
    split
    · rename_i hh
      simp only [List.length_cons]
      exact ⟨fun e => by omega, fun e => absurd (h3.mp hh) e.1⟩
    · rename_i hh
      simp only [List.length_cons]
      exact ⟨fun e => ⟨fun x => hh (h3.mpr x), h.mp (by omega)⟩, fun e => by rw [h.mpr e.2]⟩
def AtL (H : Hp) (l : Addr) (cs : List (List Int)) : Prop := ∃ as : List Addr, H l = some (.lst (as.map V.ref)) ∧ Tups H as cs
def Asc (x : Str) : Prop := x.cps.all (· < 128) = true ∧ x.length ≤ 13
def good (x : Str) : Bool := goodL (cp x)
def thOk (x : Str) (h r : Int) : Bool := good x && decide (0 ≤ h) && decide (h ≤ 2) && decide (0 ≤ r) && decide (r ≤ 3)
def netOk (x : Str) (h r : Int) (cs : List (List Int)) : Bool := thOk x h r && decide (2 ≤ cs.length) && decide (cs.length ≤ 6) && decide cs.Nodup
def bunOk (x : Str) (r : Int) (cs ds : List (List Int)) : Bool := thOk x 0 r && decide (1 ≤ cs.length) && decide (cs.length ≤ 6) && decide (cs.length ≤ ds.length) && decide (ds.length ≤ 12) && decide (cs ++ ds).Nodup
def Base (fs : List (Str × V)) (x : Str) (h r : Int) : Prop := fs.lookup ("name" : Str) = some (.str x) ∧ fs.lookup ("half" : Str) = some (.int h) ∧ fs.lookup ("room" : Str) = some (.int r) ∧ fs.lookup ("ends" : Str) = none
def spName : Sp := fun vs H Q _ => ∃ x : Str, vs = [.str x] ∧ Asc x ∧ ∀ H', Same H H' → Q (.bl (good x)) H'
def spGood : Sp := fun vs H Q _ => ∃ x : Str, vs = [.str x] ∧ Asc x ∧ ∀ H', Same H H' → Q (.bl (good x)) H'
def spUnlike (cBad : Addr) : Sp := fun vs H Q E => ∃ (l : Addr) (cs : List (List Int)), vs = [.ref l] ∧ AtL H l cs ∧ (∀ c ∈ cs, Sp6 c) ∧ cs.length ≤ 19 ∧ (cs.Nodup → ∀ H', Same H H' → Q .non H') ∧ (¬ cs.Nodup → ∀ H' m, Same H H' → E (.ref cBad) m H')
def spTInit (cN cB cBad : Addr) : Sp := fun vs H Q E => ∃ (p C dx : Addr) (x : Str) (h r : Int), vs = [.ref p, .str x, .int h, .int r] ∧ H p = some (.ins C dx []) ∧ (C = cN ∨ C = cB) ∧ Asc x ∧ h.natAbs < 2 ^ 62 ∧ r.natAbs < 2 ^ 62 ∧
  (thOk x h r = true → ∀ H' fs, ButP H H' p → H' p = some (.ins C dx fs) → Base fs x h r → fs.length ≤ 3 → Q .non H') ∧ (thOk x h r = false → ∀ H' m, ButP H H' p → E (.ref cBad) m H')
def spNInit (cN cBad : Addr) : Sp := fun vs H Q E => ∃ (p dx l : Addr) (as : List Addr) (cs : List (List Int)) (x : Str) (h r : Int), vs = [.ref p, .str x, .ref l, .int h, .int r] ∧ H p = some (.ins cN dx []) ∧ H l = some (.lst (as.map V.ref)) ∧ Tups H as cs ∧ (∀ c ∈ cs, Sp6 c) ∧ cs.length ≤ 19 ∧ Asc x ∧ h.natAbs < 2 ^ 62 ∧ r.natAbs < 2 ^ 62 ∧
  (netOk x h r cs = true → ∀ H' fs t, ButP H H' p → H' p = some (.ins cN dx fs) → Base fs x h r → fs.lookup ("pins" : Str) = some (.ref t) → H' t = some (.tup (as.map V.ref)) → Q .non H') ∧ (netOk x h r cs = false → ∀ H' m, ButP H H' p → E (.ref cBad) m H')
def spBInit (cB cBad : Addr) : Sp := fun vs H Q E => ∃ (p dx l m : Addr) (as bs : List Addr) (cs ds : List (List Int)) (x : Str) (r : Int), vs = [.ref p, .str x, .ref l, .ref m, .int r] ∧ H p = some (.ins cB dx []) ∧ H l = some (.lst (as.map V.ref)) ∧ H m = some (.lst (bs.map V.ref)) ∧ Tups H as cs ∧ Tups H bs ds ∧ (∀ c ∈ cs ++ ds, Sp6 c) ∧ (cs ++ ds).length ≤ 19 ∧ Asc x ∧ r.natAbs < 2 ^ 62 ∧
  (bunOk x r cs ds = true → ∀ H' fs t u, ButP H H' p → H' p = some (.ins cB dx fs) → Base fs x 0 r → fs.lookup ("starts" : Str) = some (.ref t) → fs.lookup ("goals" : Str) = some (.ref u) → H' t = some (.tup (as.map V.ref)) → H' u = some (.tup (bs.map V.ref)) → Q .non H') ∧ (bunOk x r cs ds = false → ∀ H' m, ButP H H' p → E (.ref cBad) m H')
def spCell (K : PySem.W.Frag) : Sp := fun vs H Q _ => ∃ (a : Addr) (ns : List Int) (i : Int), vs = [.ref a, .int i] ∧ SqL K H a (ns.map V.int) ∧ 0 ≤ i ∧ ∀ v : Int, Q (.int v) H
def spLName : Sp := fun vs H Q _ => ∃ c n : Int, vs = [.int c, .int n] ∧ 1 ≤ n ∧ n ≤ 12 ∧ ∀ x H', Same H H' → Asc x → 1 ≤ x.length → x.length ≤ 12 → Q (.str x) H'
def spSpoiled : Sp := fun vs H Q _ => ∃ (x : Str) (c : Int), vs = [.str x, .int c] ∧ Asc x ∧ 1 ≤ x.length ∧ x.length ≤ 12 ∧ ∀ y H', Same H H' → Asc y → Q (.str y) H'
def spSpots (K : PySem.W.Frag) : Sp := fun vs H Q _ => ∃ (a : Addr) (ns : List Int) (n : Nat), vs = [.ref a, .int n] ∧ SqL K H a (ns.map V.int) ∧ ns.length ≤ 63 ∧ n ≤ 19 ∧ ∀ (H' : Hp) (l : Addr) (cs : List (List Int)), Same H H' → H l = none → AtL H' l cs → cs.length = n → (∀ c ∈ cs, Sp6 c) → cs.Nodup → Q (.ref l) H'
def spDoubled : Sp := fun vs H Q _ => ∃ (l : Addr) (cs : List (List Int)) (c : Int), vs = [.ref l, .int c] ∧ AtL H l cs ∧ cs.length ≤ 19 ∧ ∀ (H' : Hp) (m : Addr) (ds : List (List Int)), Same H H' → AtL H' m ds → ds.length = cs.length → (∀ d ∈ ds, d ∈ cs) → Q (.ref m) H'
def spOut : Sp := fun vs H Q _ => ∃ c m : Int, vs = [.int c, .int m] ∧ 0 ≤ m ∧ m ≤ 3 ∧ ∀ (v : Int) (H' : Hp), Same H H' → v.natAbs < 2 ^ 62 → Q (.int v) H'
def spNumber : Sp := fun vs H Q _ => ∃ a b : Int, vs = [.int a, .int b] ∧ Q (.bl (decide (a = b))) H
def spNEnds (cN : Addr) : Sp := fun vs H Q _ => ∃ (p dx t : Addr) (fs : List (Str × V)) (as : List Addr), vs = [.ref p] ∧ H p = some (.ins cN dx fs) ∧ fs.lookup ("pins" : Str) = some (.ref t) ∧ H t = some (.tup (as.map V.ref)) ∧ ∀ H' l, Same H H' → H l = none → H' l = some (.lst (as.map V.ref)) → Q (.ref l) H'
def spBEnds (cB : Addr) : Sp := fun vs H Q _ => ∃ (p dx t u : Addr) (fs : List (Str × V)) (as bs : List Addr), vs = [.ref p] ∧ H p = some (.ins cB dx fs) ∧ fs.lookup ("starts" : Str) = some (.ref t) ∧ fs.lookup ("goals" : Str) = some (.ref u) ∧ H t = some (.tup (as.map V.ref)) ∧ H u = some (.tup (bs.map V.ref)) ∧ as.length + bs.length ≤ 100 ∧ ∀ H' l, Same H H' → H l = none → H' l = some (.lst ((as ++ bs).map V.ref)) → Q (.ref l) H'
def spFolded (K : PySem.W.Frag) : Sp := fun vs H Q _ => ∃ (a : Addr) (ns : List Int), vs = [.ref a, .int 9, .int 19] ∧ SqL K H a (ns.map V.int) ∧ ns.length ≤ 63 ∧ ∀ (H' : Hp) (l : Addr) (gs : List Int), Same H H' → H l = none → H' l = some (.lst (gs.map V.int)) → gs.length = 19 → (∀ g ∈ gs, 0 ≤ g ∧ g < 1000000000039) → Q (.ref l) H'
def spLMany : Sp := fun vs H Q _ => ∃ kd sl c o : Int, vs = [.int kd, .int sl, .int c, .int o] ∧ ∀ (H' : Hp) (t : Addr) (a b : Nat), Same H H' → H t = none → H' t = some (.tup [.int a, .int b]) → a + b ≤ 19 → (kd = 0 → b = 0) → Q (.ref t) H'
def due (kd : Int) (x : Str) (h r : Int) (cs ds : List (List Int)) : Bool := if kd = 0 then netOk x h r cs else bunOk x r cs ds
def Kd (kd h : Int) (ds : List (List Int)) : Prop := (kd = 0 ∧ ds = []) ∨ (kd = 1 ∧ h = 0)
def spDue : Sp := fun vs H Q _ => ∃ (l m : Addr) (cs ds : List (List Int)) (x : Str) (kd h r : Int), vs = [.int kd, .str x, .int h, .int r, .ref l, .ref m] ∧ AtL H l cs ∧ AtL H m ds ∧ (∀ c ∈ cs ++ ds, Sp6 c) ∧ (cs ++ ds).length ≤ 19 ∧ Asc x ∧ Kd kd h ds ∧ ∀ H', Same H H' → Q (.bl (due kd x h r cs ds)) H'
def ThAt (cN cB : Addr) (H : Hp) (p : Addr) (kd : Int) (x : Str) (h r : Int) (as bs : List Addr) : Prop := ∃ (dx : Addr) (fs : List (Str × V)), Base fs x h r ∧
  ((kd = 0 ∧ H p = some (.ins cN dx fs) ∧ ∃ t, fs.lookup ("pins" : Str) = some (.ref t) ∧ H t = some (.tup (as.map V.ref))) ∨
   (kd = 1 ∧ H p = some (.ins cB dx fs) ∧ ∃ t u, fs.lookup ("starts" : Str) = some (.ref t) ∧ fs.lookup ("goals" : Str) = some (.ref u) ∧ H t = some (.tup (as.map V.ref)) ∧ H u = some (.tup (bs.map V.ref))))
def MkIn (H : Hp) (l m : Addr) (as bs : List Addr) (cs ds : List (List Int)) (x : Str) (kd wy h r : Int) : Prop := H l = some (.lst (as.map V.ref)) ∧ H m = some (.lst (bs.map V.ref)) ∧ Tups H as cs ∧ Tups H bs ds ∧ (∀ c ∈ cs ++ ds, Sp6 c) ∧ (cs ++ ds).length ≤ 19 ∧ Asc x ∧ h.natAbs < 2 ^ 62 ∧ r.natAbs < 2 ^ 62 ∧ Kd kd h ds ∧ (wy = 1 → h = 0 ∧ r = 0) ∧ (wy = 2 → kd = 0 → r = 0)
def spMake (cN cB cBad : Addr) : Sp := fun vs H Q E => ∃ (l m : Addr) (as bs : List Addr) (cs ds : List (List Int)) (x : Str) (kd wy h r : Int), vs = [.int kd, .int wy, .str x, .int h, .int r, .ref l, .ref m] ∧ MkIn H l m as bs cs ds x kd wy h r ∧
  (due kd x h r cs ds = true → ∀ H' p, Same H H' → ThAt cN cB H' p kd x h r as bs → Q (.ref p) H') ∧ (due kd x h r cs ds = false → ∀ H' e, Same H H' → E (.ref cBad) e H')
def spRefused : Sp := fun vs H Q _ => ∃ (l m : Addr) (as bs : List Addr) (cs ds : List (List Int)) (x : Str) (kd wy h r : Int), vs = [.int kd, .int wy, .str x, .int h, .int r, .ref l, .ref m] ∧ MkIn H l m as bs cs ds x kd wy h r ∧ due kd x h r cs ds = false ∧ ∀ H', Same H H' → Q (.bl true) H'
def spTold (cN cB : Addr) : Sp := fun vs H Q _ => ∃ (p l m : Addr) (as bs : List Addr) (cs ds : List (List Int)) (x : Str) (kd h r : Int), vs = [.int kd, .ref p, .ref l, .ref m] ∧ ThAt cN cB H p kd x h r as bs ∧ Tups H as cs ∧ Tups H bs ds ∧ H l = some (.lst (as.map V.ref)) ∧ H m = some (.lst (bs.map V.ref)) ∧ (cs ++ ds).length ≤ 19 ∧ Kd kd h ds ∧ ∀ H', Same H H' → Q (.bl true) H'
theorem due_net {x : Str} {h r : Int} {cs ds : List (List Int)} : due 0 x h r cs ds = netOk x h r cs := rfl
theorem due_bun {x : Str} {h r : Int} {cs ds : List (List Int)} : due 1 x h r cs ds = bunOk x r cs ds := rfl
def spLaw (K : PySem.W.Frag) : Sp := fun vs H Q _ => ∃ (a : Addr) (ns : List Int), vs = [.ref a] ∧ SqL K H a (ns.map V.int) ∧ ns.length ≤ 63 ∧ ∀ H', Q (.bl true) H'
theorem AtL.same {H H' : Hp} {l : Addr} {cs : List (List Int)} (h : AtL H l cs) (s : Same H H') : AtL H' l cs := by
  obtain ⟨as, h1, h2⟩ := h
  exact ⟨as, s _ _ h1, Tups.same h2 s⟩
theorem ThAt.same {cN cB : Addr} {H H' : Hp} {p : Addr} {kd : Int} {x : Str} {h r : Int} {as bs : List Addr} (t : ThAt cN cB H p kd x h r as bs) (s : Same H H') : ThAt cN cB H' p kd x h r as bs := by
  obtain ⟨dx, fs, b, h⟩ := t
  refine ⟨dx, fs, b, ?_⟩
  rcases h with ⟨e, h1, t, h2, h3⟩ | ⟨e, h1, t, u, h2, h3, h4, h5⟩
  · exact .inl ⟨e, s _ _ h1, t, h2, s _ _ h3⟩
  · exact .inr ⟨e, s _ _ h1, t, u, h2, h3, s _ _ h4, s _ _ h5⟩
def fS (d : Nat) : Bool := decide (d ∈ lets) || decide (d ∈ figs)
theorem good_none {x : Str} (h : ¬ (1 ≤ x.length ∧ x.length ≤ 12)) : good x = false := by
  unfold good
  have hl := cp_len x
  cases e : cp x with
  | nil => rfl
  | cons c r =>
    rw [e, List.length_cons] at hl
    rw [good_cons, decide_eq_false (by omega)]
    rfl
theorem good_cut {x : Str} {c : Nat} {r : List Nat} (e : cp x = c :: r) (h : x.length ≤ 12) : good x = (decide (c ∈ lets) && (cp x).all fS) := by
  have hl := cp_len x
  rw [e, List.length_cons] at hl
  unfold good
  rw [e, good_cons, decide_eq_true (by omega), List.all_cons]
  show (true && decide (c ∈ lets) && r.all fS) = (decide (c ∈ lets) && ((decide (c ∈ lets) || decide (c ∈ figs)) && r.all fS))
  cases decide (c ∈ lets) <;> simp
theorem ls36 : cp (Str.ofString "abcdefghijklmnopqrstuvwxyz0123456789") = lets ++ figs := by decide +kernel
theorem dis36 : ∀ c ∈ lets, c ∉ figs := by decide +kernel
theorem fS_36 (d : Nat) : decide (d ∈ cp (Str.ofString "abcdefghijklmnopqrstuvwxyz0123456789")) = fS d := by
  rw [ls36]
  unfold fS
  by_cases h1 : d ∈ lets <;> by_cases h2 : d ∈ figs <;> simp [h1, h2]
theorem good_law {x : Str} {c : Nat} {r : List Nat} (e : cp x = c :: r) (h : x.length ≤ 12) : good x = (!decide (c ∈ figs) && (cp x).all fS) := by
  rw [good_cut e h, e, List.all_cons]
  unfold fS
  by_cases h1 : c ∈ lets
  · have := dis36 c h1
    simp [h1, this]
  · by_cases h2 : c ∈ figs <;> simp [h1, h2]
theorem cp_cons {x : Str} (h : 1 ≤ x.length) : ∃ c r, cp x = c :: r := by
  have hl := cp_len x
  cases e : cp x with
  | nil => rw [e] at hl; simp at hl; omega
  | cons c r => exact ⟨c, r, rfl⟩
def A128 (l : List Nat) : Prop := ∀ c ∈ l, c < 128
theorem asc_iff {x : Str} : x.cps.all (· < 128) = true ↔ A128 (cp x) := by
  rw [← Array.all_toList, List.all_eq_true]
  unfold A128
  constructor
  · intro h c hc; simpa using h c hc
  · intro h c hc; simpa using h c hc
theorem A128.app {a b : List Nat} (h : A128 a) (g : A128 b) : A128 (a ++ b) := fun c hc => (List.mem_append.mp hc).elim (h c) (g c)
theorem A128.sub {a b : List Nat} (h : A128 a) (s : ∀ c ∈ b, c ∈ a) : A128 b := fun c hc => h c (s c hc)
theorem A128.of {l : List Nat} (h : l.all (fun c => decide (c < 128)) = true) : A128 l := fun c hc => of_decide_eq_true (List.all_eq_true.mp h c hc)
theorem asc_rep {x : Str} (h : x.cps.all (· < 128) = true) : ∀ c ∈ x.cps.toList, c < 16 ^ 8 := fun c hc => Nat.lt_of_lt_of_le (asc_iff.mp h c hc) (by decide)
section
variable {P : Program} {w : World} {K : PySem.W.Frag} {mg : Str → Option Value} {base : Heap}
set_option maxHeartbeats 1000000
theorem ev_lenT {ta : TE} {σ : St} {H : Hp} {x : Str} (ha : Ev ta σ H (.str x)) (hz : x.length ≤ sizeLine) : Ev (tCB (fun xs H Q => ∃ z : Str, xs = [.str z] ∧ z.length ≤ sizeLine ∧ Q (.int (z.length : Nat)) H) (tCons ta tNil)) σ H (.int (x.length : Nat)) := fun _ q => ha _ ⟨x, rfl, hz, q⟩
theorem te_cb1 {r : List V → Hp → VK → Prop} {te : TE} {σ : St} {H : Hp} {Q : VK} (h : te σ H fun x H1 => r [x] H1 Q) : tCB r (tCons te tNil) σ H Q := h
theorem nb {b : Bool} (h : (!b) = true) : b = false := by cases b <;> simp_all
theorem nb' {b : Bool} (h : (!b) = false) : b = true := by cases b <;> simp_all
theorem ok_Cell {cThing cNet cBundle cWireError cBadSize cBadPrice cOutOfFloor cTwice cNoFit cCrowded cBadThing : Addr} {f : Addr} {fd : FuncData} (F : Fun K "_law_cell_at" "_law_cell_at" sCell f fd) (T : Txt K mg cThing cNet cBundle cWireError cBadSize cBadPrice cOutOfFloor cTwice cNoFit cCrowded cBadThing) : FnOk P w K mg base CX0 1 f fd ["script", "k"] (spCell K) := by
  have sc : FnScope ["script", "k"] ["script", "k"] (defScope sCell) := ⟨rfl, rfl, rfl, by decide +kernel, rfl, by decide +kernel, by decide +kernel⟩
  refine F.ok sc (fun vs H Q E h => by repeat (first | (obtain ⟨rfl, _⟩ := h; rfl) | (obtain ⟨_, h⟩ := h))) (fun cdv A outer s H vs Q E hr h => ?_)
  obtain ⟨a, ns, i, rfl, ha, h0, q⟩ := h
  refine ⟨_, (pss_cons (ps_if (pt_cmpR op_lt (pv 1) (pe_callB call_len (by rfl) T.len_ bt_len (pa_cons (pv 0) pa_nil)) (nomark _))
  (pss_one (ps_ret (pe_ix ix_list (pv 0) (pv 1) (fun _ _ => rfl))))
  pss_nil)
  (pss_one (ps_ret pe_int))), ?_⟩
  refine rd_if (et_test (ev_I0 (ev_var rfl) (ev_cb (ea_cons (ev_var rfl) ea_nil) fun Q' q' => ⟨_, _, rfl, by first | exact .inl ⟨_, by assumption, rfl⟩ | exact .inl ⟨_, SqL.of (by assumption), rfl⟩ | exact .inr ⟨_, by assumption, rfl⟩ | exact .inr ⟨_, SqT.of (by assumption), rfl⟩, q'⟩))) (fun e => ?_) (fun _ => ?_)
  · have hlt : i < ((ns.map V.int).length : Int) := of_decide_eq_true e
    rw [List.length_map] at hlt
    obtain ⟨j, rfl⟩ := Int.eq_ofNat_of_zero_le h0
    have hj : j < ns.length := by omega
    exact rd_ret (ev_ixL (v := .int ns[j]) (ev_var rfl) (ev_var rfl) ha (atI_nat (by simp [hj]))) (q _)
  · exact q 0
theorem ok_Folded {cThing cNet cBundle cWireError cBadSize cBadPrice cOutOfFloor cTwice cNoFit cCrowded cBadThing : Addr} {f : Addr} {fd : FuncData} (F : Fun K "_law_folded" "_law_folded" sFolded f fd) (T : Txt K mg cThing cNet cBundle cWireError cBadSize cBadPrice cOutOfFloor cTwice cNoFit cCrowded cBadThing) : FnOk P w K mg base CX0 1 f fd ["script", "behind", "many"] (spFolded K) := by
  have sc : FnScope ["script", "behind", "many", "gathered", "k", "at"] ["script", "behind", "many"] (defScope sFolded) := ⟨rfl, rfl, rfl, by decide +kernel, rfl, by decide +kernel, by decide +kernel⟩
  refine F.ok sc (fun vs H Q E h => by repeat (first | (obtain ⟨rfl, _⟩ := h; rfl) | (obtain ⟨_, h⟩ := h))) (fun cdv A outer s H vs Q E hr h => ?_)
  obtain ⟨a, ns, rfl, ha, hn, q⟩ := h
  refine ⟨_, (pss_cons (ps_lcset (i := 3) (ls := ["k"]) (ys := []) (ix := []) rfl sc.nd rfl (Or.inl rfl) ⟨rfl, by rfl, by rfl, by rfl, by rfl, rfl⟩ (pi_range1 (by rfl) T.range_ (pa_cons (pv 2) pa_nil)) (fun _ _ _ _ _ => (pg_name (i := 0) (show (["k"] : List Str).Nodup by decide +kernel) rfl (Or.inl rfl))) (fun _ _ _ _ _ => pf_nil) (fun _ _ _ _ _ => (pe_op op_add (pe_op op_mul (pv 0) (pv 0)) (pv 0))))
  (pss_cons (ps_for PassesOwn.never rfl (pi_range2 (by rfl) T.range_ (pa_cons (pv 1) (pa_cons (pe_callB call_len (by rfl) T.len_ bt_len (pa_cons (pv 0) pa_nil)) pa_nil))) (pg_name (i := 4) sc.nd rfl (Or.inl rfl))
  (pss_cons (ps_set (i := 5) sc.nd rfl (Or.inl rfl) (pe_op op_mod (pe_op op_sub (pv 4) (pv 1)) (pv 2)))
  (pss_one (ps_asg (pe_op op_mod (pe_op op_add (pe_op op_mul (pe_ix ix_list (pv 3) (pv 5) (fun _ _ => rfl)) pe_int) (pe_ix ix_list (pv 0) (pv 4) (fun _ _ => rfl))) pe_int) (pg_sub (pv 3) (pv 5) set_list)))))
  (pss_one (ps_ret (pv 3))))), ?_⟩
  have hsz : sizeLine = 2 ^ 24 := rfl
  refine sq_lc1 (j := 19) (ea_cons (ev_var rfl) ea_nil) (by decide) (by decide) fun D nD => ?_
  refine lc_range (fun i τ H' => ∃ (x0 : Option V) (cs : List Int), τ = [x0] ∧ H' = upd H D (.lst (cs.map V.int)) ∧ cs.length = i ∧ ∀ g ∈ cs, 0 ≤ g ∧ g < 1000000000039) ⟨none, [], rfl, rfl, rfl, fun _ h => nomatch h⟩ ?_ ?_
  · rintro i τ H' hi ⟨x0, cs, rfl, rfl, hl, hb⟩
    have hi : i < 19 := hi
    refine gn (lc_el ?_)
    refine (ev_I0 (ev_I (ev_var rfl) (ev_var rfl) (cmR (by omega) (by omega))) (ev_var rfl)) _ ?_
    refine ⟨_, upd_same, by rw [List.length_map]; omega, _, cs ++ [(0 + (i : Int)) * (0 + (i : Int)) + (0 + (i : Int))], rfl, ?_, by rw [List.length_append, hl]; rfl, fun g hg => ?_⟩
    · rw [upd_upd, List.map_append]; rfl
    · rcases List.mem_append.mp hg with hg | hg
      · exact hb g hg
      · rw [List.mem_singleton.mp hg, Int.zero_add]
        have h1 : (i : Int) * (i : Int) ≤ 18 * 18 := Int.mul_le_mul (by omega) (by omega) (by omega) (by omega)
        have h2 : 0 ≤ (i : Int) * (i : Int) := Int.mul_nonneg (by omega) (by omega)
        omega
  rintro τ H' ⟨x0, cs, rfl, rfl, hl, hb⟩
  have hl : cs.length = 19 := hl
  have s1 : Same H (upd H D (.lst (cs.map V.int))) := (Same.refl H).upd nD
  have hD : upd H D (.lst (cs.map V.int)) D = some (.lst (cs.map V.int)) := upd_same
  revert s1 hD
  generalize upd H D (.lst (cs.map V.int)) = H1
  intro s1 hD
  try dsimp only [List.set]
  refine sq_rng2 (i := 9) (j := (ns.length : Nat)) (ea_cons (ev_var rfl) (ea_cons (ev_cb (v := .int (ns.length : Nat)) (ea_cons (ev_var rfl) ea_nil) fun Q' q' => ⟨_, _, rfl, .inl ⟨_, s1.seq ha, (by rw [List.length_map])⟩, q'⟩) ea_nil)) ⟨by omega, by omega, by omega, by omega⟩ ?_
  refine for_range (n := ((ns.length : Int) - 9).toNat) (fun i σ H' => ∃ (x4 x5 : Option V) (cs : List Int), σ = [some (.ref a), some (.int 9), some (.int 19), some (.ref D), x4, x5] ∧ Same H H' ∧ H' D = some (.lst (cs.map V.int)) ∧ cs.length = 19 ∧ ∀ g ∈ cs, 0 ≤ g ∧ g < 1000000000039) ⟨none, none, cs, rfl, s1, hD, hl, hb⟩ ?_ ?_
  · rintro i σ H' hi ⟨x4, x5, cs, rfl, s, hD, hl, hb⟩
    refine gn ?_
    refine sq_set (v := .int ((9 + (i : Int) - 9) % 19)) (ev_I (ev_I0 (ev_var rfl) (ev_var rfl)) (ev_var rfl) (by show (0 : Int) < 19; decide)) ?_
    have b0 := Int.emod_nonneg (9 + (i : Int) - 9) (show (19 : Int) ≠ 0 by decide)
    have b1 := Int.emod_lt_of_pos (9 + (i : Int) - 9) (show (0 : Int) < 19 by decide)
    obtain ⟨c, ec, ei⟩ := at_int (cs := cs) b0 (by rw [hl]; exact b1)
    obtain ⟨u, eu, _⟩ := at_int (cs := ns) (i := 9 + (i : Int)) (by omega) (by omega)
    refine rd_asgE (v := .int ((c * 31 + u) % 1000000000039)) ?_ ?_
    · exact ev_I (ev_I0 (ev_I (ev_ixL (v := .int c) (ev_var rfl) (ev_var rfl) (SqL.of hD) ec) ev_c (cmR (by decide) (by decide))) (ev_ixL (v := .int u) (ev_var rfl) (ev_var rfl) (s.seq ha) eu)) ev_c (by show (0 : Int) < 1000000000039; decide)
    refine ⟨_, rfl, _, rfl, D, _, _, _, rfl, rfl, hD, ei, ?_⟩
    refine ⟨_, _, cs.set ((9 + (i : Int) - 9) % 19).toNat ((c * 31 + u) % 1000000000039), rfl, same_at s nD, by rw [upd_same, List.map_set], by rw [List.length_set]; exact hl, fun g hg => ?_⟩
    rcases List.mem_or_eq_of_mem_set hg with hg | rfl
    · exact hb g hg
    · exact ⟨Int.emod_nonneg _ (by decide), Int.emod_lt_of_pos _ (by decide)⟩
  · rintro σ H' ⟨x4, x5, cs, rfl, s, hD, hl, hb⟩
    exact st (rd_ret (ev_var rfl) (q _ D cs s nD hD hl hb))
theorem ok_Number {cThing cNet cBundle cWireError cBadSize cBadPrice cOutOfFloor cTwice cNoFit cCrowded cBadThing : Addr} {f : Addr} {fd : FuncData} (F : Fun K "_law_number" "_law_number" sNumber f fd) (T : Txt K mg cThing cNet cBundle cWireError cBadSize cBadPrice cOutOfFloor cTwice cNoFit cCrowded cBadThing) : FnOk P w K mg base CX0 1 f fd ["found", "due"] spNumber := by
  have sc : FnScope ["found", "due"] ["found", "due"] (defScope sNumber) := ⟨rfl, rfl, rfl, by decide +kernel, rfl, by decide +kernel, by decide +kernel⟩
  refine F.ok sc (fun vs H Q E h => by repeat (first | (obtain ⟨rfl, _⟩ := h; rfl) | (obtain ⟨_, h⟩ := h))) (fun cdv A outer s H vs Q E hr h => ?_)
  obtain ⟨a, b, rfl, q⟩ := h
  refine ⟨_, (pss_one (ps_ret (pe_and (pe_callB call_isinst (by rfl) T.isinstance_ bt_isinstance (pa_cons (pv 0) (pa_cons (pe_bltn (v := .ty "int") (by rfl) T.int_ bt_int (by rfl)) pa_nil))) (pe_and (pe_not (pe_callB call_isinst (by rfl) T.isinstance_ bt_isinstance (pa_cons (pv 0) (pa_cons (pe_bltn (v := .ty "bool") (by rfl) T.bool_ bt_bool (by rfl)) pa_nil)))) (pe_one (pe_cmpR op_eq (pv 0) (pv 1) (nomark _))))))), ?_⟩
  exact rd_ret (ev_of (ev_and (a := true) (ev_cb (v := .bl true) (ea_cons (ev_var rfl) (ea_cons ev_c ea_nil)) fun Q' q' => ⟨_, _, _, _, _, rfl, .ty "int", .int a, T.ii, q'⟩) fun _ => ev_and (a := true) (ev_not (a := false) (ev_cb (v := .bl false) (ea_cons (ev_var rfl) (ea_cons ev_c ea_nil)) fun Q' q' => ⟨_, _, _, _, _, rfl, .ty "bool", .int a, T.ib, q'⟩)) fun _ => ev_eqI (i := a) (j := b) (ev_var rfl) (ev_var rfl)) rfl) q
theorem ok_NEnds {cThing cNet cBundle cWireError cBadSize cBadPrice cOutOfFloor cTwice cNoFit cCrowded cBadThing : Addr} {f : Addr} {fd : FuncData} (F : Fun K "ends" "Net.ends" sNEnds f fd) (T : Txt K mg cThing cNet cBundle cWireError cBadSize cBadPrice cOutOfFloor cTwice cNoFit cCrowded cBadThing) : FnOk P w K mg base CX0 1 f fd ["self"] (spNEnds cNet) := by
  have sc : FnScope ["self"] ["self"] (defScope sNEnds) := ⟨rfl, rfl, rfl, by decide +kernel, rfl, by decide +kernel, by decide +kernel⟩
  refine F.ok sc (fun vs H Q E h => by repeat (first | (obtain ⟨rfl, _⟩ := h; rfl) | (obtain ⟨_, h⟩ := h))) (fun cdv A outer s H vs Q E hr h => ?_)
  obtain ⟨p, dx, t, fs, as, rfl, hp, hf, ht, q⟩ := h
  refine ⟨_, (pss_one (ps_ret (pe_callTy call_list_of (by rfl) T.list_ bt_list (pa_cons (pe_fld (pv 0) rfl) pa_nil)))), ?_⟩
  exact rd_te ((ev_fldT (ev_var rfl) hp T.cl_Net T.na_Net_pins hf) _ ⟨t, _, rfl, .inr (SqT.of ht), fun l nl => q _ l ((Same.refl H).upd nl) nl upd_same⟩)
theorem ok_BEnds {cThing cNet cBundle cWireError cBadSize cBadPrice cOutOfFloor cTwice cNoFit cCrowded cBadThing : Addr} {f : Addr} {fd : FuncData} (F : Fun K "ends" "Bundle.ends" sBEnds f fd) (T : Txt K mg cThing cNet cBundle cWireError cBadSize cBadPrice cOutOfFloor cTwice cNoFit cCrowded cBadThing) : FnOk P w K mg base CX0 1 f fd ["self"] (spBEnds cBundle) := by
  have sc : FnScope ["self"] ["self"] (defScope sBEnds) := ⟨rfl, rfl, rfl, by decide +kernel, rfl, by decide +kernel, by decide +kernel⟩
  refine F.ok sc (fun vs H Q E h => by repeat (first | (obtain ⟨rfl, _⟩ := h; rfl) | (obtain ⟨_, h⟩ := h))) (fun cdv A outer s H vs Q E hr h => ?_)
  obtain ⟨p, dx, t, u, fs, as, bs, rfl, hp, hf, hg, ht, hu, hz, q⟩ := h
  refine ⟨_, (pss_one (ps_ret (pe_callTy call_list_of (by rfl) T.list_ bt_list (pa_cons (pe_op op_catG (pe_fld (pv 0) rfl) (pe_fld (pv 0) rfl)) pa_nil)))), ?_⟩
  have hsz : sizeLine = 2 ^ 24 := rfl
  refine rd_te (te_cb1 (te_op ((ev_fldT (ev_var rfl) hp T.cl_Bundle T.na_Bundle_starts hf) _ ((ev_fldT (ev_var rfl) hp T.cl_Bundle T.na_Bundle_goals hg) _ ⟨t, u, _, _, rfl, rfl, ht, hu, by rw [List.length_map, List.length_map]; omega, fun p1 H1 s1 hp1 => ⟨p1, _, rfl, .inr (SqT.of hp1), fun l nl => ?_⟩⟩))))
  exact q _ l (s1.upd nl) (fresh_of s1 nl) (by rw [upd_same, List.map_append])
theorem ok_Out {cThing cNet cBundle cWireError cBadSize cBadPrice cOutOfFloor cTwice cNoFit cCrowded cBadThing : Addr} {f : Addr} {fd : FuncData} (F : Fun K "_law_out" "_law_out" sOut f fd) (T : Txt K mg cThing cNet cBundle cWireError cBadSize cBadPrice cOutOfFloor cTwice cNoFit cCrowded cBadThing) : FnOk P w K mg base CX0 1 f fd ["cell", "most"] spOut := by
  have sc : FnScope ["cell", "most", "far"] ["cell", "most"] (defScope sOut) := ⟨rfl, rfl, rfl, by decide +kernel, rfl, by decide +kernel, by decide +kernel⟩
  refine F.ok sc (fun vs H Q E h => by repeat (first | (obtain ⟨rfl, _⟩ := h; rfl) | (obtain ⟨_, h⟩ := h))) (fun cdv A outer s H vs Q E hr h => ?_)
  obtain ⟨c, m, rfl, m0, m3, q⟩ := h
  refine ⟨_, (pss_cons (ps_set (i := 2) sc.nd rfl (Or.inl rfl) (pe_op op_mod (pe_op op_fdivB (pv 0) pe_int) (pe_op op_pow pe_int pe_int)))
  (pss_one (ps_ret (pe_ix ix_list (pe_lst (pa_cons (pe_un un_neg pe_int) (pa_cons (pe_op op_add (pv 1) pe_int) (pa_cons (pe_op op_add (pe_op op_add (pv 1) pe_int) (pv 2)) (pa_cons (pe_op op_sub (pe_un un_neg pe_int) (pv 2)) pa_nil))))) (pe_op op_mod (pv 0) pe_int) (fun _ _ => rfl))))), ?_⟩
  refine sq_set (v := .int (c / 4 % 100000000000000000)) (ev_I (ev_I (ev_var rfl) ev_c (cdB (by decide) (by decide))) (ev_I ev_c ev_c (cpw (by decide) (by decide) (by decide))) (by show (0 : Int) < 100000000000000000; decide)) ?_
  have f0 := Int.emod_nonneg (c / 4) (show (100000000000000000 : Int) ≠ 0 by decide)
  have f1 := Int.emod_lt_of_pos (c / 4) (show (0 : Int) < 100000000000000000 by decide)
  have b0 := Int.emod_nonneg c (show (4 : Int) ≠ 0 by decide)
  have b1 := Int.emod_lt_of_pos c (show (0 : Int) < 4 by decide)
  revert f0 f1
  generalize c / 4 % 100000000000000000 = far
  intro f0 f1
  have ev : ∃ v : Int, atI [V.int (-1), V.int (m + 1), V.int (m + 1 + far), V.int (-1 - far)] (c % 4) = some (.int v) ∧ v.natAbs < 2 ^ 62 := by
    have hA : c % 4 = 0 ∨ c % 4 = 1 ∨ c % 4 = 2 ∨ c % 4 = 3 := by omega
    rcases hA with e | e | e | e <;> rw [e]
    · exact ⟨_, rfl, by omega⟩
    · exact ⟨_, rfl, by omega⟩
    · exact ⟨_, rfl, by omega⟩
    · exact ⟨_, rfl, by omega⟩
  obtain ⟨v, ev, hv⟩ := ev
  refine rd_te (te_op (te_lst (vs := [.int (-1), .int (m + 1), .int (m + 1 + far), .int (-1 - far)]) ?_ (by show 4 ≤ sizeLine; decide) fun p np => ?_))
  · exact (ea_cons (ev_of (ev_U ev_c) rfl) (ea_cons (ev_I0 (ev_var rfl) ev_c) (ea_cons (ev_I0 (ev_I0 (ev_var rfl) ev_c) (ev_var rfl)) (ea_cons (ev_I0 (i := -1) (ev_of (ev_U ev_c) rfl) (ev_var rfl)) ea_nil))))
  exact (ev_I (ev_var rfl) ev_c (by show (0 : Int) < 4; decide)) _ ⟨p, _, _, .int v, rfl, rfl, SqL.of upd_same, ev, q _ _ ((Same.refl H).upd np) hv⟩
theorem ok_Name {cThing cNet cBundle cWireError cBadSize cBadPrice cOutOfFloor cTwice cNoFit cCrowded cBadThing : Addr} {f : Addr} {fd : FuncData} (F : Fun K "is_name" "is_name" sName f fd) (T : Txt K mg cThing cNet cBundle cWireError cBadSize cBadPrice cOutOfFloor cTwice cNoFit cCrowded cBadThing) : FnOk P w K mg base CX0 1 f fd ["name"] spName := by
  have sc : FnScope ["name"] ["name"] (defScope sName) := ⟨rfl, rfl, rfl, by decide +kernel, rfl, by decide +kernel, by decide +kernel⟩
  refine F.ok sc (fun vs H Q E h => by repeat (first | (obtain ⟨rfl, _⟩ := h; rfl) | (obtain ⟨_, h⟩ := h))) (fun cdv A outer s H vs Q E hr h => ?_)
  obtain ⟨x, rfl, hA, q⟩ := h
  refine ⟨_, (pss_cons (ps_if (pw_or (pt_not (pt_chain op_le op_le pe_int (pe_callB call_len_str (by rfl) T.len_ bt_len (pa_cons (pv 0) pa_nil)) (pe_const (by rfl) (by exact T.g_MOST_SIGNS)))) (pw_or1 (pt_cmpR op_notin_str (pe_ix ix_str (pv 0) pe_int (fun _ _ => rfl)) (pe_const (by rfl) (by exact T.g_LETTERS)) (by with_unfolding_all rfl)))).pt
  (pss_one (ps_ret pe_bl))
  pss_nil)
  (pss_one (ps_ret (pe_callB (call_all rfl) (by rfl) T.all_ bt_all (pa_cons (pe_lc (ls := ["sign"]) (ys := []) (ix := []) rfl ⟨rfl, by rfl, by rfl, by rfl, by rfl, rfl⟩ (pi_str (pv 0)) (fun _ _ _ _ _ => (pg_name (i := 0) (show (["sign"] : List Str).Nodup by decide +kernel) rfl (Or.inl rfl))) (fun _ _ _ _ _ => pf_nil) (fun _ _ _ _ _ => (pe_or (pe_cmpR op_in_str (pv 0) (pe_const (by rfl) (by exact T.g_LETTERS)) (by with_unfolding_all rfl)) (pe_one (pe_cmpR op_in_str (pv 0) (pe_const (by rfl) (by exact T.g_FIGURES)) (by with_unfolding_all rfl)))))) pa_nil))))), ?_⟩
  have hsz : sizeLine = 2 ^ 24 := rfl
  have h13 := hA.2
  by_cases hn : 1 ≤ x.length ∧ x.length ≤ 12
  · obtain ⟨c, r, hcr⟩ := cp_cons hn.1
    refine sq_if (b := !decide (c ∈ lets)) (et_orF (et_notF (et_of (et_test (ev_chain ev_c (ev_lenT (ev_var rfl) (by omega)) ev_c)) ?_)) (et_test (ev_notinS (ev_ixS (c := c) (ev_var rfl) ev_c (by omega) (by rw [hcr]; exact atI_nat (j := 0) rfl)) ev_c))) (fun e => ?_) (fun e => ?_)
    · rw [decide_eq_true (by omega), decide_eq_true (by omega)]; rfl
    · have q' := q H (Same.refl H)
      rw [good_cut hcr hn.2, show decide (c ∈ lets) = false by simpa using e] at q'
      exact rd_ret ev_c q'
    have e1 : decide (c ∈ lets) = true := by simpa using e
    refine ⟨_, rfl, x, rfl, hA.1, fun D nD => ?_⟩
    refine lc_str (fun i τ H' => ∃ x0 : Option V, τ = [x0] ∧ H' = upd H D (.lst ((((cp x).take i).map fS).map V.bl))) ⟨none, rfl, rfl⟩ ?_ ?_
    · rintro i d τ H2 hd ⟨x0, rfl, rfl⟩
      refine gn (lc_el ?_)
      refine (ev_or (ev_inS (c := d) (ev_var rfl) ev_c) fun _ => ev_inS (c := d) (ev_var rfl) ev_c) _ ⟨_, upd_same, by rw [List.length_map, List.length_map, List.length_take, cp_len]; omega, _, rfl, ?_⟩
      rw [upd_upd, take_one hd, List.map_append, List.map_append]; rfl
    · rintro τ H2 ⟨x0, rfl, rfl⟩
      refine ⟨D, ((cp x).take x.length).map fS, rfl, SqL.of upd_same, ?_⟩
      have q' := q (upd H D (.lst ((((cp x).take x.length).map fS).map V.bl))) ((Same.refl H).upd nD)
      rw [good_cut hcr hn.2, e1] at q'
      have e2 : (((cp x).take x.length).map fS).all id = (cp x).all fS := by rw [← cp_len, List.take_length, List.all_map]; rfl
      rw [e2]
      exact q'
  · have q' := q H (Same.refl H)
    rw [good_none hn] at q'
    refine sq_if (b := true) (et_of (et_or (a := true) (b := true) (et_of (et_not (et_test (ev_chain ev_c (ev_lenT (ev_var rfl) (by omega)) ev_c))) ?_) fun z => nomatch z) rfl) (fun _ => rd_ret ev_c q') (fun z => nomatch z)
    by_cases h1 : 1 ≤ x.length
    · rw [decide_eq_true (by omega), decide_eq_false (by omega)]; rfl
    · rw [decide_eq_false (by omega)]; rfl
theorem ok_Good {cThing cNet cBundle cWireError cBadSize cBadPrice cOutOfFloor cTwice cNoFit cCrowded cBadThing : Addr} {f : Addr} {fd : FuncData} (F : Fun K "_law_good_name" "_law_good_name" sGood f fd) (T : Txt K mg cThing cNet cBundle cWireError cBadSize cBadPrice cOutOfFloor cTwice cNoFit cCrowded cBadThing) : FnOk P w K mg base CX0 1 f fd ["name"] spGood := by
  have sc : FnScope ["name"] ["name"] (defScope sGood) := ⟨rfl, rfl, rfl, by decide +kernel, rfl, by decide +kernel, by decide +kernel⟩
  refine F.ok sc (fun vs H Q E h => by repeat (first | (obtain ⟨rfl, _⟩ := h; rfl) | (obtain ⟨_, h⟩ := h))) (fun cdv A outer s H vs Q E hr h => ?_)
  obtain ⟨x, rfl, hA, q⟩ := h
  refine ⟨_, (pss_cons (ps_if (pw_or (pt_cmpR op_lt (pe_callB call_len_str (by rfl) T.len_ bt_len (pa_cons (pv 0) pa_nil)) pe_int (nomark _)) (pw_or (pt_cmpR op_gt (pe_callB call_len_str (by rfl) T.len_ bt_len (pa_cons (pv 0) pa_nil)) pe_int (nomark _)) (pw_or1 (pt_cmpR op_in_str (pe_ix ix_str (pv 0) pe_int (fun _ _ => rfl)) pe_str (by with_unfolding_all rfl))))).pt
  (pss_one (ps_ret pe_bl))
  pss_nil)
  (pss_one (ps_ret (pe_callB (call_all rfl) (by rfl) T.all_ bt_all (pa_cons (pe_lc (ls := ["sign"]) (ys := []) (ix := []) rfl ⟨rfl, by rfl, by rfl, by rfl, by rfl, rfl⟩ (pi_str (pv 0)) (fun _ _ _ _ _ => (pg_name (i := 0) (show (["sign"] : List Str).Nodup by decide +kernel) rfl (Or.inl rfl))) (fun _ _ _ _ _ => pf_nil) (fun _ _ _ _ _ => (pe_cmpR op_in_str (pv 0) pe_str (by with_unfolding_all rfl)))) pa_nil))))), ?_⟩
  have hsz : sizeLine = 2 ^ 24 := rfl
  have h13 := hA.2
  by_cases h1 : 1 ≤ x.length
  · by_cases h2 : x.length ≤ 12
    · obtain ⟨c, r, hcr⟩ := cp_cons h1
      refine sq_if (b := decide (c ∈ figs)) (et_orF (et_of (et_test (ev_lt (ev_lenT (ev_var rfl) (by omega)) ev_c)) (decide_eq_false (by omega))) (et_orF (et_of (et_test (ev_gt (ev_lenT (ev_var rfl) (by omega)) ev_c)) (decide_eq_false (by omega))) (et_test (ev_inS (ev_ixS (c := c) (ev_var rfl) ev_c (by omega) (by rw [hcr]; exact atI_nat (j := 0) rfl)) ev_c)))) (fun e => ?_) (fun e => ?_)
      · have q' := q H (Same.refl H)
        rw [good_law hcr h2, e] at q'
        exact rd_ret ev_c q'
      refine ⟨_, rfl, x, rfl, hA.1, fun D nD => ?_⟩
      refine lc_str (fun i τ H' => ∃ x0 : Option V, τ = [x0] ∧ H' = upd H D (.lst ((((cp x).take i).map fS).map V.bl))) ⟨none, rfl, rfl⟩ ?_ ?_
      · rintro i d τ H2 hd ⟨x0, rfl, rfl⟩
        refine gn (lc_el ?_)
        refine (ev_of (ev_inS (c := d) (ev_var rfl) ev_c) (by rw [fS_36])) _ ⟨_, upd_same, by rw [List.length_map, List.length_map, List.length_take, cp_len]; omega, _, rfl, ?_⟩
        rw [upd_upd, take_one hd, List.map_append, List.map_append]; rfl
      · rintro τ H2 ⟨x0, rfl, rfl⟩
        refine ⟨D, ((cp x).take x.length).map fS, rfl, SqL.of upd_same, ?_⟩
        have q' := q (upd H D (.lst ((((cp x).take x.length).map fS).map V.bl))) ((Same.refl H).upd nD)
        rw [good_law hcr h2, e] at q'
        have e2 : (((cp x).take x.length).map fS).all id = (cp x).all fS := by rw [← cp_len, List.take_length, List.all_map]; rfl
        rw [e2]
        exact q'
    · have q' := q H (Same.refl H)
      rw [good_none fun z => h2 z.2] at q'
      exact sq_if (b := true) (et_orF (et_of (et_test (ev_lt (ev_lenT (ev_var rfl) (by omega)) ev_c)) (decide_eq_false (by omega))) (et_of (et_or (a := true) (b := true) (et_of (et_test (ev_gt (ev_lenT (ev_var rfl) (by omega)) ev_c)) (decide_eq_true (by omega))) fun z => nomatch z) rfl)) (fun _ => rd_ret ev_c q') (fun z => nomatch z)
  · have q' := q H (Same.refl H)
    rw [good_none fun z => h1 z.1] at q'
    exact sq_if (b := true) (et_of (et_or (a := true) (b := true) (et_of (et_test (ev_lt (ev_lenT (ev_var rfl) (by omega)) ev_c)) (decide_eq_true (by omega))) fun z => nomatch z) rfl) (fun _ => rd_ret ev_c q') (fun z => nomatch z)
theorem ok_Unlike {cThing cNet cBundle cWireError cBadSize cBadPrice cOutOfFloor cTwice cNoFit cCrowded cBadThing : Addr} {f : Addr} {fd : FuncData} (F : Fun K "check_unlike" "check_unlike" sUnlike f fd) (hB : K.In base) (T : Txt K mg cThing cNet cBundle cWireError cBadSize cBadPrice cOutOfFloor cTwice cNoFit cCrowded cBadThing) : FnOk P w K mg base (CX1 P w) 1 f fd ["spots"] (spUnlike cBadThing) := by
  have sc : FnScope ["spots"] ["spots"] (defScope sUnlike) := ⟨rfl, rfl, rfl, by decide +kernel, rfl, by decide +kernel, by decide +kernel⟩
  refine F.okX sc (fun vs H Q E h => by repeat (first | (obtain ⟨rfl, _⟩ := h; rfl) | (obtain ⟨_, h⟩ := h))) (fun cdv A outer s H vs Q E hr h => ?_)
  obtain ⟨l, cs, rfl, ⟨as, hl, ht⟩, h6, h19, q1, q2⟩ := h
  refine ⟨_, (pss_one (ps_if (pt_cmpR op_ne (pe_callB call_lenSt (by rfl) T.len_ bt_len (pa_cons (pe_callTy (call_setG rfl hr) (by rfl) T.set_ bt_set (pa_cons (pv 0) pa_nil)) pa_nil)) (pe_callB call_len (by rfl) T.len_ bt_len (pa_cons (pv 0) pa_nil)) (nomark _))
  (pss_one (ps_raise (own_of hB T.eBadThing.bd T.eBadThing.ex) PySem.F.excBase_ValueError rfl (by rfl) raises1 (pa_cons pe_str pa_nil)))
  pss_nil)), ?_⟩
  have len : as.length = cs.length := Paired.length ht
  refine if_of ⟨_, rfl, l, as, cs, rfl, SqL.of hl, ht, by omega, fun c hc d hd e => sp6_inj (h6 c hc) (h6 d hd) e, fun p n np hn n74 => ⟨p, n, rfl, upd_same, by omega, _, rfl, _, _, rfl, .inl ⟨_, SqL.of (by rw [upd_ne (ne_of_none hl np)]; exact hl), rfl⟩, rfl, _, rfl, ?_⟩⟩
  have en := hn (dd cs) (dd_nodup cs) (dd_mem cs)
  have s1 : Same H (upd H p (stO p n)) := (Same.refl H).upd np
  revert s1
  generalize upd H p (stO p n) = H1
  intro s1
  by_cases nd : cs.Nodup
  · have e : (!decide (V.int (n : Nat) = V.int ((as.map V.ref).length : Nat))) = false := by
      rw [List.length_map, len, en, (dd_len cs).mpr nd]; simp
    rw [e]
    exact iteF (q1 nd _ s1)
  · have e : (!decide (V.int (n : Nat) = V.int ((as.map V.ref).length : Nat))) = true := by
      have hne : n ≠ cs.length := fun z => nd ((dd_len cs).mp (by omega))
      rw [List.length_map, len, decide_eq_false (fun z => hne (by injection z with z; omega))]; rfl
    rw [e]
    exact iteT (rd_raiseS (q2 nd _ _ s1))
theorem th_no1 {x : Str} {h r : Int} (e : good x = false) : thOk x h r = false := by unfold thOk; rw [e]; rfl
theorem th_no2 {x : Str} {h r : Int} (e : (decide (0 ≤ h) && decide (h ≤ 2)) = false) : thOk x h r = false := by
  unfold thOk
  cases e1 : decide (0 ≤ h) <;> cases e2 : decide (h ≤ 2) <;> simp_all
theorem th_no3 {x : Str} {h r : Int} (e : (decide (0 ≤ r) && decide (r ≤ 3)) = false) : thOk x h r = false := by
  unfold thOk
  cases e1 : decide (0 ≤ r) <;> cases e2 : decide (r ≤ 3) <;> simp_all
theorem th_yes {x : Str} {h r : Int} (e0 : good x = true) (e1 : (decide (0 ≤ h) && decide (h ≤ 2)) = true) (e2 : (decide (0 ≤ r) && decide (r ≤ 3)) = true) : thOk x h r = true := by
  unfold thOk
  simp_all
theorem fm62 {K : PySem.W.Frag} {H : Hp} {i : Int} (h : i.natAbs < 2 ^ 62) : Fm K H (.int i) := .int i (lg (by omega) (by omega))
theorem ok_TInit {cThing cNet cBundle cWireError cBadSize cBadPrice cOutOfFloor cTwice cNoFit cCrowded cBadThing : Addr} {f : Addr} {fd : FuncData} (F : Fun K "__init__" "Thing.__init__" sTInit f fd) (hB : K.In base) (T : Txt K mg cThing cNet cBundle cWireError cBadSize cBadPrice cOutOfFloor cTwice cNoFit cCrowded cBadThing) (gName : Callee P w K mg base "is_name" 1 ["name"] spName) : FnOk P w K mg base (CX1 P w) 2 f fd ["self", "name", "half", "room"] (spTInit cNet cBundle cBadThing) := by
  have sc : FnScope ["self", "name", "half", "room"] ["self", "name", "half", "room"] (defScope sTInit) := ⟨rfl, rfl, rfl, by decide +kernel, rfl, by decide +kernel, by decide +kernel⟩
  refine F.okX sc (fun vs H Q E h => by repeat (first | (obtain ⟨rfl, _⟩ := h; rfl) | (obtain ⟨_, h⟩ := h))) (fun cdv A outer s H vs Q E hr h => ?_)
  obtain ⟨p, C, dx, x, h, r, rfl, hp, hC, hA, hh, hr', q1, q2⟩ := h
  refine ⟨_, (pss_cons (ps_if (pt_not (pt_val (pe_cal gName (hr.mono (by decide)) (by rfl) (pa_cons (pv 1) pa_nil))))
  (pss_one (ps_raise (own_of hB T.eBadThing.bd T.eBadThing.ex) PySem.F.excBase_ValueError rfl (by rfl) raises1 (pa_cons (pe_join (FPs.cons (fp_repr hr (pv 1)) (FPs.cons (fp_str pe_str) FPs.nil))) pa_nil)))
  pss_nil)
  (pss_cons (ps_if (pt_not (pt_chain op_le op_le pe_int (pv 2) (pe_const (by rfl) (by exact T.g_MOST_HALF))))
  (pss_one (ps_raise (own_of hB T.eBadThing.bd T.eBadThing.ex) PySem.F.excBase_ValueError rfl (by rfl) raises1 (pa_cons (pe_join (FPs.cons (fp_str pe_str) (FPs.cons (fp_val hr (pv 2)) (FPs.cons (fp_str pe_str) (FPs.cons (fp_val hr (pe_const (by rfl) (by exact T.g_MOST_HALF))) FPs.nil))))) pa_nil)))
  pss_nil)
  (pss_cons (ps_if (pt_not (pt_chain op_le op_le pe_int (pv 3) (pe_const (by rfl) (by exact T.g_MOST_ROOM))))
  (pss_one (ps_raise (own_of hB T.eBadThing.bd T.eBadThing.ex) PySem.F.excBase_ValueError rfl (by rfl) raises1 (pa_cons (pe_join (FPs.cons (fp_str pe_str) (FPs.cons (fp_val hr (pv 3)) (FPs.cons (fp_str pe_str) (FPs.cons (fp_val hr (pe_const (by rfl) (by exact T.g_MOST_ROOM))) FPs.nil))))) pa_nil)))
  pss_nil)
  (pss_cons (ps_fld (pv 0) (pv 1) rfl)
  (pss_cons (ps_fld (pv 0) (pv 2) rfl)
  (pss_one (ps_fld (pv 0) (pv 3) rfl))))))), ?_⟩
  have h13 := hA.2
  have kc : Cls K C ∧ NoAttr K C "name" ∧ NoAttr K C "half" ∧ NoAttr K C "room" := by rcases hC with rfl | rfl <;> first | exact ⟨T.cl_Net, T.na_Net_name, T.na_Net_half, T.na_Net_room⟩ | exact ⟨T.cl_Bundle, T.na_Bundle_name, T.na_Bundle_half, T.na_Bundle_room⟩
  refine sq_ifof ⟨_, rfl, x, rfl, hA, fun H1 s1 => ⟨_, rfl, ?_⟩⟩
  cases e0 : good x with
  | false =>
    refine iteT ?_
    exact rd_raise (t := tNil) ⟨⟨_, rfl, rfl, x, rfl, asc_rep hA.1, by omega⟩, trivial, trivial⟩ (q2 (th_no1 e0) _ _ (ButP.of s1))
  | true =>
  refine iteF ?_
  refine sq_if (et_not (et_test (ev_chain ev_c (ev_var rfl) ev_c))) (fun e => ?_) (fun e => ?_)
  · refine rd_raise (t := tNil) ⟨trivial, ⟨_, rfl, rfl, fm62 hh⟩, trivial, ⟨rfl, .int _ (by decide)⟩, trivial⟩ (q2 (th_no2 (nb e)) _ _ (ButP.of s1))
  have e1 : (decide (0 ≤ h) && decide (h ≤ 2)) = true := nb' e
  refine sq_if (et_not (et_test (ev_chain ev_c (ev_var rfl) ev_c))) (fun e => ?_) (fun e => ?_)
  · refine rd_raise (t := tNil) ⟨trivial, ⟨_, rfl, rfl, fm62 hr'⟩, trivial, ⟨rfl, .int _ (by decide)⟩, trivial⟩ (q2 (th_no3 (nb e)) _ _ (ButP.of s1))
  have e2 : (decide (0 ≤ r) && decide (r ≤ 3)) = true := nb' e
  refine ⟨_, rfl, _, rfl, p, C, dx, [], rfl, s1 _ _ hp, kc.1, kc.2.1, (by decide), ?_⟩
  refine ⟨_, rfl, _, rfl, p, C, dx, _, rfl, upd_same, kc.1, kc.2.2.1, Nat.lt_of_le_of_lt (length_putF _ _ _) (by decide), ?_⟩
  refine ⟨_, rfl, _, rfl, p, C, dx, _, rfl, upd_same, kc.1, kc.2.2.2, Nat.lt_of_le_of_lt (Nat.le_trans (length_putF _ _ _) (Nat.succ_le_succ (length_putF _ _ _))) (by decide), ?_⟩
  refine q1 (th_yes e0 e1 e2) _ _ (fun b o hb e => ?_) upd_same ⟨?_, ?_, ?_, ?_⟩ (Nat.le_trans (length_putF _ _ _) (Nat.succ_le_succ (Nat.le_trans (length_putF _ _ _) (Nat.succ_le_succ (length_putF _ _ _)))))
  · rw [upd_ne hb, upd_ne hb, upd_ne hb]; exact s1 _ _ e
  · rw [lookup_putF, if_neg (by decide +kernel), lookup_putF, if_neg (by decide +kernel), lookup_putF, if_pos rfl]
  · rw [lookup_putF, if_neg (by decide +kernel), lookup_putF, if_pos rfl]
  · rw [lookup_putF, if_pos rfl]
  · rw [lookup_putF, if_neg (by decide +kernel), lookup_putF, if_neg (by decide +kernel), lookup_putF, if_neg (by decide +kernel)]; rfl
theorem Base.put {fs : List (Str × V)} {x : Str} {h r : Int} {f : Str} {v : V} (b : Base fs x h r) (h1 : ("name" : Str) ≠ f) (h2 : ("half" : Str) ≠ f) (h3 : ("room" : Str) ≠ f) (h4 : ("ends" : Str) ≠ f) : Base (putF f v fs) x h r :=
  ⟨by rw [lookup_putF, if_neg h1]; exact b.1, by rw [lookup_putF, if_neg h2]; exact b.2.1, by rw [lookup_putF, if_neg h3]; exact b.2.2.1, by rw [lookup_putF, if_neg h4]; exact b.2.2.2⟩
theorem net_no1 {x : Str} {h r : Int} {cs : List (List Int)} (e : thOk x h r = false) : netOk x h r cs = false := by unfold netOk; rw [e]; rfl
theorem net_no2 {x : Str} {h r : Int} {cs : List (List Int)} (e : (decide (2 ≤ cs.length) && decide (cs.length ≤ 6)) = false) : netOk x h r cs = false := by
  unfold netOk
  cases e1 : decide (2 ≤ cs.length) <;> cases e2 : decide (cs.length ≤ 6) <;> simp_all
theorem net_no3 {x : Str} {h r : Int} {cs : List (List Int)} (e : ¬ cs.Nodup) : netOk x h r cs = false := by
  unfold netOk
  rw [decide_eq_false e, Bool.and_false]
theorem net_yes {x : Str} {h r : Int} {cs : List (List Int)} (e0 : thOk x h r = true) (e1 : (decide (2 ≤ cs.length) && decide (cs.length ≤ 6)) = true) (e2 : cs.Nodup) : netOk x h r cs = true := by
  unfold netOk
  rw [e0, decide_eq_true e2, Bool.and_true, Bool.true_and]
  exact e1
theorem nat2 {n a b : Nat} : (decide ((a : Int) ≤ (n : Int)) && decide ((n : Int) ≤ (b : Int))) = (decide (a ≤ n) && decide (n ≤ b)) := by
  congr 1 <;> exact decide_eq_decide.mpr (by omega)
theorem ok_NInit {cThing cNet cBundle cWireError cBadSize cBadPrice cOutOfFloor cTwice cNoFit cCrowded cBadThing : Addr} {f : Addr} {fd : FuncData} (F : FunD K "__init__" "Net.__init__" sNInit f fd) (hB : K.In base) (T : Txt K mg cThing cNet cBundle cWireError cBadSize cBadPrice cOutOfFloor cTwice cNoFit cCrowded cBadThing) (gUnlike : CalleeX P w K mg base "check_unlike" 1 ["spots"] (spUnlike cBadThing)) (gTInit : ClsCalleeX P w K mg base cThing "__init__" 2 ["self", "name", "half", "room"] (spTInit cNet cBundle cBadThing)) : FnOk P w K mg base (CX1 P w) 3 f fd ["self", "name", "pins", "half", "room"] (spNInit cNet cBadThing) := by
  have sc : FnScope ["self", "name", "pins", "half", "room"] ["self", "name", "pins", "half", "room"] (defScope sNInit) := ⟨rfl, rfl, rfl, by decide +kernel, rfl, by decide +kernel, by decide +kernel⟩
  refine F.okX sc (fun vs H Q E h => by repeat (first | (obtain ⟨rfl, _⟩ := h; rfl) | (obtain ⟨_, h⟩ := h))) (fun cdv A outer s H vs Q E hr h => ?_)
  obtain ⟨p, dx, l, as, cs, x, h, r, rfl, hp, hl, ht, h6, h19, hA, hh, hr', q1, q2⟩ := h
  refine ⟨_, (pss_cons (ps_expr (pe_clsX (pe_globC (by rfl) T.mg_Thing) gTInit (hr.mono (by decide)) comes1 (pa_cons (pv 0) (pa_cons (pv 1) (pa_cons (pv 3) (pa_cons (pv 4) pa_nil))))))
  (pss_cons (ps_if (pt_not (pt_chain op_le op_le pe_int (pe_callB call_len (by rfl) T.len_ bt_len (pa_cons (pv 2) pa_nil)) (pe_const (by rfl) (by exact T.g_MOST_PINS))))
  (pss_one (ps_raise (own_of hB T.eBadThing.bd T.eBadThing.ex) PySem.F.excBase_ValueError rfl (by rfl) raises1 (pa_cons (pe_join (FPs.cons (fp_str pe_str) (FPs.cons (fp_val hr (pe_const (by rfl) (by exact T.g_MOST_PINS))) (FPs.cons (fp_str pe_str) FPs.nil)))) pa_nil)))
  pss_nil)
  (pss_cons (ps_expr (pe_calX gUnlike (hr.mono (by decide)) (by rfl) comes1 (pa_cons (pv 2) pa_nil)))
  (pss_one (ps_fld (pv 0) (pe_callTy call_tuple_of (by rfl) T.tuple_ bt_tuple (pa_cons (pv 2) pa_nil)) rfl))))), ?_⟩
  have nlp : l ≠ p := ne_of hl hp (fun z => nomatch z)
  have len : as.length = cs.length := Paired.length ht
  refine ⟨_, rfl, _, rfl, _, rfl, _, rfl, p, cNet, dx, x, h, r, rfl, hp, .inl rfl, hA, hh, hr', fun e0 H1 fs b1 hp1 bs few => ?_, fun e0 H1 m b1 => q2 (net_no1 e0) _ _ b1⟩
  have hl1 := b1 _ _ nlp hl
  have ht1 : Tups H1 as cs := Paired.mapP ht fun a c e => b1 _ _ (ne_of e hp (fun z => nomatch z)) e
  refine st ?_
  refine sq_if (b := !(decide (2 ≤ cs.length) && decide (cs.length ≤ 6))) (et_not (et_of (et_test (ev_chain ev_c (ev_cb (v := .int ((as.map V.ref).length : Nat)) (ea_cons (ev_var rfl) ea_nil) fun Q' q' => ⟨_, _, rfl, .inl ⟨_, SqL.of hl1, rfl⟩, q'⟩) ev_c)) (by rw [List.length_map, len]; exact nat2 (a := 2) (b := 6)))) (fun e => ?_) (fun e => ?_)
  · refine rd_raise (t := tNil) ⟨trivial, ⟨rfl, .int _ (by decide)⟩, trivial, trivial⟩ (q2 (net_no2 (nb e)) _ _ b1)
  have e1 : (decide (2 ≤ cs.length) && decide (cs.length ≤ 6)) = true := nb' e
  refine ⟨_, rfl, l, cs, rfl, ⟨as, hl1, ht1⟩, h6, h19, fun nd H2 s2 => ?_, fun nd H2 m s2 => q2 (net_no3 nd) _ _ (b1.st s2)⟩
  refine ⟨_, rfl, l, _, rfl, .inl ⟨SqL.of (s2 _ _ hl1), fun t nt => ?_⟩⟩
  have hp2 := s2 _ _ hp1
  refine ⟨_, rfl, p, cNet, dx, fs, rfl, by rw [upd_ne (ne_of_none hp2 nt)]; exact hp2, T.cl_Net, T.na_Net_pins, Nat.lt_of_le_of_lt few (by decide), ?_⟩
  have ntp : t ≠ p := fun z => by rw [z, hp2] at nt; cases nt
  refine q1 (net_yes e0 e1 nd) _ _ t (fun b o hb e => ?_) upd_same (bs.put (by decide +kernel) (by decide +kernel) (by decide +kernel) (by decide +kernel)) (by rw [lookup_putF, if_pos rfl]) (by rw [upd_ne ntp, upd_same])
  have e2 := s2 _ _ (b1 _ _ hb e)
  rw [upd_ne hb, upd_ne (ne_of_none e2 nt)]; exact e2
theorem bun_no1 {x : Str} {r : Int} {cs ds : List (List Int)} (e : thOk x 0 r = false) : bunOk x r cs ds = false := by unfold bunOk; rw [e]; rfl
theorem bun_no2 {x : Str} {r : Int} {cs ds : List (List Int)} (e : (decide (1 ≤ cs.length) && decide (cs.length ≤ 6)) = false) : bunOk x r cs ds = false := by
  unfold bunOk
  cases e1 : decide (1 ≤ cs.length) <;> cases e2 : decide (cs.length ≤ 6) <;> simp_all
theorem bun_no3 {x : Str} {r : Int} {cs ds : List (List Int)} (e : (decide (cs.length ≤ ds.length) && decide (ds.length ≤ 12)) = false) : bunOk x r cs ds = false := by
  unfold bunOk
  cases e1 : decide (cs.length ≤ ds.length) <;> cases e2 : decide (ds.length ≤ 12) <;> simp_all
theorem bun_no4 {x : Str} {r : Int} {cs ds : List (List Int)} (e : ¬ (cs ++ ds).Nodup) : bunOk x r cs ds = false := by
  unfold bunOk
  rw [decide_eq_false e, Bool.and_false]
theorem bun_yes {x : Str} {r : Int} {cs ds : List (List Int)} (e0 : thOk x 0 r = true) (e1 : (decide (1 ≤ cs.length) && decide (cs.length ≤ 6)) = true) (e2 : (decide (cs.length ≤ ds.length) && decide (ds.length ≤ 12)) = true) (e3 : (cs ++ ds).Nodup) : bunOk x r cs ds = true := by
  unfold bunOk
  rw [e0, decide_eq_true e3, Bool.and_true, Bool.true_and, e1, Bool.true_and]
  exact e2
theorem ok_BInit {cThing cNet cBundle cWireError cBadSize cBadPrice cOutOfFloor cTwice cNoFit cCrowded cBadThing : Addr} {f : Addr} {fd : FuncData} (F : FunD K "__init__" "Bundle.__init__" sBInit f fd) (hB : K.In base) (T : Txt K mg cThing cNet cBundle cWireError cBadSize cBadPrice cOutOfFloor cTwice cNoFit cCrowded cBadThing) (gUnlike : CalleeX P w K mg base "check_unlike" 1 ["spots"] (spUnlike cBadThing)) (gTInit : ClsCalleeX P w K mg base cThing "__init__" 2 ["self", "name", "half", "room"] (spTInit cNet cBundle cBadThing)) : FnOk P w K mg base (CX1 P w) 3 f fd ["self", "name", "starts", "goals", "room"] (spBInit cBundle cBadThing) := by
  have sc : FnScope ["self", "name", "starts", "goals", "room"] ["self", "name", "starts", "goals", "room"] (defScope sBInit) := ⟨rfl, rfl, rfl, by decide +kernel, rfl, by decide +kernel, by decide +kernel⟩
  refine F.okX sc (fun vs H Q E h => by repeat (first | (obtain ⟨rfl, _⟩ := h; rfl) | (obtain ⟨_, h⟩ := h))) (fun cdv A outer s H vs Q E hr h => ?_)
  obtain ⟨p, dx, l, m, as, bs, cs, ds, x, r, rfl, hp, hl, hm, ht, hu, h6, h19, hA, hr', q1, q2⟩ := h
  refine ⟨_, (pss_cons (ps_expr (pe_clsX (pe_globC (by rfl) T.mg_Thing) gTInit (hr.mono (by decide)) comes1 (pa_cons (pv 0) (pa_cons (pv 1) (pa_cons pe_int (pa_cons (pv 4) pa_nil))))))
  (pss_cons (ps_if (pt_not (pt_chain op_le op_le pe_int (pe_callB call_len (by rfl) T.len_ bt_len (pa_cons (pv 2) pa_nil)) (pe_const (by rfl) (by exact T.g_MOST_STARTS))))
  (pss_one (ps_raise (own_of hB T.eBadThing.bd T.eBadThing.ex) PySem.F.excBase_ValueError rfl (by rfl) raises1 (pa_cons (pe_join (FPs.cons (fp_str pe_str) (FPs.cons (fp_val hr (pe_const (by rfl) (by exact T.g_MOST_STARTS))) (FPs.cons (fp_str pe_str) FPs.nil)))) pa_nil)))
  pss_nil)
  (pss_cons (ps_if (pt_not (pt_chain op_le op_le (pe_callB call_len (by rfl) T.len_ bt_len (pa_cons (pv 2) pa_nil)) (pe_callB call_len (by rfl) T.len_ bt_len (pa_cons (pv 3) pa_nil)) (pe_const (by rfl) (by exact T.g_MOST_GOALS))))
  (pss_one (ps_raise (own_of hB T.eBadThing.bd T.eBadThing.ex) PySem.F.excBase_ValueError rfl (by rfl) raises1 (pa_cons (pe_join (FPs.cons (fp_str pe_str) (FPs.cons (fp_val hr (pe_const (by rfl) (by exact T.g_MOST_GOALS))) FPs.nil))) pa_nil)))
  pss_nil)
  (pss_cons (ps_expr (pe_calX gUnlike (hr.mono (by decide)) (by rfl) comes1 (pa_cons (pe_op op_cat (pv 2) (pv 3)) pa_nil)))
  (pss_cons (ps_fld (pv 0) (pe_callTy call_tuple_of (by rfl) T.tuple_ bt_tuple (pa_cons (pv 2) pa_nil)) rfl)
  (pss_one (ps_fld (pv 0) (pe_callTy call_tuple_of (by rfl) T.tuple_ bt_tuple (pa_cons (pv 3) pa_nil)) rfl))))))), ?_⟩
  have hsz : sizeLine = 2 ^ 24 := rfl
  have nlp : l ≠ p := ne_of hl hp (fun z => nomatch z)
  have nmp : m ≠ p := ne_of hm hp (fun z => nomatch z)
  have len : as.length = cs.length := Paired.length ht
  have len2 : bs.length = ds.length := Paired.length hu
  have hz : cs.length + ds.length ≤ 19 := by rw [← List.length_append]; exact h19
  refine ⟨_, rfl, _, rfl, _, rfl, p, cBundle, dx, x, 0, r, rfl, hp, .inr rfl, hA, by decide, hr', fun e0 H1 fs b1 hp1 bas few => ?_, fun e0 H1 m b1 => q2 (bun_no1 e0) _ _ b1⟩
  have hl1 := b1 _ _ nlp hl
  have hm1 := b1 _ _ nmp hm
  have ht1 : Tups H1 as cs := Paired.mapP ht fun a c e => b1 _ _ (ne_of e hp (fun z => nomatch z)) e
  have hu1 : Tups H1 bs ds := Paired.mapP hu fun a c e => b1 _ _ (ne_of e hp (fun z => nomatch z)) e
  refine st ?_
  refine sq_if (b := !(decide (1 ≤ cs.length) && decide (cs.length ≤ 6))) (et_not (et_of (et_test (ev_chain ev_c (ev_cb (v := .int ((as.map V.ref).length : Nat)) (ea_cons (ev_var rfl) ea_nil) fun Q' q' => ⟨_, _, rfl, .inl ⟨_, SqL.of hl1, rfl⟩, q'⟩) ev_c)) (by rw [List.length_map, len]; exact nat2 (a := 1) (b := 6)))) (fun e => ?_) (fun e => ?_)
  · refine rd_raise (t := tNil) ⟨trivial, ⟨rfl, .int _ (by decide)⟩, trivial, trivial⟩ (q2 (bun_no2 (nb e)) _ _ b1)
  have e1 : (decide (1 ≤ cs.length) && decide (cs.length ≤ 6)) = true := nb' e
  refine sq_if (b := !(decide (cs.length ≤ ds.length) && decide (ds.length ≤ 12))) (et_not (et_of (et_test (ev_chain (ev_cb (v := .int ((as.map V.ref).length : Nat)) (ea_cons (ev_var rfl) ea_nil) fun Q' q' => ⟨_, _, rfl, .inl ⟨_, SqL.of hl1, rfl⟩, q'⟩) (ev_cb (v := .int ((bs.map V.ref).length : Nat)) (ea_cons (ev_var rfl) ea_nil) fun Q' q' => ⟨_, _, rfl, .inl ⟨_, SqL.of hm1, rfl⟩, q'⟩) ev_c)) (by rw [List.length_map, List.length_map, len, len2]; exact nat2 (b := 12)))) (fun e => ?_) (fun e => ?_)
  · refine rd_raise (t := tNil) ⟨trivial, ⟨rfl, .int _ (by decide)⟩, trivial⟩ (q2 (bun_no3 (nb e)) _ _ b1)
  have e2 : (decide (cs.length ≤ ds.length) && decide (ds.length ≤ 12)) = true := nb' e
  refine ⟨_, rfl, _, rfl, l, m, _, _, rfl, rfl, hl1, hm1, by rw [List.length_map, List.length_map]; omega, fun c nc => ?_⟩
  have s2 : Same H1 (upd H1 c (.lst (as.map V.ref ++ bs.map V.ref))) := (Same.refl H1).upd nc
  refine ⟨c, cs ++ ds, rfl, ⟨as ++ bs, by rw [upd_same, List.map_append], Tups.same (tups_app ht1 hu1) s2⟩, h6, h19, fun nd H2 s3 => ?_, fun nd H2 m s3 => q2 (bun_no4 nd) _ _ (b1.st (s2.trans s3))⟩
  have s13 := s2.trans s3
  refine ⟨_, rfl, l, _, rfl, .inl ⟨SqL.of (s13 _ _ hl1), fun t nt => ?_⟩⟩
  have hp2 := s13 _ _ hp1
  refine ⟨_, rfl, p, cBundle, dx, fs, rfl, by rw [upd_ne (ne_of_none hp2 nt)]; exact hp2, T.cl_Bundle, T.na_Bundle_starts, Nat.lt_of_le_of_lt few (by decide), ?_⟩
  have hm2 : upd (upd H2 t (.tup (as.map V.ref))) p (.ins cBundle dx (putF "starts" (.ref t) fs)) m = some (.lst (bs.map V.ref)) := by
    rw [upd_ne nmp, upd_ne (ne_of_none (s13 _ _ hm1) nt)]; exact s13 _ _ hm1
  have hlen := length_putF "starts" (.ref t) fs
  refine ⟨_, rfl, m, _, rfl, .inl ⟨SqL.of hm2, fun t' nt' => ?_⟩⟩
  have npt : t' ≠ p := fun z => by rw [z, upd_same] at nt'; cases nt'
  refine ⟨_, rfl, p, cBundle, dx, _, rfl, by rw [upd_ne (Ne.symm npt), upd_same], T.cl_Bundle, T.na_Bundle_goals, by omega, ?_⟩
  have npt0 : t ≠ p := fun z => by rw [z, hp2] at nt; cases nt
  have ntt : t' ≠ t := fun z => by rw [z, upd_ne npt0, upd_same] at nt'; cases nt'
  refine q1 (bun_yes e0 e1 e2 nd) _ _ t t' (fun b o hb e => ?_) upd_same ((bas.put (by decide +kernel) (by decide +kernel) (by decide +kernel) (by decide +kernel)).put (by decide +kernel) (by decide +kernel) (by decide +kernel) (by decide +kernel)) (by rw [lookup_putF, if_neg (by decide +kernel), lookup_putF, if_pos rfl]) (by rw [lookup_putF, if_pos rfl]) (by rw [upd_ne npt0, upd_ne (Ne.symm ntt), upd_ne npt0, upd_same]) (by rw [upd_ne npt, upd_same])
  have e2 := s13 _ _ (b1 _ _ hb e)
  have e3 : upd (upd H2 t (.tup (as.map V.ref))) p (.ins cBundle dx (putF "starts" (.ref t) fs)) b = some o := by rw [upd_ne hb, upd_ne (ne_of_none e2 nt)]; exact e2
  rw [upd_ne hb, upd_ne (ne_of_none e3 nt')]; exact e3
theorem mkNet {cN cB cBad : Addr} {H : Hp} {l z dz : Addr} {as bs : List Addr} {cs : List (List Int)} {x : Str} {h r : Int} {Q : VK} {E : XK} (nz : H z = none) (nd : H dz = none) (hl : H l = some (.lst (as.map V.ref))) (ht : Tups H as cs) (h6 : ∀ c ∈ cs, Sp6 c) (h19 : cs.length ≤ 19) (hA : Asc x) (hh : h.natAbs < 2 ^ 62) (hr : r.natAbs < 2 ^ 62)
    (q1 : netOk x h r cs = true → ∀ H' p, Same H H' → ThAt cN cB H' p 0 x h r as bs → Q (.ref p) H') (q2 : netOk x h r cs = false → ∀ H' e, Same H H' → E (.ref cBad) e H') :
    spNInit cN cBad [.ref z, .str x, .ref l, .int h, .int r] (upd (upd H dz (.own z)) z (.ins cN dz [])) (fun v H2 => v = .non ∧ Q (.ref z) H2) (fun C' _ H' => E C' none H') := by
  have s0 : Same H (upd (upd H dz (.own z)) z (.ins cN dz [])) := same_make nz nd
  exact ⟨z, dz, l, as, cs, x, h, r, rfl, upd_same, s0 _ _ hl, Tups.same ht s0, h6, h19, hA, hh, hr, fun e H' fs t b hz bs hf ht' => ⟨rfl, q1 e H' z (ButP.same s0 nz b) ⟨dz, fs, bs, .inl ⟨rfl, hz, t, hf, ht'⟩⟩⟩, fun e H' m b => q2 e H' none (ButP.same s0 nz b)⟩
theorem mkBun {cN cB cBad : Addr} {H : Hp} {l m z dz : Addr} {as bs : List Addr} {cs ds : List (List Int)} {x : Str} {r : Int} {Q : VK} {E : XK} (nz : H z = none) (nd : H dz = none) (hl : H l = some (.lst (as.map V.ref))) (hm : H m = some (.lst (bs.map V.ref))) (ht : Tups H as cs) (hu : Tups H bs ds) (h6 : ∀ c ∈ cs ++ ds, Sp6 c) (h19 : (cs ++ ds).length ≤ 19) (hA : Asc x) (hr : r.natAbs < 2 ^ 62)
    (q1 : bunOk x r cs ds = true → ∀ H' p, Same H H' → ThAt cN cB H' p 1 x 0 r as bs → Q (.ref p) H') (q2 : bunOk x r cs ds = false → ∀ H' e, Same H H' → E (.ref cBad) e H') :
    spBInit cB cBad [.ref z, .str x, .ref l, .ref m, .int r] (upd (upd H dz (.own z)) z (.ins cB dz [])) (fun v H2 => v = .non ∧ Q (.ref z) H2) (fun C' _ H' => E C' none H') := by
  have s0 : Same H (upd (upd H dz (.own z)) z (.ins cB dz [])) := same_make nz nd
  exact ⟨z, dz, l, m, as, bs, cs, ds, x, r, rfl, upd_same, s0 _ _ hl, s0 _ _ hm, Tups.same ht s0, Tups.same hu s0, h6, h19, hA, hr, fun e H' fs t u b hz bs hf hg ht' hu' => ⟨rfl, q1 e H' z (ButP.same s0 nz b) ⟨dz, fs, bs, .inr ⟨rfl, hz, t, u, hf, hg, ht', hu'⟩⟩⟩, fun e H' m b => q2 e H' none (ButP.same s0 nz b)⟩
theorem ok_Make {cThing cNet cBundle cWireError cBadSize cBadPrice cOutOfFloor cTwice cNoFit cCrowded cBadThing : Addr} {f : Addr} {fd : FuncData} (F : Fun K "_law_make" "_law_make" sMake f fd) (T : Txt K mg cThing cNet cBundle cWireError cBadSize cBadPrice cOutOfFloor cTwice cNoFit cCrowded cBadThing) (gNInit : KCalleeZX P w K mg base cNet "Net" 3 ["self", "name", "pins", "half", "room"] (spNInit cNet cBadThing) 2) (gBInit : KCalleeZX P w K mg base cBundle "Bundle" 3 ["self", "name", "starts", "goals", "room"] (spBInit cBundle cBadThing) 1) : FnOk P w K mg base (CX1 P w) 5 f fd ["kind", "way", "name", "half", "room", "ones", "twos"] (spMake cNet cBundle cBadThing) := by
  have sc : FnScope ["kind", "way", "name", "half", "room", "ones", "twos"] ["kind", "way", "name", "half", "room", "ones", "twos"] (defScope sMake) := ⟨rfl, rfl, rfl, by decide +kernel, rfl, by decide +kernel, by decide +kernel⟩
  refine F.okX sc (fun vs H Q E h => by repeat (first | (obtain ⟨rfl, _⟩ := h; rfl) | (obtain ⟨_, h⟩ := h))) (fun cdv A outer s H vs Q E hr h => ?_)
  obtain ⟨l, m, as, bs, cs, ds, x, kd, wy, h, r, rfl, hM, q1, q2⟩ := h
  refine ⟨_, (pss_cons (ps_if (pt_cmpR op_eq (pv 0) pe_int (nomark _))
  (pss_cons (ps_if (pt_cmpR op_eq (pv 1) pe_int (nomark _))
  (pss_one (ps_ret (pe_mkXZ gBInit 1 (by decide) (hr.mono (by decide)) (by rfl) comes1 (pa_cons (pv 2) (pa_cons (pv 5) (pa_cons (pv 6) pa_nil))))))
  pss_nil)
  (pss_one (ps_ret (pe_mkXZ gBInit 0 (by decide) (hr.mono (by decide)) (by rfl) comes1 (pa_cons (pv 2) (pa_cons (pv 5) (pa_cons (pv 6) (pa_cons (pv 4) pa_nil))))))))
  pss_nil)
  (pss_cons (ps_if (pt_cmpR op_eq (pv 1) pe_int (nomark _))
  (pss_one (ps_ret (pe_mkXZ gNInit 2 (by decide) (hr.mono (by decide)) (by rfl) comes1 (pa_cons (pv 2) (pa_cons (pv 5) pa_nil)))))
  pss_nil)
  (pss_cons (ps_if (pt_cmpR op_eq (pv 1) pe_int (nomark _))
  (pss_one (ps_ret (pe_mkXZ gNInit 1 (by decide) (hr.mono (by decide)) (by rfl) comes1 (pa_cons (pv 2) (pa_cons (pv 5) (pa_cons (pv 3) pa_nil))))))
  pss_nil)
  (pss_one (ps_ret (pe_mkXZ gNInit 0 (by decide) (hr.mono (by decide)) (by rfl) comes1 (pa_cons (pv 2) (pa_cons (pv 5) (pa_cons (pv 3) (pa_cons (pv 4) pa_nil)))))))))), ?_⟩
  obtain ⟨hl, hm, ht, hu, h6, h19, hA, hh, hr', hK, w1, w2⟩ := hM
  rcases hK with ⟨rfl, rfl⟩ | ⟨rfl, rfl⟩
  · have h6' : ∀ c ∈ cs, Sp6 c := fun c hc => h6 c (List.mem_append_left _ hc)
    have h19' : cs.length ≤ 19 := by rw [List.append_nil] at h19; exact h19
    refine sq_ifF (b := false) (et_test (ev_eqI (i := 0) (j := 1) (ev_var rfl) ev_c)) rfl ?_
    refine sq_if (et_test (ev_eqI (ev_var rfl) ev_c)) (fun e => ?_) (fun e1 => ?_)
    · obtain ⟨rfl, rfl⟩ := w1 (of_decide_eq_true e)
      exact rd_te ⟨_, rfl, _, rfl, fun z dz nz nd _ => mkNet (E := E) nz nd hl ht h6' h19' hA hh hr' q1 q2⟩
    refine sq_if (et_test (ev_eqI (ev_var rfl) ev_c)) (fun e => ?_) (fun e2 => ?_)
    · obtain rfl := w2 (of_decide_eq_true e) rfl
      exact rd_te ⟨_, rfl, _, rfl, _, rfl, fun z dz nz nd _ => mkNet (E := E) nz nd hl ht h6' h19' hA hh hr' q1 q2⟩
    exact rd_te ⟨_, rfl, _, rfl, _, rfl, _, rfl, fun z dz nz nd _ => mkNet (E := E) nz nd hl ht h6' h19' hA hh hr' q1 q2⟩
  · refine sq_if (b := true) (et_test (ev_eqI (i := 1) (j := 1) (ev_var rfl) ev_c)) (fun _ => ?_) (fun z => nomatch z)
    refine sq_if (et_test (ev_eqI (ev_var rfl) ev_c)) (fun e => ?_) (fun e1 => ?_)
    · obtain ⟨_, rfl⟩ := w1 (of_decide_eq_true e)
      exact rd_te ⟨_, rfl, _, rfl, _, rfl, fun z dz nz nd _ => mkBun (E := E) nz nd hl hm ht hu h6 h19 hA hr' q1 q2⟩
    exact rd_te ⟨_, rfl, _, rfl, _, rfl, _, rfl, fun z dz nz nd _ => mkBun (E := E) nz nd hl hm ht hu h6 h19 hA hr' q1 q2⟩
theorem ok_Refused {cThing cNet cBundle cWireError cBadSize cBadPrice cOutOfFloor cTwice cNoFit cCrowded cBadThing : Addr} {f : Addr} {fd : FuncData} (F : Fun K "_law_refused" "_law_refused" sRefused f fd) (T : Txt K mg cThing cNet cBundle cWireError cBadSize cBadPrice cOutOfFloor cTwice cNoFit cCrowded cBadThing) (gMake : CalleeX P w K mg base "_law_make" 5 ["kind", "way", "name", "half", "room", "ones", "twos"] (spMake cNet cBundle cBadThing)) : FnOk P w K mg base CX0 6 f fd ["kind", "way", "name", "half", "room", "ones", "twos"] spRefused := by
  have sc : FnScope ["kind", "way", "name", "half", "room", "ones", "twos", "e"] ["kind", "way", "name", "half", "room", "ones", "twos"] (defScope sRefused) := ⟨rfl, rfl, rfl, by decide +kernel, rfl, by decide +kernel, by decide +kernel⟩
  refine F.ok sc (fun vs H Q E h => by repeat (first | (obtain ⟨rfl, _⟩ := h; rfl) | (obtain ⟨_, h⟩ := h))) (fun cdv A outer s H vs Q E hr h => ?_)
  obtain ⟨l, m, as, bs, cs, ds, x, kd, wy, h, r, rfl, hM, hd, q⟩ := h
  refine ⟨_, (pss_cons (ps_try1 (i := 7) rfl sc.nd rfl rfl rfl rfl rfl (by rfl) T.eWireError (fun Ex xe pn hx => (pss_one (ps_expr (pe_calX gMake (hr.mono (by decide)) (by rfl) hx (pa_cons (pv 0) (pa_cons (pv 1) (pa_cons (pv 2) (pa_cons (pv 3) (pa_cons (pv 4) (pa_cons (pv 5) (pa_cons (pv 6) pa_nil)))))))))))
  (fun a => (pss_cons (ps_if (pw_or (pt_not (pt_val (pe_callB call_isinstX (by rfl) T.isinstance_ bt_isinstance (pa_cons (pv 7) (pa_cons (pe_globC (by rfl) T.eBadThing.bd) pa_nil))))) (pw_or1 (pt_not (pt_val (pe_callB call_isinstX (by rfl) T.isinstance_ bt_isinstance (pa_cons (pv 7) (pa_cons (pe_bltn (v := .ty "ValueError") (by rfl) T.ValueError_ bt_ValueError (by rfl)) pa_nil))))))).pt
  (pss_one (ps_ret pe_bl))
  pss_nil)
  (pss_cons (ps_if (pw_or (pt_val (pe_callB call_isinstX (by rfl) T.isinstance_ bt_isinstance (pa_cons (pv 7) (pa_cons (pe_globC (by rfl) T.eBadSize) pa_nil)))) (pw_or (pt_val (pe_callB call_isinstX (by rfl) T.isinstance_ bt_isinstance (pa_cons (pv 7) (pa_cons (pe_globC (by rfl) T.eBadPrice) pa_nil)))) (pw_or1 (pt_val (pe_callB call_isinstX (by rfl) T.isinstance_ bt_isinstance (pa_cons (pv 7) (pa_cons (pe_globC (by rfl) T.eOutOfFloor) pa_nil))))))).pt
  (pss_one (ps_ret pe_bl))
  pss_nil)
  (pss_one (ps_ret (pe_and (pe_not (pe_callB call_isinstX (by rfl) T.isinstance_ bt_isinstance (pa_cons (pv 7) (pa_cons (pe_globC (by rfl) T.eTwice) pa_nil)))) (pe_and (pe_not (pe_callB call_isinstX (by rfl) T.isinstance_ bt_isinstance (pa_cons (pv 7) (pa_cons (pe_globC (by rfl) T.eNoFit) pa_nil)))) (pe_one (pe_not (pe_callB call_isinstX (by rfl) T.isinstance_ bt_isinstance (pa_cons (pv 7) (pa_cons (pe_globC (by rfl) T.eCrowded) pa_nil)))))))))))))
  (pss_one (ps_ret pe_bl))), ?_⟩
  refine sq_R (fun _ _ => False) (fun R hR => ?_) (fun _ _ z => z.elim)
  refine ⟨fun σ' C H' => σ' = [some (.int kd), some (.int wy), some (.str x), some (.int h), some (.int r), some (.ref l), some (.ref m), none] ∧ C = .ref cBadThing ∧ Same H H', fun xe pn => ?_, ?_⟩
  · exact ⟨_, rfl, _, rfl, _, rfl, _, rfl, _, rfl, _, rfl, _, rfl, l, m, as, bs, cs, ds, x, kd, wy, h, r, rfl, hM, fun e => absurd (e.symm.trans hd) (by decide), fun _ H' e s => ⟨rfl, rfl, s⟩⟩
  · rintro σ' C H' ⟨rfl, rfl, s⟩
    refine ⟨T.xw, fun u hu => ?_⟩
    have s1 : Same H (upd H' u (excO u (.ref cBadThing))) := s.upd hu
    have eP : upd H' u (excO u (.ref cBadThing)) u = some (excO u (.ref cBadThing)) := upd_same
    revert s1 eP
    generalize upd H' u (excO u (.ref cBadThing)) = H1
    intro s1 eP
    refine sq_ifF (b := false) (et_of (et_or (a := false) (b := false) (et_not (b := true) (et_B (ev_cb (v := .bl true) (ea_cons (ev_var rfl) (ea_cons ev_c ea_nil)) fun Q' q' => ⟨u, cBadThing, _, _, _, rfl, .ref cBadThing, eP, T.eBadThing.ok, T.bb, q'⟩))) fun _ => et_not (b := true) (et_B (ev_cb (v := .bl true) (ea_cons (ev_var rfl) (ea_cons ev_c ea_nil)) fun Q' q' => ⟨u, cBadThing, _, _, _, rfl, .ty "ValueError", eP, T.eBadThing.ok, T.bv, q'⟩))) rfl) rfl ?_
    refine sq_ifF (b := false) (et_of (et_or (a := false) (b := false) (et_B (ev_cb (v := .bl false) (ea_cons (ev_var rfl) (ea_cons ev_c ea_nil)) fun Q' q' => ⟨u, cBadThing, _, _, _, rfl, .ref cBadSize, eP, T.eBadThing.ok, T.b1, q'⟩)) fun _ => et_or (a := false) (b := false) (et_B (ev_cb (v := .bl false) (ea_cons (ev_var rfl) (ea_cons ev_c ea_nil)) fun Q' q' => ⟨u, cBadThing, _, _, _, rfl, .ref cBadPrice, eP, T.eBadThing.ok, T.b2, q'⟩)) fun _ => et_B (ev_cb (v := .bl false) (ea_cons (ev_var rfl) (ea_cons ev_c ea_nil)) fun Q' q' => ⟨u, cBadThing, _, _, _, rfl, .ref cOutOfFloor, eP, T.eBadThing.ok, T.b3, q'⟩)) rfl) rfl ?_
    exact rd_ret (ev_of (ev_and (a := true) (b := true) (ev_not (a := false) (ev_cb (v := .bl false) (ea_cons (ev_var rfl) (ea_cons ev_c ea_nil)) fun Q' q' => ⟨u, cBadThing, _, _, _, rfl, .ref cTwice, eP, T.eBadThing.ok, T.b4, q'⟩)) fun _ => ev_and (a := true) (b := true) (ev_not (a := false) (ev_cb (v := .bl false) (ea_cons (ev_var rfl) (ea_cons ev_c ea_nil)) fun Q' q' => ⟨u, cBadThing, _, _, _, rfl, .ref cNoFit, eP, T.eBadThing.ok, T.b5, q'⟩)) fun _ => ev_not (a := false) (ev_cb (v := .bl false) (ea_cons (ev_var rfl) (ea_cons ev_c ea_nil)) fun Q' q' => ⟨u, cBadThing, _, _, _, rfl, .ref cCrowded, eP, T.eBadThing.ok, T.b6, q'⟩)) rfl) (q _ s1)
theorem te_ends {cN cB : Addr} {H : Hp} {σ : St} {n : Nat} {p : Addr} {kd : Int} {x : Str} {h r : Int} {as bs : List Addr} {Q : VK} (hv : σ[n]? = some (some (.ref p))) (hT : ThAt cN cB H p kd x h r as bs) (hb : kd = 0 → bs = []) (hz : as.length + bs.length ≤ 100) (q : ∀ H' l, Same H H' → H l = none → H' l = some (.lst ((as ++ bs).map V.ref)) → Q (.ref l) H') :
    tMeth2 cN cB "ends" (spNEnds cN) (spBEnds cB) (tVar n) σ H Q := by
  obtain ⟨dx, fs, b, h⟩ := hT
  rcases h with ⟨e, h1, t, h2, h3⟩ | ⟨e, h1, t, u, h2, h3, h4, h5⟩
  · exact ⟨_, hv, p, cN, dx, fs, rfl, h1, b.2.2.2, .inl ⟨rfl, p, dx, t, fs, as, rfl, h1, h2, h3, fun H' l s n e' => q H' l s n (by rw [hb e, List.append_nil]; exact e')⟩⟩
  · exact ⟨_, hv, p, cB, dx, fs, rfl, h1, b.2.2.2, .inr ⟨rfl, p, dx, t, u, fs, as, bs, rfl, h1, h2, h3, h4, h5, hz, q⟩⟩
theorem dp_row {K : PySem.W.Frag} {H : Hp} {l : Addr} {as : List Addr} {cs : List (List Int)} (h : H l = some (.lst (as.map V.ref))) (t : Tups H as cs) : Dp K H (.ref l) (.list (cs.map fun c => PyData.tuple (c.map PyData.int))) := .lst (SqL.of h) (Tups.dps t)
theorem ok_Told {cThing cNet cBundle cWireError cBadSize cBadPrice cOutOfFloor cTwice cNoFit cCrowded cBadThing : Addr} {f : Addr} {fd : FuncData} (F : Fun K "_law_told" "_law_told" sTold f fd) (T : Txt K mg cThing cNet cBundle cWireError cBadSize cBadPrice cOutOfFloor cTwice cNoFit cCrowded cBadThing) (gNEnds : MCallee P w K mg base cNet "ends" 1 ["self"] (spNEnds cNet)) (gBEnds : MCallee P w K mg base cBundle "ends" 1 ["self"] (spBEnds cBundle)) : FnOk P w K mg base CX0 2 f fd ["kind", "thing", "ones", "twos"] (spTold cNet cBundle) := by
  have sc : FnScope ["kind", "thing", "ones", "twos", "ends"] ["kind", "thing", "ones", "twos"] (defScope sTold) := ⟨rfl, rfl, rfl, by decide +kernel, rfl, by decide +kernel, by decide +kernel⟩
  refine F.ok sc (fun vs H Q E h => by repeat (first | (obtain ⟨rfl, _⟩ := h; rfl) | (obtain ⟨_, h⟩ := h))) (fun cdv A outer s H vs Q E hr h => ?_)
  obtain ⟨p, l, m, as, bs, cs, ds, x, kd, h, r, rfl, hT, ht, hu, hl, hm, h19, hK, q⟩ := h
  refine ⟨_, (pss_cons (ps_set (i := 4) sc.nd rfl (Or.inl rfl) (pe_met20 (pv 1) T.cl_Net T.cl_Bundle gNEnds gBEnds (hr.mono (by decide)) (hr.mono (by decide))))
  (pss_cons (ps_if (pw_or (pt_not (pt_val (pe_callB call_isinst (by rfl) T.isinstance_ bt_isinstance (pa_cons (pv 4) (pa_cons (pe_bltn (v := .ty "list") (by rfl) T.list_ bt_list (by rfl)) pa_nil))))) (pw_or1 (pt_cmpR (op_neD hr) (pv 4) (pe_op op_cat (pv 2) (pv 3)) (nomark _)))).pt
  (pss_one (ps_ret pe_bl))
  pss_nil)
  (pss_cons (ps_expr (pe_bm PySem.F.plainAttrs_list PySem.F.slot_list_append PySem.F.type_list_append mt_append (pv 4) (pa_cons (pe_tup (pa_cons pe_int (pa_cons pe_int (pa_cons pe_int pa_nil)))) pa_nil)))
  (pss_cons (ps_if (pt_cmpR (op_neD hr) (pe_met20 (pv 1) T.cl_Net T.cl_Bundle gNEnds gBEnds (hr.mono (by decide)) (hr.mono (by decide))) (pe_op op_cat (pv 2) (pv 3)) (nomark _))
  (pss_one (ps_ret pe_bl))
  pss_nil)
  (pss_cons (ps_if (pt_cmpR op_eq (pv 0) pe_int (nomark _))
  (pss_cons (ps_if (pw_or (pt_not (pt_val (pe_callB call_isinst (by rfl) T.isinstance_ bt_isinstance (pa_cons (pe_fld (pv 1) rfl) (pa_cons (pe_bltn (v := .ty "tuple") (by rfl) T.tuple_ bt_tuple (by rfl)) pa_nil))))) (pw_or1 (pt_not (pt_val (pe_callB call_isinst (by rfl) T.isinstance_ bt_isinstance (pa_cons (pe_fld (pv 1) rfl) (pa_cons (pe_bltn (v := .ty "tuple") (by rfl) T.tuple_ bt_tuple (by rfl)) pa_nil))))))).pt
  (pss_one (ps_ret pe_bl))
  pss_nil)
  (pss_one (ps_ret (pe_and (pe_cmpR (op_eqD hr) (pe_callTy call_list_of (by rfl) T.list_ bt_list (pa_cons (pe_fld (pv 1) rfl) pa_nil)) (pv 2) (nomark _)) (pe_one (pe_cmpR (op_eqD hr) (pe_callTy call_list_of (by rfl) T.list_ bt_list (pa_cons (pe_fld (pv 1) rfl) pa_nil)) (pv 3) (nomark _)))))))
  pss_nil)
  (pss_one (ps_ret (pe_and (pe_callB call_isinst (by rfl) T.isinstance_ bt_isinstance (pa_cons (pe_fld (pv 1) rfl) (pa_cons (pe_bltn (v := .ty "tuple") (by rfl) T.tuple_ bt_tuple (by rfl)) pa_nil))) (pe_one (pe_cmpR (op_eqD hr) (pe_callTy call_list_of (by rfl) T.list_ bt_list (pa_cons (pe_fld (pv 1) rfl) pa_nil)) (pv 2) (nomark _))))))))))), ?_⟩
  have hsz : sizeLine = 2 ^ 24 := rfl
  have len : as.length = cs.length := Paired.length ht
  have len2 : bs.length = ds.length := Paired.length hu
  have hz : cs.length + ds.length ≤ 19 := by rw [← List.length_append]; exact h19
  have hb : kd = 0 → bs = [] := fun e => by
    rcases hK with ⟨_, rfl⟩ | ⟨e', _⟩
    · exact List.eq_nil_of_length_eq_zero len2
    · rw [e'] at e; cases e
  have htu : Tups H (as ++ bs) (cs ++ ds) := tups_app ht hu
  refine sq_asg (te_ends (n := 1) rfl hT hb (by omega) fun H1 e s1 ne he => ?_)
  refine sq_ifof (or_F (et_not (et_B (ev_cb (v := .bl true) (ea_cons (ev_var rfl) (ea_cons ev_c ea_nil)) fun Q' q' => ⟨_, _, _, _, _, rfl, .ty "list", .lst he, T.ll, q'⟩))) rfl ?_)
  refine ⟨_, rfl, _, rfl, _, rfl, l, m, _, _, rfl, rfl, s1 _ _ hl, s1 _ _ hm, by rw [List.length_map, List.length_map]; omega, fun c nc => ?_⟩
  have s2 : Same H1 (upd H1 c (.lst (as.map V.ref ++ bs.map V.ref))) := (Same.refl H1).upd nc
  have hc : upd H1 c (.lst (as.map V.ref ++ bs.map V.ref)) c = some (.lst ((as ++ bs).map V.ref)) := by rw [upd_same, List.map_append]
  revert s2 hc
  generalize upd H1 c (.lst (as.map V.ref ++ bs.map V.ref)) = H2
  intro s2 hc
  have d1 := dp_row (K := K) (s2 _ _ he) (Tups.same htu (s1.trans s2))
  have d2 := dp_row (K := K) hc (Tups.same htu (s1.trans s2))
  refine ⟨_, _, d1, d2, depth_row, _, rfl, ?_⟩
  rw [eqv_same d1]
  refine iteF ?_
  refine te_bm (ev_var rfl) (.inl ⟨rfl, _, SqL.of (s2 _ _ he)⟩) (ta_tup (vs := [.int 0, .int 0, .int 0]) (ea_cons ev_c (ea_cons ev_c (ea_cons ev_c ea_nil))) (by show 3 ≤ sizeLine; decide) fun o no => ⟨e, _, _, rfl, rfl, by rw [upd_ne (ne_of_none (s2 _ _ he) no)]; exact s2 _ _ he, by rw [List.length_map, List.length_append]; omega, ?_⟩)
  have s3 : Same H (upd (upd H2 o (.tup [.int 0, .int 0, .int 0])) e (.lst ((as ++ bs).map V.ref ++ [.ref o]))) := same_at ((s1.trans s2).upd no) ne
  revert s3
  generalize upd (upd H2 o (.tup [.int 0, .int 0, .int 0])) e (.lst ((as ++ bs).map V.ref ++ [.ref o])) = H3
  intro s3
  refine st ?_
  refine sq_ifof (te_ends (n := 1) rfl (hT.same s3) hb (by omega) fun H4 e4 s4 ne4 he4 => ?_)
  refine ⟨_, rfl, _, rfl, l, m, _, _, rfl, rfl, s4 _ _ (s3 _ _ hl), s4 _ _ (s3 _ _ hm), by rw [List.length_map, List.length_map]; omega, fun c5 nc5 => ?_⟩
  have s5 : Same H4 (upd H4 c5 (.lst (as.map V.ref ++ bs.map V.ref))) := (Same.refl H4).upd nc5
  have hc5 : upd H4 c5 (.lst (as.map V.ref ++ bs.map V.ref)) c5 = some (.lst ((as ++ bs).map V.ref)) := by rw [upd_same, List.map_append]
  revert s5 hc5
  generalize upd H4 c5 (.lst (as.map V.ref ++ bs.map V.ref)) = H5
  intro s5 hc5
  have s05 := (s3.trans s4).trans s5
  have d3 := dp_row (K := K) (s5 _ _ he4) (Tups.same htu s05)
  have d4 := dp_row (K := K) hc5 (Tups.same htu s05)
  refine ⟨_, _, d3, d4, depth_row, _, rfl, ?_⟩
  rw [eqv_same d3]
  refine iteF ?_
  obtain ⟨dx, fs, b, hT⟩ := hT.same s05
  have a1 := dp_row (K := K) (s05 _ _ hl) (Tups.same ht s05)
  rcases hT with ⟨rfl, h1, t, h2, h3⟩ | ⟨rfl, h1, t, u, h2, h3, h4, h5⟩
  · refine sq_ifF (b := false) (et_test (ev_eqI (i := 0) (j := 1) (ev_var rfl) ev_c)) rfl ?_
    refine rd_te ?_
    refine (ev_cb (v := .bl true) (ea_cons (ev_fldT (ev_var rfl) h1 T.cl_Net T.na_Net_pins h2) (ea_cons ev_c ea_nil)) fun Q' q' => ⟨_, _, _, _, _, rfl, .ty "tuple", .tup h3, T.tt, q'⟩) _ ⟨_, rfl, iteT ?_⟩
    refine (ev_fldT (ev_var rfl) h1 T.cl_Net T.na_Net_pins h2) _ ⟨t, _, rfl, .inr (SqT.of h3), fun l6 nl6 => ?_⟩
    have s6 : Same H5 (upd H5 l6 (.lst (as.map V.ref))) := (Same.refl H5).upd nl6
    have d6 := dp_row (K := K) (upd_same (H := H5) (a := l6) (o := .lst (as.map V.ref))) (Tups.same ht (s05.trans s6))
    refine ⟨_, rfl, _, _, d6, a1.same s6, depth_row, ?_⟩
    rw [eqv_refl d6.lay]
    exact q _ (s05.trans s6)
  · have a2 := dp_row (K := K) (s05 _ _ hm) (Tups.same hu s05)
    refine sq_if (b := true) (et_test (ev_eqI (i := 1) (j := 1) (ev_var rfl) ev_c)) (fun _ => ?_) (fun z => nomatch z)
    refine sq_ifF (b := false) (et_of (et_or (a := false) (b := false) (et_not (b := true) (et_B (ev_cb (v := .bl true) (ea_cons (ev_fldT (ev_var rfl) h1 T.cl_Bundle T.na_Bundle_starts h2) (ea_cons ev_c ea_nil)) fun Q' q' => ⟨_, _, _, _, _, rfl, .ty "tuple", .tup h4, T.tt, q'⟩))) fun _ => et_not (b := true) (et_B (ev_cb (v := .bl true) (ea_cons (ev_fldT (ev_var rfl) h1 T.cl_Bundle T.na_Bundle_goals h3) (ea_cons ev_c ea_nil)) fun Q' q' => ⟨_, _, _, _, _, rfl, .ty "tuple", .tup h5, T.tt, q'⟩))) rfl) rfl ?_
    refine rd_te ?_
    refine (ev_fldT (ev_var rfl) h1 T.cl_Bundle T.na_Bundle_starts h2) _ ⟨t, _, rfl, .inr (SqT.of h4), fun l6 nl6 => ?_⟩
    have s6 : Same H5 (upd H5 l6 (.lst (as.map V.ref))) := (Same.refl H5).upd nl6
    have d6 := dp_row (K := K) (upd_same (H := H5) (a := l6) (o := .lst (as.map V.ref))) (Tups.same ht (s05.trans s6))
    revert s6 d6
    generalize upd H5 l6 (.lst (as.map V.ref)) = H6
    intro s6 d6
    refine ⟨_, rfl, _, _, d6, a1.same s6, depth_row, _, rfl, ?_⟩
    rw [eqv_refl d6.lay]
    refine iteT ((ev_fldT (ev_var rfl) (s6 _ _ h1) T.cl_Bundle T.na_Bundle_goals h3) _ ⟨u, _, rfl, .inr (SqT.of (s6 _ _ h5)), fun l7 nl7 => ?_⟩)
    have s7 : Same H6 (upd H6 l7 (.lst (bs.map V.ref))) := (Same.refl H6).upd nl7
    have d7 := dp_row (K := K) (upd_same (H := H6) (a := l7) (o := .lst (bs.map V.ref))) (Tups.same hu (s05.trans (s6.trans s7)))
    refine ⟨_, rfl, _, _, d7, a2.same (s6.trans s7), depth_row, ?_⟩
    rw [eqv_refl d7.lay]
    exact q _ (s05.trans (s6.trans s7))
theorem atI_lt {l : List Nat} {i : Int} (h0 : 0 ≤ i) (h1 : i < l.length) : ∃ c, atI l i = some c ∧ c ∈ l := by
  obtain ⟨n, rfl⟩ := Int.eq_ofNat_of_zero_le h0
  have hn : n < l.length := by omega
  exact ⟨l[n], atI_nat (List.getElem?_eq_getElem hn), List.getElem_mem hn⟩
theorem one_len (d : Nat) : (⟨#[d]⟩ : Str).length = 1 := rfl
theorem app_len (x y : Str) : (x ++ y).length = x.length + y.length := by rw [← cp_len, cp_app, List.length_append, cp_len, cp_len]
theorem one_A {d : Nat} (h : d < 128) : A128 (cp ⟨#[d]⟩) := fun e he => by
  have he : e ∈ [d] := he
  rw [List.mem_singleton.mp he]; exact h
theorem sl_A {z : Str} {lo hi : Option Int} (h : A128 (cp z)) : A128 (cp (Txt.slice z lo hi)) := by
  rw [cp_slice]
  exact h.sub fun c hc => List.mem_of_mem_drop (List.mem_of_mem_take hc)
theorem to_len (z : Str) {k : Nat} (h : k ≤ z.length) : (Txt.slice z none (some (k : Int))).length = k := by
  rw [← cp_len, cp_to z h, List.length_take, cp_len]; omega
theorem from_len (z : Str) {k : Nat} (h : k ≤ z.length) : (Txt.slice z (some (k : Int)) none).length = z.length - k := by
  rw [← cp_len, cp_from z h, List.length_drop, cp_len]
theorem ix_sg {S : Str} {n : Int} (hl : (S.length : Int) = n) (hA : A128 (cp S)) {v : Int} (h0 : 0 ≤ v) (h1 : v < n) : ∃ d, atI (cp S) v = some d ∧ d < 128 := by
  obtain ⟨c, h, m⟩ := atI_lt (l := cp S) h0 (by rw [cp_len]; omega)
  exact ⟨c, h, hA c m⟩
theorem ok_LName {cThing cNet cBundle cWireError cBadSize cBadPrice cOutOfFloor cTwice cNoFit cCrowded cBadThing : Addr} {f : Addr} {fd : FuncData} (F : Fun K "_law_name" "_law_name" sLName f fd) (T : Txt K mg cThing cNet cBundle cWireError cBadSize cBadPrice cOutOfFloor cTwice cNoFit cCrowded cBadThing) : FnOk P w K mg base CX0 1 f fd ["cell", "size"] spLName := by
  have sc : FnScope ["cell", "size", "signs", "name", "k"] ["cell", "size"] (defScope sLName) := ⟨rfl, rfl, rfl, by decide +kernel, rfl, by decide +kernel, by decide +kernel⟩
  refine F.ok sc (fun vs H Q E h => by repeat (first | (obtain ⟨rfl, _⟩ := h; rfl) | (obtain ⟨_, h⟩ := h))) (fun cdv A outer s H vs Q E hr h => ?_)
  obtain ⟨c, n, rfl, n1, n12, q⟩ := h
  refine ⟨_, (pss_cons (ps_set (i := 2) sc.nd rfl (Or.inl rfl) pe_str)
  (pss_cons (ps_set (i := 3) sc.nd rfl (Or.inl rfl) (pe_ix ix_str (pv 2) (pe_op op_mod (pv 0) pe_int) (fun _ _ => rfl)))
  (pss_cons (ps_for PassesOwn.never rfl (pi_range2 (by rfl) T.range_ (pa_cons pe_int (pa_cons (pv 1) pa_nil))) (pg_name (i := 4) sc.nd rfl (Or.inl rfl))
  (pss_cons (ps_set (i := 0) sc.nd rfl (Or.inl rfl) (pe_op op_mod (pe_op op_add (pe_op op_mul (pv 0) pe_int) (pv 4)) pe_int))
  (pss_one (ps_set (i := 3) sc.nd rfl (Or.inl rfl) (pe_op op_add_str (pv 3) (pe_ix ix_str (pv 2) (pe_op op_mod (pv 0) pe_int) (fun _ _ => rfl)))))))
  (pss_one (ps_ret (pv 3)))))), ?_⟩
  have hsz : sizeLine = 2 ^ 24 := rfl
  have hS : (Str.ofString "abcdefghijklmnopqrstuvwxyz0123456789").length = 36 := by decide +kernel
  have aS : A128 (cp (Str.ofString "abcdefghijklmnopqrstuvwxyz0123456789")) := A128.of (by decide +kernel)
  have hS' : ((Str.ofString "abcdefghijklmnopqrstuvwxyz0123456789").length : Int) = 36 := by rw [hS]; rfl
  refine sq_set (v := .str (Str.ofString "abcdefghijklmnopqrstuvwxyz0123456789")) ev_c ?_
  generalize Str.ofString "abcdefghijklmnopqrstuvwxyz0123456789" = S at hS aS hS' ⊢
  obtain ⟨d, hd, ld⟩ := ix_sg hS' aS (v := c % 26) (Int.emod_nonneg _ (by decide)) (Int.lt_trans (Int.emod_lt_of_pos _ (by decide)) (by decide))
  refine sq_set (v := .str ⟨#[d]⟩) (ev_ixS (ev_var rfl) (ev_I (ev_var rfl) ev_c (by show (0 : Int) < 26; decide)) (by rw [hS]; omega) hd) ?_
  refine sq_rng2 (i := 1) (j := n) (ea_cons ev_c (ea_cons (ev_var rfl) ea_nil)) ⟨by omega, by omega, by omega, by omega⟩ ?_
  refine for_range (n := (n - 1).toNat) (fun i σ H' => ∃ (c' : Int) (y : Str) (x4 : Option V), σ = [some (.int c'), some (.int n), some (.str S), some (.str y), x4] ∧ H' = H ∧ A128 (cp y) ∧ y.length = i + 1) ⟨c, ⟨#[d]⟩, none, rfl, rfl, one_A ld, rfl⟩ ?_ ?_
  · rintro i σ H' hi ⟨c', y, x4, rfl, rfl, hy, hl⟩
    refine gn ?_
    refine sq_set (v := .int ((c' * 48271 + (1 + (i : Int))) % 2147483647)) (ev_I (ev_I0 (ev_I (ev_var rfl) ev_c (cmR (by decide) (by decide))) (ev_var rfl)) ev_c (by show (0 : Int) < 2147483647; decide)) ?_
    generalize (c' * 48271 + (1 + (i : Int))) % 2147483647 = c2
    obtain ⟨d2, hd2, ld2⟩ := ix_sg hS' aS (v := c2 % 36) (Int.emod_nonneg _ (by decide)) (Int.emod_lt_of_pos _ (by decide))
    refine rd_set (v := .str (y ++ ⟨#[d2]⟩)) (ev_addS (ev_var rfl) (ev_ixS (c := d2) (ev_var rfl) (ev_I (ev_var rfl) ev_c (by show (0 : Int) < 36; decide)) (by rw [hS]; omega) hd2) (by rw [one_len]; omega)) ?_
    exact ⟨c2, _, _, rfl, rfl, by rw [cp_app]; exact hy.app (one_A ld2), by rw [app_len, one_len, hl]⟩
  · rintro σ H' ⟨c', y, x4, rfl, rfl, hy, hl⟩
    exact st (rd_ret (ev_var rfl) (q y _ (Same.refl _) ⟨asc_iff.mpr hy, by omega⟩ (by omega) (by omega)))
theorem ok_Spoiled {cThing cNet cBundle cWireError cBadSize cBadPrice cOutOfFloor cTwice cNoFit cCrowded cBadThing : Addr} {f : Addr} {fd : FuncData} (F : Fun K "_law_name_spoiled" "_law_name_spoiled" sSpoiled f fd) (T : Txt K mg cThing cNet cBundle cWireError cBadSize cBadPrice cOutOfFloor cTwice cNoFit cCrowded cBadThing) : FnOk P w K mg base CX0 1 f fd ["name", "cell"] spSpoiled := by
  have sc : FnScope ["name", "cell", "odd", "way", "at"] ["name", "cell"] (defScope sSpoiled) := ⟨rfl, rfl, rfl, by decide +kernel, rfl, by decide +kernel, by decide +kernel⟩
  refine F.ok sc (fun vs H Q E h => by repeat (first | (obtain ⟨rfl, _⟩ := h; rfl) | (obtain ⟨_, h⟩ := h))) (fun cdv A outer s H vs Q E hr h => ?_)
  obtain ⟨x, c, rfl, ⟨hA, h13⟩, l1, l12, q⟩ := h
  refine ⟨_, (pss_cons (ps_set (i := 2) sc.nd rfl (Or.inl rfl) pe_str)
  (pss_cons (ps_set (i := 3) sc.nd rfl (Or.inl rfl) (pe_op op_mod (pv 1) pe_int))
  (pss_cons (ps_if (pt_cmpR op_eq (pv 3) pe_int (nomark _))
  (pss_one (ps_ret pe_str))
  pss_nil)
  (pss_cons (ps_if (pt_cmpR op_eq (pv 3) pe_int (nomark _))
  (pss_one (ps_ret (pe_slice sl_str (pe_op op_add_str (pv 0) pe_str) po_none (po_some pe_int))))
  pss_nil)
  (pss_cons (ps_if (pt_cmpR op_eq (pv 3) pe_int (nomark _))
  (pss_one (ps_ret (pe_op op_add_str (pe_ix ix_str pe_str (pe_op op_mod (pe_op op_fdivB (pv 1) pe_int) pe_int) (fun _ _ => rfl)) (pe_slice sl_str (pv 0) (po_some pe_int) po_none))))
  pss_nil)
  (pss_cons (ps_set (i := 4) sc.nd rfl (Or.inl rfl) (pe_op op_mod (pe_op op_fdivB (pv 1) pe_int) (pe_callB call_len_str (by rfl) T.len_ bt_len (pa_cons (pv 0) pa_nil))))
  (pss_one (ps_ret (pe_op op_add_str (pe_op op_add_str (pe_slice sl_str (pv 0) po_none (po_some (pv 4))) (pe_ix ix_str (pv 2) (pe_op op_mod (pe_op op_fdivB (pv 1) pe_int) (pe_callB call_len_str (by rfl) T.len_ bt_len (pa_cons (pv 2) pa_nil))) (fun _ _ => rfl))) (pe_slice sl_str (pv 0) (po_some (pe_op op_add (pv 4) pe_int)) po_none)))))))))), ?_⟩
  have hsz : sizeLine = 2 ^ 24 := rfl
  have hx := asc_iff.mp hA
  have hO : (Str.ofString " !#$&'()*+,-./:;<=>?@ABCDEFGHIJKLMNOPQRSTUVWXYZ[]^_{|}~").length = 55 := by decide +kernel
  have aO : A128 (cp (Str.ofString " !#$&'()*+,-./:;<=>?@ABCDEFGHIJKLMNOPQRSTUVWXYZ[]^_{|}~")) := A128.of (by decide +kernel)
  refine sq_set (v := .str (Str.ofString " !#$&'()*+,-./:;<=>?@ABCDEFGHIJKLMNOPQRSTUVWXYZ[]^_{|}~")) ev_c ?_
  generalize Str.ofString " !#$&'()*+,-./:;<=>?@ABCDEFGHIJKLMNOPQRSTUVWXYZ[]^_{|}~" = O at hO aO ⊢
  refine sq_set (v := .int (c % 4)) (ev_I (ev_var rfl) ev_c (by show (0 : Int) < 4; decide)) ?_
  refine sq_if (et_test (ev_eqI (ev_var rfl) ev_c)) (fun _ => rd_ret ev_c (q _ H (Same.refl H) ⟨by decide +kernel, by decide⟩)) (fun _ => ?_)
  refine sq_if (et_test (ev_eqI (ev_var rfl) ev_c)) (fun _ => ?_) (fun _ => ?_)
  · have hM : (Str.ofString "abcdefghijklm").length = 13 := by decide +kernel
    have aM : A128 (cp (Str.ofString "abcdefghijklm")) := A128.of (by decide +kernel)
    refine rd_ret (v := .str (Txt.slice (x ++ Str.ofString "abcdefghijklm") none (some ((13 : Nat) : Int)))) (ev_slTo (ev_addS (ev_var rfl) ev_c (by rw [hM]; omega)) ev_c (by rw [app_len, hM]; omega)) (q _ H (Same.refl H) ⟨asc_iff.mpr (sl_A (by rw [cp_app]; exact hx.app aM)), ?_⟩)
    rw [to_len _ (by rw [app_len, hM]; omega)]
    exact Nat.le_refl _
  refine sq_if (et_test (ev_eqI (ev_var rfl) ev_c)) (fun _ => ?_) (fun _ => ?_)
  · have hF : ((Str.ofString "0123456789").length : Int) = 10 := by decide +kernel
    have aF : A128 (cp (Str.ofString "0123456789")) := A128.of (by decide +kernel)
    obtain ⟨d, hd, ld⟩ := ix_sg hF aF (v := c / 4 % 10) (Int.emod_nonneg _ (by decide)) (Int.emod_lt_of_pos _ (by decide))
    have hfl := from_len x (k := 1) (by omega)
    refine rd_ret (v := .str ((⟨#[d]⟩ : Str) ++ Txt.slice x (some ((1 : Nat) : Int)) none)) (ev_addS (ev_ixS (c := d) ev_c (ev_I (ev_I (ev_var rfl) ev_c (cdB (by decide) (by decide))) ev_c (by show (0 : Int) < 10; decide)) (by omega) hd) (ev_slFrom (i := ((1 : Nat) : Int)) (ev_var rfl) ev_c (by omega)) (by rw [one_len, hfl]; omega)) (q _ H (Same.refl H) ⟨asc_iff.mpr (by rw [cp_app]; exact (one_A ld).app (sl_A hx)), ?_⟩)
    rw [app_len, one_len, hfl]; omega
  have b0 := Int.emod_nonneg (c / 4) (show (x.length : Int) ≠ 0 by omega)
  have b1 := Int.emod_lt_of_pos (c / 4) (show (0 : Int) < x.length by omega)
  obtain ⟨k, hk⟩ := Int.eq_ofNat_of_zero_le b0
  refine sq_set (v := .int (k : Int)) (by rw [← hk]; exact ev_I (ev_I (ev_var rfl) ev_c (cdB (by decide) (by decide))) (ev_lenT (ev_var rfl) (by omega)) (by show (0 : Int) < x.length; omega)) ?_
  have hkl : k < x.length := by omega
  have hO' : (O.length : Int) = 55 := by rw [hO]; rfl
  obtain ⟨d, hd, ld⟩ := ix_sg hO' aO (v := c / 48 % 55) (Int.emod_nonneg _ (by decide)) (Int.emod_lt_of_pos _ (by decide))
  have htl := to_len x (k := k) (by omega)
  have hfl := from_len x (k := k + 1) (by omega)
  refine rd_ret (v := .str ((Txt.slice x none (some (k : Int)) ++ (⟨#[d]⟩ : Str)) ++ Txt.slice x (some ((k + 1 : Nat) : Int)) none)) (ev_addS (ev_addS (ev_slTo (ev_var rfl) (ev_var rfl) (by omega)) (ev_ixS (c := d) (i := c / 48 % 55) (ev_var rfl) (ev_of (ev_I (ev_I (ev_var rfl) ev_c (cdB (by decide) (by decide))) (ev_lenT (x := O) (ev_var rfl) (by rw [hO]; omega)) (by show (0 : Int) < O.length; omega)) (by rw [hO'])) (by rw [hO]; omega) hd) (by rw [htl, one_len]; omega)) (ev_slFrom (i := ((k + 1 : Nat) : Int)) (ev_var rfl) (ev_of (ev_I0 (i := (k : Int)) (j := 1) (g := fun i j => V.int (i + j)) (ev_var rfl) ev_c) rfl) (by omega)) (by rw [app_len, htl, one_len, hfl]; omega)) (q _ H (Same.refl H) ⟨asc_iff.mpr ?_, ?_⟩)
  · rw [cp_app, cp_app]
    exact ((sl_A hx).app (one_A ld)).app (sl_A hx)
  · rw [app_len, app_len, htl, one_len, hfl]; omega
theorem ok_Doubled {cThing cNet cBundle cWireError cBadSize cBadPrice cOutOfFloor cTwice cNoFit cCrowded cBadThing : Addr} {f : Addr} {fd : FuncData} (F : Fun K "_law_doubled" "_law_doubled" sDoubled f fd) (T : Txt K mg cThing cNet cBundle cWireError cBadSize cBadPrice cOutOfFloor cTwice cNoFit cCrowded cBadThing) : FnOk P w K mg base CX0 1 f fd ["spots", "cell"] spDoubled := by
  have sc : FnScope ["spots", "cell", "many", "at", "other"] ["spots", "cell"] (defScope sDoubled) := ⟨rfl, rfl, rfl, by decide +kernel, rfl, by decide +kernel, by decide +kernel⟩
  refine F.ok sc (fun vs H Q E h => by repeat (first | (obtain ⟨rfl, _⟩ := h; rfl) | (obtain ⟨_, h⟩ := h))) (fun cdv A outer s H vs Q E hr h => ?_)
  obtain ⟨l, cs, c, rfl, ⟨as, hl, ht⟩, h19, q⟩ := h
  refine ⟨_, (pss_cons (ps_set (i := 2) sc.nd rfl (Or.inl rfl) (pe_callB call_len (by rfl) T.len_ bt_len (pa_cons (pv 0) pa_nil)))
  (pss_cons (ps_if (pt_cmpR op_lt (pv 2) pe_int (nomark _))
  (pss_one (ps_ret (pv 0)))
  pss_nil)
  (pss_cons (ps_set (i := 3) sc.nd rfl (Or.inl rfl) (pe_op op_mod (pv 1) (pv 2)))
  (pss_cons (ps_set (i := 4) sc.nd rfl (Or.inl rfl) (pe_op op_mod (pe_op op_add (pe_op op_add (pv 3) pe_int) (pe_op op_mod (pe_op op_fdivB (pv 1) (pv 2)) (pe_op op_sub (pv 2) pe_int))) (pv 2)))
  (pss_one (ps_ret (pe_op op_cat (pe_op op_cat (pe_slice sl_list (pv 0) po_none (po_some (pv 3))) (pe_lst (pa_cons (pe_ix ix_list (pv 0) (pv 4) (fun _ _ => rfl)) pa_nil))) (pe_slice sl_list (pv 0) (po_some (pe_op op_add (pv 3) pe_int)) po_none)))))))), ?_⟩
  have hsz : sizeLine = 2 ^ 24 := rfl
  have len : as.length = cs.length := Paired.length ht
  refine sq_set (v := .int (as.length : Nat)) (ev_cb (ea_cons (ev_var rfl) ea_nil) fun Q' q' => ⟨_, _, rfl, .inl ⟨_, SqL.of hl, (by rw [List.length_map])⟩, q'⟩) ?_
  refine sq_if (et_test (ev_lt (ev_var rfl) ev_c)) (fun e => rd_ret (ev_var rfl) (q H l cs (Same.refl H) ⟨as, hl, ht⟩ rfl (fun _ h => h))) (fun e => ?_)
  have h2 : ¬ ((as.length : Int) < 2) := of_decide_eq_false e
  have b0 := Int.emod_nonneg c (show (as.length : Int) ≠ 0 by omega)
  have b1 := Int.emod_lt_of_pos c (show (0 : Int) < as.length by omega)
  obtain ⟨k, hk⟩ := Int.eq_ofNat_of_zero_le b0
  refine sq_set (v := .int (k : Int)) (by rw [← hk]; exact ev_I (ev_var rfl) (ev_var rfl) (by show (0 : Int) < as.length; omega)) ?_
  have d0 := Int.emod_nonneg ((k : Int) + 1 + c / as.length % (as.length - 1)) (show (as.length : Int) ≠ 0 by omega)
  have d1 := Int.emod_lt_of_pos ((k : Int) + 1 + c / as.length % (as.length - 1)) (show (0 : Int) < as.length by omega)
  refine sq_set (v := .int (((k : Int) + 1 + c / as.length % (as.length - 1)) % as.length)) (ev_I (ev_I0 (ev_I0 (ev_var rfl) ev_c) (ev_I (ev_I (ev_var rfl) (ev_var rfl) (cdB (by omega) (by omega))) (ev_I0 (ev_var rfl) ev_c) (by show (0 : Int) < as.length - 1; omega))) (ev_var rfl) (by show (0 : Int) < as.length; omega)) ?_
  generalize ((k : Int) + 1 + c / as.length % (as.length - 1)) % as.length = o at d0 d1 ⊢
  have hkl : k < as.length := by omega
  obtain ⟨b, hb, hbA⟩ := at_of (xs := as) d0 d1
  obtain ⟨e1, he1, hbe⟩ := tups_at ht hb
  refine rd_te (te_op (te_op ⟨_, rfl, _, rfl, _, rfl, l, _, rfl, SqL.of hl, fun p1 np1 => ?_⟩))
  have s1 : Same H (upd H p1 (.lst (cutV (as.map V.ref) none (some (k : Int))))) := (Same.refl H).upd np1
  have hp1 : upd H p1 (.lst (cutV (as.map V.ref) none (some (k : Int)))) p1 = some (.lst ((as.take k).map V.ref)) := by rw [upd_same, cut_to _ _ (by rw [List.length_map]; omega), List.map_take]
  revert s1 hp1
  generalize upd H p1 (.lst (cutV (as.map V.ref) none (some (k : Int)))) = H1
  intro s1 hp1
  refine te_lst (vs := [.ref b]) (ea_cons (ev_ixL (v := .ref b) (ev_var rfl) (ev_var rfl) (SqL.of (s1 _ _ hl)) hbA) ea_nil) (by show 1 ≤ sizeLine; decide) fun p2 np2 => ?_
  have s2 : Same H1 (upd H1 p2 (.lst [.ref b])) := (Same.refl H1).upd np2
  have hp2 : upd H1 p2 (.lst [.ref b]) p2 = some (.lst [.ref b]) := upd_same
  revert s2 hp2
  generalize upd H1 p2 (.lst [.ref b]) = H2
  intro s2 hp2
  refine ⟨p1, p2, _, _, rfl, rfl, s2 _ _ hp1, hp2, by rw [List.length_map, List.length_take]; show _ + 1 ≤ _; omega, fun p3 np3 => ?_⟩
  have s3 : Same H2 (upd H2 p3 (.lst ((as.take k).map V.ref ++ [.ref b]))) := (Same.refl H2).upd np3
  have hp3 : upd H2 p3 (.lst ((as.take k).map V.ref ++ [.ref b])) p3 = some (.lst ((as.take k).map V.ref ++ [.ref b])) := upd_same
  revert s3 hp3
  generalize upd H2 p3 (.lst ((as.take k).map V.ref ++ [.ref b])) = H3
  intro s3 hp3
  have s03 := (s1.trans s2).trans s3
  refine ⟨_, rfl, _, rfl, _, _, rfl, rfl, _, rfl, l, _, rfl, SqL.of (s03 _ _ hl), fun p4 np4 => ?_⟩
  have s4 : Same H3 (upd H3 p4 (.lst (cutV (as.map V.ref) (some ((k : Int) + 1)) none))) := (Same.refl H3).upd np4
  have hp4 : upd H3 p4 (.lst (cutV (as.map V.ref) (some ((k : Int) + 1)) none)) p4 = some (.lst ((as.drop (k + 1)).map V.ref)) := by rw [upd_same, show (k : Int) + 1 = ((k + 1 : Nat) : Int) by omega, cut_of _ _ (by rw [List.length_map]; omega), List.map_drop]
  revert s4 hp4
  generalize upd H3 p4 (.lst (cutV (as.map V.ref) (some ((k : Int) + 1)) none)) = H4
  intro s4 hp4
  refine ⟨p3, p4, _, _, rfl, rfl, s4 _ _ hp3, hp4, by rw [List.length_append, List.length_map, List.length_map, List.length_take, List.length_drop]; show _ + 1 + _ ≤ _; omega, fun p5 np5 => ?_⟩
  have s05 := (s03.trans s4).upd (o := .lst ((as.take k).map V.ref ++ [.ref b] ++ (as.drop (k + 1)).map V.ref)) np5
  refine q _ p5 (cs.take k ++ [e1] ++ cs.drop (k + 1)) s05 ⟨as.take k ++ [b] ++ as.drop (k + 1), by rw [upd_same, List.map_append, List.map_append]; rfl, Tups.same (tups_app (tups_app (tups_take ht k) (.cons hbe .nil)) (tups_drop ht (k + 1))) s05⟩ ?_ ?_
  · rw [List.length_append, List.length_append, List.length_take, List.length_drop]; show _ + 1 + _ = _; omega
  · intro d hd
    rcases List.mem_append.mp hd with hd | hd
    · rcases List.mem_append.mp hd with hd | hd
      · exact List.mem_of_mem_take hd
      · rw [List.mem_singleton.mp hd]; exact List.mem_of_getElem? he1
    · exact List.mem_of_mem_drop hd
theorem due_no {kd : Int} {x : Str} {h r : Int} {cs ds : List (List Int)} (hK : Kd kd h ds) (e : ¬ (cs ++ ds).Nodup) : due kd x h r cs ds = false := by
  rcases hK with ⟨rfl, rfl⟩ | ⟨rfl, rfl⟩
  · rw [due_net]; rw [List.append_nil] at e; exact net_no3 e
  · rw [due_bun]; exact bun_no4 e
theorem nd_six {cs : List (List Int)} {i : Nat} {c : List Int} (h : (cs.take i).Nodup) (hc : cs[i]? = some c) (n : c ∉ cs.take i) : (cs.take (i + 1)).Nodup := by
  rw [take_one hc, List.nodup_append]
  exact ⟨h, List.nodup_cons.mpr ⟨List.not_mem_nil, List.nodup_nil⟩, fun a ha b hb e => n (by rw [List.mem_singleton.mp hb] at e; rw [← e]; exact ha)⟩
theorem nd_bad {cs : List (List Int)} {i : Nat} {c : List Int} (hc : cs[i]? = some c) (n : c ∈ cs.take i) : ¬ cs.Nodup := fun nd => nd_take nd hc n
theorem out2 {n a b : Nat} : (decide ((n : Int) < (a : Int)) || decide ((b : Int) < (n : Int))) = !(decide (a ≤ n) && decide (n ≤ b)) := by
  have e1 : decide ((n : Int) < (a : Int)) = !decide (a ≤ n) := by
    by_cases h : a ≤ n
    · rw [decide_eq_true h, decide_eq_false (by omega)]; rfl
    · rw [decide_eq_false h, decide_eq_true (by omega)]; rfl
  have e2 : decide ((b : Int) < (n : Int)) = !decide (n ≤ b) := by
    by_cases h : n ≤ b
    · rw [decide_eq_true h, decide_eq_false (by omega)]; rfl
    · rw [decide_eq_false h, decide_eq_true (by omega)]; rfl
  rw [e1, e2, Bool.not_and]
theorem th_six (x : Str) (h r : Int) : thOk x h r = (good x && (decide (0 ≤ h) && (decide (h ≤ 2) && (decide (0 ≤ r) && decide (r ≤ 3))))) := by
  unfold thOk
  simp only [Bool.and_assoc]
theorem ok_Due {cThing cNet cBundle cWireError cBadSize cBadPrice cOutOfFloor cTwice cNoFit cCrowded cBadThing : Addr} {f : Addr} {fd : FuncData} (F : Fun K "_law_due" "_law_due" sDue f fd) (T : Txt K mg cThing cNet cBundle cWireError cBadSize cBadPrice cOutOfFloor cTwice cNoFit cCrowded cBadThing) (gGood : Callee P w K mg base "_law_good_name" 1 ["name"] spGood) : FnOk P w K mg base CX0 2 f fd ["kind", "name", "half", "room", "ones", "twos"] spDue := by
  have sc : FnScope ["kind", "name", "half", "room", "ones", "twos", "spots", "k"] ["kind", "name", "half", "room", "ones", "twos"] (defScope sDue) := ⟨rfl, rfl, rfl, by decide +kernel, rfl, by decide +kernel, by decide +kernel⟩
  refine F.ok sc (fun vs H Q E h => by repeat (first | (obtain ⟨rfl, _⟩ := h; rfl) | (obtain ⟨_, h⟩ := h))) (fun cdv A outer s H vs Q E hr h => ?_)
  obtain ⟨l, m, cs, ds, x, kd, h, r, rfl, ⟨as, hl, ht⟩, ⟨bs, hm, hu⟩, h6, h19, hA, hK, q⟩ := h
  refine ⟨_, (pss_cons (ps_set (i := 6) sc.nd rfl (Or.inl rfl) (pe_op op_cat (pv 4) (pv 5)))
  (pss_cons (ps_for PassesOwn.never rfl (pi_range1 (by rfl) T.range_ (pa_cons (pe_callB call_len (by rfl) T.len_ bt_len (pa_cons (pv 6) pa_nil)) pa_nil)) (pg_name (i := 7) sc.nd rfl (Or.inl rfl))
  (pss_one (ps_if (pt_cmpR (op_inT hr) (pe_ix ix_list (pv 6) (pv 7) (fun _ _ => rfl)) (pe_slice sl_list (pv 6) po_none (po_some (pv 7))) (by with_unfolding_all rfl))
  (pss_one (ps_ret pe_bl))
  pss_nil)))
  (pss_cons (ps_if (pw_and (pt_cmpR op_eq (pv 0) pe_int (nomark _)) (pw_and1 (pw_or (pt_cmpR op_lt (pe_callB call_len (by rfl) T.len_ bt_len (pa_cons (pv 4) pa_nil)) pe_int (nomark _)) (pw_or1 (pt_cmpR op_gt (pe_callB call_len (by rfl) T.len_ bt_len (pa_cons (pv 4) pa_nil)) pe_int (nomark _)))).pt)).pt
  (pss_one (ps_ret pe_bl))
  pss_nil)
  (pss_cons (ps_if (pw_and (pt_cmpR op_eq (pv 0) pe_int (nomark _)) (pw_and1 (pw_or (pt_cmpR op_lt (pe_callB call_len (by rfl) T.len_ bt_len (pa_cons (pv 4) pa_nil)) pe_int (nomark _)) (pw_or (pt_cmpR op_gt (pe_callB call_len (by rfl) T.len_ bt_len (pa_cons (pv 4) pa_nil)) pe_int (nomark _)) (pw_or (pt_cmpR op_lt (pe_callB call_len (by rfl) T.len_ bt_len (pa_cons (pv 5) pa_nil)) (pe_callB call_len (by rfl) T.len_ bt_len (pa_cons (pv 4) pa_nil)) (nomark _)) (pw_or1 (pt_cmpR op_gt (pe_callB call_len (by rfl) T.len_ bt_len (pa_cons (pv 5) pa_nil)) pe_int (nomark _)))))).pt)).pt
  (pss_one (ps_ret pe_bl))
  pss_nil)
  (pss_one (ps_ret (pe_and (pe_cal gGood (hr.mono (by decide)) (by rfl) (pa_cons (pv 1) pa_nil)) (pe_and (pe_cmpR op_le pe_int (pv 2) (nomark _)) (pe_and (pe_cmpR op_le (pv 2) pe_int (nomark _)) (pe_and (pe_cmpR op_le pe_int (pv 3) (nomark _)) (pe_one (pe_cmpR op_le (pv 3) pe_int (nomark _))))))))))))), ?_⟩
  have hsz : sizeLine = 2 ^ 24 := rfl
  have len : as.length = cs.length := Paired.length ht
  have len2 : bs.length = ds.length := Paired.length hu
  have hz : cs.length + ds.length ≤ 19 := by rw [← List.length_append]; exact h19
  refine sq_asg ⟨_, rfl, _, rfl, l, m, _, _, rfl, rfl, hl, hm, by rw [List.length_map, List.length_map]; omega, fun p np => ?_⟩
  have s1 : Same H (upd H p (.lst (as.map V.ref ++ bs.map V.ref))) := (Same.refl H).upd np
  have hp : upd H p (.lst (as.map V.ref ++ bs.map V.ref)) p = some (.lst ((as ++ bs).map V.ref)) := by rw [upd_same, List.map_append]
  revert s1 hp
  generalize upd H p (.lst (as.map V.ref ++ bs.map V.ref)) = H1
  intro s1 hp
  have hab : Tups H1 (as ++ bs) (cs ++ ds) := Tups.same (tups_app ht hu) s1
  have lab : (as ++ bs).length = (cs ++ ds).length := Paired.length hab
  refine sq_rng1 (j := ((as ++ bs).length : Nat)) (ea_cons (ev_cb (v := .int ((as ++ bs).length : Nat)) (ea_cons (ev_var rfl) ea_nil) fun Q' q' => ⟨_, _, rfl, .inl ⟨_, SqL.of hp, (by rw [List.length_map])⟩, q'⟩) ea_nil) (by omega) (by omega) ?_
  refine for_range (n := ((as ++ bs).length : Int).toNat) (fun i σ H' => ∃ x7 : Option V, σ = [some (.int kd), some (.str x), some (.int h), some (.int r), some (.ref l), some (.ref m), some (.ref p), x7] ∧ Same H1 H' ∧ ((cs ++ ds).take i).Nodup) ⟨none, rfl, Same.refl H1, List.nodup_nil⟩ ?_ ?_
  · rintro i σ H2 hi ⟨x7, rfl, s2, nd⟩
    have hi : i < (as ++ bs).length := by have hi : i < ((as ++ bs).length : Int).toNat := hi; omega
    obtain ⟨b, hb⟩ : ∃ b, (as ++ bs)[i]? = some b := ⟨_, List.getElem?_eq_getElem hi⟩
    obtain ⟨c, hc, hbc⟩ := tups_at hab hb
    refine gn ?_
    rw [Int.zero_add]
    refine if_of ?_
    refine (ev_ixL (v := .ref b) (ev_var rfl) (ev_var rfl) (SqL.of (s2 _ _ hp)) (atI_nat (by rw [List.getElem?_map, hb]; rfl))) _ ?_
    refine ⟨_, rfl, _, rfl, _, rfl, p, _, rfl, SqL.of (s2 _ _ hp), fun p3 np3 => ?_⟩
    have s3 : Same H2 (upd H2 p3 (.lst (cutV ((as ++ bs).map V.ref) none (some (i : Int))))) := (Same.refl H2).upd np3
    have hp3 : upd H2 p3 (.lst (cutV ((as ++ bs).map V.ref) none (some (i : Int)))) p3 = some (.lst (((as ++ bs).take i).map V.ref)) := by rw [upd_same, cut_to _ _ (by rw [List.length_map]; omega), List.map_take]
    revert s3 hp3
    generalize upd H2 p3 (.lst (cutV ((as ++ bs).map V.ref) none (some (i : Int)))) = H3
    intro s3 hp3
    refine ⟨b, p3, (as ++ bs).take i, c, (cs ++ ds).take i, rfl, rfl, s3 _ _ (s2 _ _ hbc), SqL.of hp3, Tups.same (tups_take hab i) (s2.trans s3), _, rfl, ?_⟩
    by_cases hin : c ∈ (cs ++ ds).take i
    · rw [decide_eq_true hin]
      have q' := q H3 (s1.trans (s2.trans s3))
      rw [due_no hK (nd_bad hc hin)] at q'
      exact iteT (rd_ret ev_c q')
    · rw [decide_eq_false hin]
      exact iteF ⟨_, rfl, s2.trans s3, nd_six nd hc hin⟩
  · rintro σ H2 ⟨x7, rfl, s2, nd⟩
    rw [show ((as ++ bs).length : Int).toNat = (cs ++ ds).length by rw [lab]; rfl, List.take_length] at nd
    have s02 := s1.trans s2
    have lenO : ∀ {σ : St}, σ[4]? = some (some (.ref l)) → Ev (tCB (fun xs H Q => ∃ x n, xs = [x] ∧ LenV K x H n ∧ Q (.int (n : Nat)) H) (tCons (tVar 4) tNil)) σ H2 (.int (cs.length : Nat)) := fun e => ev_cb (ea_cons (ev_var e) ea_nil) fun Q' q' => ⟨_, _, rfl, .inl ⟨_, SqL.of (s02 _ _ hl), (by rw [List.length_map, len])⟩, q'⟩
    have lenT : ∀ {σ : St}, σ[5]? = some (some (.ref m)) → Ev (tCB (fun xs H Q => ∃ x n, xs = [x] ∧ LenV K x H n ∧ Q (.int (n : Nat)) H) (tCons (tVar 5) tNil)) σ H2 (.int (ds.length : Nat)) := fun e => ev_cb (ea_cons (ev_var e) ea_nil) fun Q' q' => ⟨_, _, rfl, .inl ⟨_, SqL.of (s02 _ _ hm), (by rw [List.length_map, len2])⟩, q'⟩
    have fin : ∀ {σ : St} {D : Ends}, σ[1]? = some (some (.str x)) → σ[2]? = some (some (.int h)) → σ[3]? = some (some (.int r)) → (∀ H', Same H H' → D.rt (.bl (thOk x h r)) H') → tRet (tAndV (tCall spGood [] E0 (tCons (tVar 1) tNil)) (tAndV (tOp (rI0 fun i j => .bl (decide (i ≤ j))) (tC (.int 0)) (tVar 2)) (tAndV (tOp (rI0 fun i j => .bl (decide (i ≤ j))) (tVar 2) (tC (.int 2))) (tAndV (tOp (rI0 fun i j => .bl (decide (i ≤ j))) (tC (.int 0)) (tVar 3)) (tOp (rI0 fun i j => .bl (decide (i ≤ j))) (tVar 3) (tC (.int 3))))))) D σ H2 := fun {σ D} v1 v2 v3 k => by
      refine rd_te ⟨_, v1, x, rfl, hA, fun H3 s3 => ⟨_, rfl, ?_⟩⟩
      have k' := k H3 (s02.trans s3)
      rw [th_six] at k'
      cases e : good x with
      | false => rw [e] at k'; exact iteF k'
      | true =>
        rw [e] at k'
        exact iteT ((ev_and (ev_le ev_c (ev_var v2)) fun _ => ev_and (ev_le (ev_var v2) ev_c) fun _ => ev_and (ev_le ev_c (ev_var v3)) fun _ => ev_le (ev_var v3) ev_c) _ k')
    refine st ?_
    rcases hK with ⟨rfl, rfl⟩ | ⟨rfl, rfl⟩
    · rw [List.append_nil] at nd
      refine sq_if (b := !(decide (2 ≤ cs.length) && decide (cs.length ≤ 6))) (et_of (et_and (a := true) (et_test (ev_eqI (i := 0) (j := 0) (ev_var rfl) ev_c)) fun _ => et_of (et_or (et_test (ev_lt (lenO rfl) ev_c)) fun _ => et_test (ev_gt (lenO rfl) ev_c)) (out2 (a := 2) (b := 6))) (Bool.true_and _)) (fun e => ?_) (fun e => ?_)
      · have q' := q H2 s02
        rw [due_net, net_no2 (nb e)] at q'
        exact rd_ret ev_c q'
      refine sq_ifF (b := false) (et_of (et_and (a := false) (b := false) (et_test (ev_eqI (i := 0) (j := 1) (ev_var rfl) ev_c)) fun z => nomatch z) rfl) rfl ?_
      refine fin rfl rfl rfl fun H' s => ?_
      have q' := q H' s
      rw [due_net] at q'
      unfold netOk at q'
      rw [decide_eq_true nd, Bool.and_true, Bool.and_assoc, nb' e, Bool.and_true] at q'
      exact q'
    · refine sq_ifF (b := false) (et_of (et_and (a := false) (b := false) (et_test (ev_eqI (i := 1) (j := 0) (ev_var rfl) ev_c)) fun z => nomatch z) rfl) rfl ?_
      refine sq_if (b := !(decide (1 ≤ cs.length) && decide (cs.length ≤ 6)) || !(decide (cs.length ≤ ds.length) && decide (ds.length ≤ 12))) (et_of (et_and (a := true) (et_test (ev_eqI (i := 1) (j := 1) (ev_var rfl) ev_c)) fun _ => et_of (et_or (et_test (ev_lt (lenO rfl) ev_c)) fun _ => et_or (et_test (ev_gt (lenO rfl) ev_c)) fun _ => et_or (et_test (ev_lt (lenT rfl) (lenO rfl))) fun _ => et_test (ev_gt (lenT rfl) ev_c)) (by rw [← Bool.or_assoc]; exact congr (congrArg _ (out2 (a := 1) (b := 6))) (out2 (b := 12)))) (Bool.true_and _)) (fun e => ?_) (fun e => ?_)
      · have q' := q H2 s02
        rw [due_bun] at q'
        have eb : bunOk x r cs ds = false := by
          rcases (Bool.or_eq_true _ _).mp e with e | e
          · exact bun_no2 (nb e)
          · exact bun_no3 (nb e)
        rw [eb] at q'
        exact rd_ret ev_c q'
      have e' := (Bool.or_eq_false_iff).mp e
      have e1 := nb' e'.1
      have e2 := nb' e'.2
      refine fin rfl rfl rfl fun H' s => ?_
      have q' := q H' s
      rw [due_bun] at q'
      cases et : thOk x 0 r with
      | false => rw [bun_no1 et] at q'; exact q'
      | true => rw [bun_yes et e1 e2 nd] at q'; exact q'
theorem ok_LMany {cThing cNet cBundle cWireError cBadSize cBadPrice cOutOfFloor cTwice cNoFit cCrowded cBadThing : Addr} {f : Addr} {fd : FuncData} (F : Fun K "_law_many" "_law_many" sLMany f fd) (T : Txt K mg cThing cNet cBundle cWireError cBadSize cBadPrice cOutOfFloor cTwice cNoFit cCrowded cBadThing) : FnOk P w K mg base CX0 1 f fd ["kind", "spoil", "cell", "other"] spLMany := by
  have sc : FnScope ["kind", "spoil", "cell", "other", "starts", "goals"] ["kind", "spoil", "cell", "other"] (defScope sLMany) := ⟨rfl, rfl, rfl, by decide +kernel, rfl, by decide +kernel, by decide +kernel⟩
  refine F.ok sc (fun vs H Q E h => by repeat (first | (obtain ⟨rfl, _⟩ := h; rfl) | (obtain ⟨_, h⟩ := h))) (fun cdv A outer s H vs Q E hr h => ?_)
  obtain ⟨kd, sl, c, o, rfl, q⟩ := h
  refine ⟨_, (pss_cons (ps_if (pt_cmpR op_eq (pv 0) pe_int (nomark _))
  (pss_cons (ps_if (pt_cmpR op_eq (pv 1) pe_int (nomark _))
  (pss_one (ps_ret (pe_tup (pa_cons (pe_ix ix_list (pe_lst (pa_cons pe_int (pa_cons pe_int (pa_cons pe_int (pa_cons pe_int pa_nil))))) (pe_op op_mod (pv 2) pe_int) (fun _ _ => rfl)) (pa_cons pe_int pa_nil)))))
  pss_nil)
  (pss_one (ps_ret (pe_tup (pa_cons (pe_op op_add pe_int (pe_op op_mod (pv 2) pe_int)) (pa_cons pe_int pa_nil))))))
  pss_nil)
  (pss_cons (ps_set (i := 4) sc.nd rfl (Or.inl rfl) (pe_op op_add pe_int (pe_op op_mod (pv 2) pe_int)))
  (pss_cons (ps_set (i := 5) sc.nd rfl (Or.inl rfl) (pe_op op_add (pv 4) (pe_op op_mod (pv 3) (pe_op op_sub pe_int (pv 4)))))
  (pss_cons (ps_if (pw_or (pt_cmpR op_eq (pv 1) pe_int (nomark _)) (pw_or1 (pt_cmpR op_eq (pv 1) pe_int (nomark _)))).pt
  (pss_one (ps_ret (pe_ix ix_list (pe_lst (pa_cons (pe_tup (pa_cons pe_int (pa_cons pe_int pa_nil))) (pa_cons (pe_tup (pa_cons pe_int (pa_cons pe_int pa_nil))) (pa_cons (pe_tup (pa_cons (pv 4) (pa_cons (pe_op op_sub (pv 4) pe_int) pa_nil))) (pa_cons (pe_tup (pa_cons (pv 4) (pa_cons pe_int pa_nil))) (pa_cons (pe_tup (pa_cons pe_int (pa_cons pe_int pa_nil))) (pa_cons (pe_tup (pa_cons (pv 4) (pa_cons (pe_op op_fdivB (pv 4) pe_int) pa_nil))) pa_nil))))))) (pe_op op_mod (pv 3) pe_int) (fun _ _ => rfl))))
  pss_nil)
  (pss_one (ps_ret (pe_tup (pa_cons (pv 4) (pa_cons (pv 5) pa_nil))))))))), ?_⟩
  have hsz : sizeLine = 2 ^ 24 := rfl
  have fin : ∀ (H' : Hp) (t : Addr) (a b : Int), Same H H' → H t = none → H' t = some (.tup [.int a, .int b]) → 0 ≤ a → 0 ≤ b → a + b ≤ 19 → (kd = 0 → b = 0) → Q (.ref t) H' := fun H' t a b s n e a0 b0 ab k => by
    obtain ⟨a, rfl⟩ := Int.eq_ofNat_of_zero_le a0
    obtain ⟨b, rfl⟩ := Int.eq_ofNat_of_zero_le b0
    exact q H' t a b s n e (by omega) (fun z => by have := k z; omega)
  refine sq_if (et_test (ev_eqI (ev_var rfl) ev_c)) (fun e => ?_) (fun e => ?_)
  · have hk := of_decide_eq_true e
    refine sq_if (et_test (ev_eqI (ev_var rfl) ev_c)) (fun _ => ?_) (fun _ => ?_)
    · have b0 := Int.emod_nonneg c (show (4 : Int) ≠ 0 by decide)
      have b1 := Int.emod_lt_of_pos c (show (0 : Int) < 4 by decide)
      have ev : ∃ v : Int, atI [V.int 0, V.int 1, V.int 7, V.int 8] (c % 4) = some (.int v) ∧ 0 ≤ v ∧ v ≤ 8 := by
        have hA : c % 4 = 0 ∨ c % 4 = 1 ∨ c % 4 = 2 ∨ c % 4 = 3 := by omega
        rcases hA with e | e | e | e <;> rw [e]
        · exact ⟨_, rfl, by decide, by decide⟩
        · exact ⟨_, rfl, by decide, by decide⟩
        · exact ⟨_, rfl, by decide, by decide⟩
        · exact ⟨_, rfl, by decide, by decide⟩
      obtain ⟨v, ev, v0, v1⟩ := ev
      refine rd_te (ta_one (te_op (te_lst (vs := [.int 0, .int 1, .int 7, .int 8]) (ea_cons ev_c (ea_cons ev_c (ea_cons ev_c (ea_cons ev_c ea_nil)))) (by show 4 ≤ sizeLine; decide) fun p np => ?_)))
      refine (ev_I (ev_var rfl) ev_c (by show (0 : Int) < 4; decide)) _ ⟨p, _, _, .int v, rfl, rfl, SqL.of upd_same, ev, ?_⟩
      have s1 : Same H (upd H p (.lst [.int 0, .int 1, .int 7, .int 8])) := (Same.refl H).upd np
      refine ⟨(by show 2 ≤ sizeLine; decide), fun t nt => ?_⟩
      exact fin _ t v 0 (s1.upd nt) (fresh_of s1 nt) upd_same v0 (by decide) (by omega) fun _ => rfl
    · refine rd_tup (vs := [.int (2 + c % 5), .int 0]) (ea_cons (ev_I0 ev_c (ev_I (ev_var rfl) ev_c (by show (0 : Int) < 5; decide))) (ea_cons ev_c ea_nil)) (by show 2 ≤ sizeLine; decide) fun t nt => ?_
      exact fin _ t (2 + c % 5) 0 ((Same.refl H).upd nt) nt upd_same (by omega) (by decide) (by omega) fun _ => rfl
  have hk : ¬ kd = 0 := of_decide_eq_false e
  refine sq_set (v := .int (1 + c % 6)) (ev_I0 ev_c (ev_I (ev_var rfl) ev_c (by show (0 : Int) < 6; decide))) ?_
  have hs : 1 ≤ 1 + c % 6 ∧ 1 + c % 6 ≤ 6 := by omega
  generalize 1 + c % 6 = st1 at hs ⊢
  refine sq_set (v := .int (st1 + o % (13 - st1))) (ev_I0 (ev_var rfl) (ev_I (ev_var rfl) (ev_I0 ev_c (ev_var rfl)) (by show (0 : Int) < 13 - st1; omega))) ?_
  have g0 := Int.emod_nonneg o (show (13 - st1 : Int) ≠ 0 by omega)
  have g1 := Int.emod_lt_of_pos o (show (0 : Int) < 13 - st1 by omega)
  generalize o % (13 - st1) = gg at g0 g1 ⊢
  refine sq_if (et_or (et_test (ev_eqI (ev_var rfl) ev_c)) fun _ => et_test (ev_eqI (ev_var rfl) ev_c)) (fun _ => ?_) (fun _ => ?_)
  · refine rd_te (te_op (te_lstA ?_))
    refine ta_tup (vs := [.int 0, .int 0]) (ea_cons ev_c (ea_cons ev_c ea_nil)) (by show 2 ≤ sizeLine; decide) fun p0 n0 => ?_
    have s0 : Same H (upd H p0 (.tup [.int 0, .int 0])) := (Same.refl H).upd n0
    have h0 : upd H p0 (.tup [.int 0, .int 0]) p0 = some (.tup [.int 0, .int 0]) := upd_same
    revert s0 h0; generalize upd H p0 (.tup [.int 0, .int 0]) = H0; intro s0 h0
    refine ta_tup (vs := [.int 0, .int 3]) (ea_cons ev_c (ea_cons ev_c ea_nil)) (by show 2 ≤ sizeLine; decide) fun p1 n1 => ?_
    have s1 : Same H0 (upd H0 p1 (.tup [.int 0, .int 3])) := (Same.refl H0).upd n1
    have h1 : upd H0 p1 (.tup [.int 0, .int 3]) p1 = some (.tup [.int 0, .int 3]) := upd_same
    revert s1 h1; generalize upd H0 p1 (.tup [.int 0, .int 3]) = H1; intro s1 h1
    refine ta_tup (vs := [.int st1, .int (st1 - 1)]) (ea_cons (ev_var rfl) (ea_cons (ev_I0 (ev_var rfl) ev_c) ea_nil)) (by show 2 ≤ sizeLine; decide) fun p2 n2 => ?_
    have s2 : Same H1 (upd H1 p2 (.tup [.int st1, .int (st1 - 1)])) := (Same.refl H1).upd n2
    have h2 : upd H1 p2 (.tup [.int st1, .int (st1 - 1)]) p2 = some (.tup [.int st1, .int (st1 - 1)]) := upd_same
    revert s2 h2; generalize upd H1 p2 (.tup [.int st1, .int (st1 - 1)]) = H2; intro s2 h2
    refine ta_tup (vs := [.int st1, .int 13]) (ea_cons (ev_var rfl) (ea_cons ev_c ea_nil)) (by show 2 ≤ sizeLine; decide) fun p3 n3 => ?_
    have s3 : Same H2 (upd H2 p3 (.tup [.int st1, .int 13])) := (Same.refl H2).upd n3
    have h3 : upd H2 p3 (.tup [.int st1, .int 13]) p3 = some (.tup [.int st1, .int 13]) := upd_same
    revert s3 h3; generalize upd H2 p3 (.tup [.int st1, .int 13]) = H3; intro s3 h3
    refine ta_tup (vs := [.int 7, .int 8]) (ea_cons ev_c (ea_cons ev_c ea_nil)) (by show 2 ≤ sizeLine; decide) fun p4 n4 => ?_
    have s4 : Same H3 (upd H3 p4 (.tup [.int 7, .int 8])) := (Same.refl H3).upd n4
    have h4 : upd H3 p4 (.tup [.int 7, .int 8]) p4 = some (.tup [.int 7, .int 8]) := upd_same
    revert s4 h4; generalize upd H3 p4 (.tup [.int 7, .int 8]) = H4; intro s4 h4
    refine ta_tup (vs := [.int st1, .int (st1 / 2)]) (ea_cons (ev_var rfl) (ea_cons (ev_I (ev_var rfl) ev_c (cdB (by decide) (by decide))) ea_nil)) (by show 2 ≤ sizeLine; decide) fun p5 n5 => ?_
    have s5 : Same H4 (upd H4 p5 (.tup [.int st1, .int (st1 / 2)])) := (Same.refl H4).upd n5
    have h5 : upd H4 p5 (.tup [.int st1, .int (st1 / 2)]) p5 = some (.tup [.int st1, .int (st1 / 2)]) := upd_same
    revert s5 h5; generalize upd H4 p5 (.tup [.int st1, .int (st1 / 2)]) = H5; intro s5 h5
    refine ⟨(by show 6 ≤ sizeLine; decide), fun L nL => ?_⟩
    have s6 : Same H5 (upd H5 L (.lst [.ref p0, .ref p1, .ref p2, .ref p3, .ref p4, .ref p5])) := (Same.refl H5).upd nL
    have h6 : upd H5 L (.lst [.ref p0, .ref p1, .ref p2, .ref p3, .ref p4, .ref p5]) L = some (.lst [.ref p0, .ref p1, .ref p2, .ref p3, .ref p4, .ref p5]) := upd_same
    revert s6 h6; generalize upd H5 L (.lst [.ref p0, .ref p1, .ref p2, .ref p3, .ref p4, .ref p5]) = H6; intro s6 h6
    have b0 := Int.emod_nonneg o (show (6 : Int) ≠ 0 by decide)
    have b1 := Int.emod_lt_of_pos o (show (0 : Int) < 6 by decide)
    have z1 := s0.trans s1
    have z2 := z1.trans s2
    have z3 := z2.trans s3
    have z4 := z3.trans s4
    have z6 := (z4.trans s5).trans s6
    have ev : ∃ (t : Addr) (a b : Int), atI [V.ref p0, V.ref p1, V.ref p2, V.ref p3, V.ref p4, V.ref p5] (o % 6) = some (.ref t) ∧ H t = none ∧ H6 t = some (.tup [.int a, .int b]) ∧ 0 ≤ a ∧ 0 ≤ b ∧ a + b ≤ 19 := by
      have hA : o % 6 = 0 ∨ o % 6 = 1 ∨ o % 6 = 2 ∨ o % 6 = 3 ∨ o % 6 = 4 ∨ o % 6 = 5 := by omega
      rcases hA with e | e | e | e | e | e <;> rw [e]
      · exact ⟨p0, 0, 0, rfl, n0, s6 _ _ (s5 _ _ (s4 _ _ (s3 _ _ (s2 _ _ (s1 _ _ h0))))), by decide, by decide, by decide⟩
      · exact ⟨p1, 0, 3, rfl, fresh_of s0 n1, s6 _ _ (s5 _ _ (s4 _ _ (s3 _ _ (s2 _ _ h1)))), by decide, by decide, by decide⟩
      · exact ⟨p2, st1, st1 - 1, rfl, fresh_of z1 n2, s6 _ _ (s5 _ _ (s4 _ _ (s3 _ _ h2))), by omega, by omega, by omega⟩
      · exact ⟨p3, st1, 13, rfl, fresh_of z2 n3, s6 _ _ (s5 _ _ (s4 _ _ h3)), by omega, by omega, by omega⟩
      · exact ⟨p4, 7, 8, rfl, fresh_of z3 n4, s6 _ _ (s5 _ _ h4), by decide, by decide, by decide⟩
      · exact ⟨p5, st1, st1 / 2, rfl, fresh_of z4 n5, s6 _ _ h5, by omega, by omega, by omega⟩
    obtain ⟨t, a, b, ev, nt, et, a0, b0', ab⟩ := ev
    exact (ev_I (ev_var rfl) ev_c (by show (0 : Int) < 6; decide)) _ ⟨L, _, _, .ref t, rfl, rfl, SqL.of h6, ev, fin _ t a b z6 nt et a0 b0' ab fun z => absurd z hk⟩
  · refine rd_tup (vs := [.int st1, .int (st1 + gg)]) (ea_cons (ev_var rfl) (ea_cons (ev_var rfl) ea_nil)) (by show 2 ≤ sizeLine; decide) fun t nt => ?_
    exact fin _ t st1 (st1 + gg) ((Same.refl H).upd nt) nt upd_same (by omega) (by omega) (by omega) fun z => absurd z hk
theorem sp6_of {u0 u1 u2 : Int} (a : 0 ≤ u0 ∧ u0 < 23) (b : 0 ≤ u1 ∧ u1 < 23) (c : 0 ≤ u2 ∧ u2 < 17179869184) : Sp6 [u0, u1, u2] := by
  obtain ⟨x, rfl⟩ := Int.eq_ofNat_of_zero_le a.1
  obtain ⟨y, rfl⟩ := Int.eq_ofNat_of_zero_le b.1
  obtain ⟨z, rfl⟩ := Int.eq_ofNat_of_zero_le c.1
  exact ⟨x, y, z, by omega, by omega, by omega, rfl⟩
theorem ok_Spots {cThing cNet cBundle cWireError cBadSize cBadPrice cOutOfFloor cTwice cNoFit cCrowded cBadThing : Addr} {f : Addr} {fd : FuncData} (F : Fun K "_law_spots" "_law_spots" sSpots f fd) (T : Txt K mg cThing cNet cBundle cWireError cBadSize cBadPrice cOutOfFloor cTwice cNoFit cCrowded cBadThing) (gCell : Callee P w K mg base "_law_cell_at" 1 ["script", "k"] (spCell K)) (gFolded : Callee P w K mg base "_law_folded" 1 ["script", "behind", "many"] (spFolded K)) : FnOk P w K mg base CX0 2 f fd ["script", "many"] (spSpots K) := by
  have sc : FnScope ["script", "many", "gathered", "way", "cells", "k", "spot"] ["script", "many"] (defScope sSpots) := ⟨rfl, rfl, rfl, by decide +kernel, rfl, by decide +kernel, by decide +kernel⟩
  refine F.ok sc (fun vs H Q E h => by repeat (first | (obtain ⟨rfl, _⟩ := h; rfl) | (obtain ⟨_, h⟩ := h))) (fun cdv A outer s H vs Q E hr h => ?_)
  obtain ⟨a, ns, n, rfl, ha, hns, h19, q⟩ := h
  refine ⟨_, (pss_cons (ps_set (i := 2) sc.nd rfl (Or.inl rfl) (pe_lst pa_nil))
  (pss_cons (ps_set (i := 3) sc.nd rfl (Or.inl rfl) (pe_op op_mod (pe_cal gCell (hr.mono (by decide)) (by rfl) (pa_cons (pv 0) (pa_cons pe_int pa_nil))) pe_int))
  (pss_cons (ps_set (i := 4) sc.nd rfl (Or.inl rfl) (pe_cal gFolded (hr.mono (by decide)) (by rfl) (pa_cons (pv 0) (pa_cons pe_int (pa_cons pe_int pa_nil)))))
  (pss_cons (ps_for PassesOwn.never rfl (pi_range1 (by rfl) T.range_ (pa_cons (pv 1) pa_nil)) (pg_name (i := 5) sc.nd rfl (Or.inl rfl))
  (pss_cons (ps_set (i := 6) sc.nd rfl (Or.inl rfl) (pe_lst (pa_cons (pe_op op_mod (pe_ix ix_list (pv 4) (pv 5) (fun _ _ => rfl)) pe_int) (pa_cons (pe_op op_mod (pe_op op_fdivB (pe_ix ix_list (pv 4) (pv 5) (fun _ _ => rfl)) pe_int) pe_int) (pa_cons (pe_op op_fdivB (pe_ix ix_list (pv 4) (pv 5) (fun _ _ => rfl)) pe_int) pa_nil)))))
  (pss_cons (ps_if (pt_cmpR op_lt (pv 3) pe_int (nomark _))
  (pss_one (ps_set (i := 6) sc.nd rfl (Or.inl rfl) (pe_lst (pa_cons pe_int (pa_cons pe_int (pa_cons pe_int pa_nil))))))
  pss_nil)
  (pss_cons (ps_asg (pe_op op_add (pv 5) (pe_op op_mod (pe_ix ix_list (pv 4) pe_int (fun _ _ => rfl)) pe_int)) (pg_sub (pv 6) (pe_op op_mod (pv 3) pe_int) set_list))
  (pss_one (ps_expr (pe_bm PySem.F.plainAttrs_list PySem.F.slot_list_append PySem.F.type_list_append mt_append (pv 2) (pa_cons (pe_tup (pa_cons (pe_ix ix_list (pv 6) pe_int (fun _ _ => rfl)) (pa_cons (pe_ix ix_list (pv 6) pe_int (fun _ _ => rfl)) (pa_cons (pe_ix ix_list (pv 6) pe_int (fun _ _ => rfl)) pa_nil)))) pa_nil))))))))
  (pss_one (ps_ret (pv 2))))))), ?_⟩
  have hsz : sizeLine = 2 ^ 24 := rfl
  refine sq_lst (vs := []) ea_nil (by show 0 ≤ sizeLine; decide) fun g ng => ?_
  have s1 : Same H (upd H g (.lst [])) := (Same.refl H).upd ng
  have hg : upd H g (.lst []) g = some (.lst (([] : List Addr).map V.ref)) := upd_same
  revert s1 hg
  generalize upd H g (.lst []) = H1
  intro s1 hg
  refine sq_asg (te_op (te_cal (ea_cons (ev_var rfl) (ea_cons ev_c ea_nil)) ⟨a, ns, 7, rfl, s1.seq ha, by decide, fun v => ⟨v, 6, rfl, rfl, (by show (0 : Int) < 6; decide), ?_⟩⟩))
  have w0 := Int.emod_nonneg v (show (6 : Int) ≠ 0 by decide)
  have w1 := Int.emod_lt_of_pos v (show (0 : Int) < 6 by decide)
  dsimp only
  refine nrm (σ' := [some (.ref a), some (.int (n : Nat)), some (.ref g), some (.int (v % 6)), none, none, none]) (by kernel_rfl) ?_
  generalize v % 6 = w at w0 w1 ⊢
  refine sq_asg (te_cal (ea_cons (ev_var rfl) (ea_cons ev_c (ea_cons ev_c ea_nil))) ⟨a, ns, rfl, s1.seq ha, hns, fun H2 c gs s2 nc hc lc hb => ?_⟩)
  have ngc : g ≠ c := ne_of_none hg nc
  have nHc : H c = none := fresh_of s1 nc
  obtain ⟨z18, h18, _⟩ := at_int (cs := gs) (i := 18) (by decide) (by rw [lc]; decide)
  have j0 : 0 ≤ w % 3 ∧ w % 3 < 3 := ⟨Int.emod_nonneg _ (by decide), Int.emod_lt_of_pos _ (by decide)⟩
  have e0 : 0 ≤ z18 % 5 ∧ z18 % 5 < 5 := ⟨Int.emod_nonneg _ (by decide), Int.emod_lt_of_pos _ (by decide)⟩
  refine sq_rng1 (j := (n : Nat)) (ea_cons (ev_var rfl) ea_nil) (by omega) (by omega) ?_
  refine for_range (n := ((n : Nat) : Int).toNat) (fun i σ H' => ∃ (x5 x6 : Option V) (as : List Addr) (cs : List (List Int)), σ = [some (.ref a), some (.int (n : Nat)), some (.ref g), some (.int w), some (.ref c), x5, x6] ∧ Same H H' ∧ H' c = some (.lst (gs.map V.int)) ∧ H' g = some (.lst (as.map V.ref)) ∧ Tups H' as cs ∧ cs.length = i ∧ (∀ d ∈ cs, Sp6 d) ∧ (∀ d ∈ cs, ∃ j : Nat, j < i ∧ d.getD (w % 3).toNat 0 = (j : Int) + z18 % 5) ∧ cs.Nodup)
    ⟨none, none, [], [], rfl, s1.trans s2, hc, s2 _ _ hg, .nil, rfl, (fun _ h => nomatch h), (fun _ h => nomatch h), List.nodup_nil⟩ ?_ ?_
  · rintro i σ H3 hi ⟨x5, x6, as, cs, rfl, s3, hc3, hg3, ht3, hl3, h6, hj, nd⟩
    have hi : i < n := by have hi : i < ((n : Nat) : Int).toNat := hi; omega
    have lenA : as.length = cs.length := Paired.length ht3
    obtain ⟨z, hz, _⟩ := at_int (cs := gs) (i := 0 + (i : Int)) (by omega) (by rw [lc]; omega)
    have hzb : 0 ≤ z ∧ z < 1000000000039 := by
      have : V.int z ∈ gs.map V.int := by
        rw [Int.zero_add] at hz
        have e := hz
        rw [atI_nat (List.getElem?_eq_getElem (by rw [List.length_map, lc]; omega))] at e
        rw [← Option.some.inj e]
        exact List.getElem_mem _
      obtain ⟨z', hz', e⟩ := List.mem_map.mp this
      cases e
      exact hb z hz'
    refine gn ?_
    refine sq_lst (vs := [.int (z % 4), .int (z / 4 % 16), .int (z / 64)]) (ea_cons (ev_I (ev_ixL (v := .int z) (ev_var rfl) (ev_var rfl) (SqL.of hc3) hz) ev_c (by show (0 : Int) < 4; decide)) (ea_cons (ev_I (ev_I (ev_ixL (v := .int z) (ev_var rfl) (ev_var rfl) (SqL.of hc3) hz) ev_c (cdB (by decide) (by decide))) ev_c (by show (0 : Int) < 16; decide)) (ea_cons (ev_I (ev_ixL (v := .int z) (ev_var rfl) (ev_var rfl) (SqL.of hc3) hz) ev_c (cdB (by decide) (by decide))) ea_nil))) (by show 3 ≤ sizeLine; decide) fun p np => ?_
    refine nrm (σ' := [some (.ref a), some (.int (n : Nat)), some (.ref g), some (.int w), some (.ref c), some (.int (0 + (i : Int))), some (.ref p)]) (by kernel_rfl) ?_
    have s4 : Same H3 (upd H3 p (.lst [.int (z % 4), .int (z / 4 % 16), .int (z / 64)])) := (Same.refl H3).upd np
    have hp : upd H3 p (.lst [.int (z % 4), .int (z / 4 % 16), .int (z / 64)]) p = some (.lst [.int (z % 4), .int (z / 4 % 16), .int (z / 64)]) := upd_same
    revert s4 hp
    generalize upd H3 p (.lst [.int (z % 4), .int (z / 4 % 16), .int (z / 64)]) = H4
    intro s4 hp
    refine sq_J (fun σ H' => ∃ (p : Addr) (t0 t1 t2 : Int), σ = [some (.ref a), some (.int (n : Nat)), some (.ref g), some (.int w), some (.ref c), some (.int (0 + (i : Int))), some (.ref p)] ∧ Same H3 H' ∧ H3 p = none ∧ H' p = some (.lst [.int t0, .int t1, .int t2]) ∧ (0 ≤ t0 ∧ t0 < 23) ∧ (0 ≤ t1 ∧ t1 < 23) ∧ (0 ≤ t2 ∧ t2 < 17179869184)) (fun R hR => ?_) ?_
    · refine rd_if (et_test (ev_lt (ev_var rfl) ev_c)) (fun _ => ?_) (fun _ => hR _ _ ⟨p, _, _, _, rfl, s4, np, hp, by omega, by omega, by omega⟩)
      exact te_lst (vs := [.int 3, .int 3, .int 3]) (ea_cons ev_c (ea_cons ev_c (ea_cons ev_c ea_nil))) (by show 3 ≤ sizeLine; decide) fun p' np' => hR _ _ ⟨p', 3, 3, 3, rfl, s4.upd np', fresh_of s4 np', upd_same, by decide, by decide, by decide⟩
    clear s4 hp np
    clear p H4
    rintro σ H4 ⟨p, t0, t1, t2, rfl, s4, np, hp, b0, b1, b2⟩
    refine sq_J (fun σ H' => ∃ (u0 u1 u2 : Int), σ = [some (.ref a), some (.int (n : Nat)), some (.ref g), some (.int w), some (.ref c), some (.int (0 + (i : Int))), some (.ref p)] ∧ Same H3 H' ∧ H' p = some (.lst [.int u0, .int u1, .int u2]) ∧ Sp6 [u0, u1, u2] ∧ [u0, u1, u2].getD (w % 3).toNat 0 = (i : Int) + z18 % 5) (fun R hR => ?_) ?_
    · refine rd_asgE (v := .int (0 + (i : Int) + z18 % 5)) (ev_I0 (ev_var rfl) (ev_I (ev_ixL (v := .int z18) (ev_var rfl) ev_c (SqL.of (s4 _ _ hc3)) h18) ev_c (by show (0 : Int) < 5; decide))) ?_
      have hA : w % 3 = 0 ∨ w % 3 = 1 ∨ w % 3 = 2 := by omega
      rcases hA with e | e | e
      · refine ⟨_, rfl, _, rfl, w, 3, rfl, rfl, (by show (0 : Int) < 3; decide), p, _, w % 3, 0, rfl, rfl, hp, by rw [e]; rfl, ?_⟩
        exact hR _ _ ⟨0 + (i : Int) + z18 % 5, t1, t2, rfl, same_at s4 np, upd_same, sp6_of (by omega) b1 b2, by rw [e]; show 0 + (i : Int) + z18 % 5 = _; omega⟩
      · refine ⟨_, rfl, _, rfl, w, 3, rfl, rfl, (by show (0 : Int) < 3; decide), p, _, w % 3, 1, rfl, rfl, hp, by rw [e]; rfl, ?_⟩
        exact hR _ _ ⟨t0, 0 + (i : Int) + z18 % 5, t2, rfl, same_at s4 np, upd_same, sp6_of b0 (by omega) b2, by rw [e]; show 0 + (i : Int) + z18 % 5 = _; omega⟩
      · refine ⟨_, rfl, _, rfl, w, 3, rfl, rfl, (by show (0 : Int) < 3; decide), p, _, w % 3, 2, rfl, rfl, hp, by rw [e]; rfl, ?_⟩
        exact hR _ _ ⟨t0, t1, 0 + (i : Int) + z18 % 5, rfl, same_at s4 np, upd_same, sp6_of b0 b1 (by omega), by rw [e]; show 0 + (i : Int) + z18 % 5 = _; omega⟩
    clear s4 hp
    clear H4
    rintro σ H4 ⟨u0, u1, u2, rfl, s4, hp, hu6, huj⟩
    refine te_bm (ev_var rfl) (.inl ⟨rfl, _, SqL.of (s4 _ _ hg3)⟩) (ta_tup (vs := [.int u0, .int u1, .int u2]) (ea_cons (ev_ixL (v := .int u0) (ev_var rfl) ev_c (SqL.of hp) rfl) (ea_cons (ev_ixL (v := .int u1) (ev_var rfl) ev_c (SqL.of hp) rfl) (ea_cons (ev_ixL (v := .int u2) (ev_var rfl) ev_c (SqL.of hp) rfl) ea_nil))) (by show 3 ≤ sizeLine; decide) fun t nt => ⟨g, _, _, rfl, rfl, by rw [upd_ne (ne_of_none (s4 _ _ hg3) nt)]; exact s4 _ _ hg3, by rw [List.length_map]; omega, ?_⟩)
    have ngt : g ≠ t := ne_of_none (s4 _ _ hg3) nt
    refine ⟨_, _, as ++ [t], cs ++ [[u0, u1, u2]], rfl, same_at ((s3.trans s4).upd nt) ng, ?_, by rw [upd_same, List.map_append]; rfl, ?_, by rw [List.length_append, hl3]; rfl, ?_, ?_, ?_⟩
    · rw [upd_ne (Ne.symm ngc), upd_ne (ne_of_none (s4 _ _ hc3) nt)]; exact s4 _ _ hc3
    · refine tups_app (tups_mono ht3 fun b xs e => ?_) (.cons (by rw [upd_ne (Ne.symm ngt), upd_same]; rfl) .nil)
      rw [upd_ne (fun z => by rw [z, hg3] at e; cases e), upd_ne (ne_of_none (s4 _ _ e) nt)]; exact s4 _ _ e
    · intro d hd
      rcases List.mem_append.mp hd with hd | hd
      · exact h6 d hd
      · rw [List.mem_singleton.mp hd]; exact hu6
    · intro d hd
      rcases List.mem_append.mp hd with hd | hd
      · obtain ⟨j, hj1, hj2⟩ := hj d hd
        exact ⟨j, by omega, hj2⟩
      · rw [List.mem_singleton.mp hd]; exact ⟨i, by omega, huj⟩
    · rw [List.nodup_append]
      refine ⟨nd, List.nodup_cons.mpr ⟨List.not_mem_nil, List.nodup_nil⟩, fun d hd e he z => ?_⟩
      rw [List.mem_singleton.mp he] at z
      obtain ⟨j, hj1, hj2⟩ := hj d hd
      rw [z, huj] at hj2
      omega
  · rintro σ H3 ⟨x5, x6, as, cs, rfl, s3, hc3, hg3, ht3, hl3, h6, hj, nd⟩
    exact st (rd_ret (ev_var rfl) (q _ g cs s3 ng ⟨as, hg3, ht3⟩ (by have hl3 : cs.length = ((n : Nat) : Int).toNat := hl3; omega) h6 nd))
theorem te_cellm {K : PySem.W.Frag} {σ : St} {H : Hp} {ta : TA} {a : Addr} {ns : List Int} {m : Int} {Q : VK} (i : Int) (h : EvA ta σ H [.ref a, .int i]) (hs : SqL K H a (ns.map V.int)) (h0 : 0 ≤ i) (hm : 0 < m) (q : ∀ v : Int, Q (.int (v % m)) H) : tOp (rI (fun _ j => 0 < j) fun i j => .int (i % j)) (tCall (spCell K) [] E0 ta) (tC (.int m)) σ H Q :=
  te_op (te_cal h ⟨a, ns, i, rfl, hs, h0, fun v => ⟨v, m, rfl, rfl, hm, q v⟩⟩)
theorem te_callA {sp : Sp} {ta : TA} {σ : St} {H : Hp} {Q : VK} (h : ta σ H fun vs H1 => sp (vs ++ []) H1 Q E0) : tCall sp [] E0 ta σ H Q := h
theorem te_calX {Ex : St → Value → Hp → Prop} {sp : Sp} {ta : TA} {vs : List V} {σ : St} {H : Hp} {Q : VK} (h : EvA ta σ H vs) (q : sp (vs ++ []) H Q (fun C _ H' => Ex σ C H')) : tCalX Ex sp [] ta σ H Q := h _ q
def Kp (H H' : Hp) : Prop := ∀ q o, (∀ xs, o ≠ .lst xs) → H q = some o → H' q = some o
theorem Kp.clr {H : Hp} {d : Addr} {xs ys : List V} (h : H d = some (.lst xs)) : Kp H (upd H d (.lst ys)) := fun q o n e => by
  rw [upd_ne (fun z => by rw [z, h] at e; exact n xs (Option.some.inj e).symm)]; exact e
theorem Kp.trans {H H1 H2 : Hp} (a : Kp H H1) (b : Kp H1 H2) : Kp H H2 := fun q o n e => b q o n (a q o n e)
theorem ThAt.keep {cN cB : Addr} {H H' : Hp} {p : Addr} {kd : Int} {x : Str} {h r : Int} {as bs : List Addr} (t : ThAt cN cB H p kd x h r as bs) (s : Kp H H') : ThAt cN cB H' p kd x h r as bs := by
  obtain ⟨dx, fs, b, h⟩ := t
  refine ⟨dx, fs, b, ?_⟩
  rcases h with ⟨e, h1, t, h2, h3⟩ | ⟨e, h1, t, u, h2, h3, h4, h5⟩
  · exact .inl ⟨e, s _ _ (fun _ z => nomatch z) h1, t, h2, s _ _ (fun _ z => nomatch z) h3⟩
  · exact .inr ⟨e, s _ _ (fun _ z => nomatch z) h1, t, u, h2, h3, s _ _ (fun _ z => nomatch z) h4, s _ _ (fun _ z => nomatch z) h5⟩
theorem Kp.tups {H H' : Hp} {as : List Addr} {cs : List (List Int)} (s : Kp H H') (t : Tups H as cs) : Tups H' as cs := tups_mono t fun b xs e => s _ _ (fun _ z => nomatch z) e
def rowD (cs : List (List Int)) : PyData := .list (cs.map fun c => PyData.tuple (c.map PyData.int))
theorem row_one (cs : List (List Int)) : (rowD cs).depth ≤ 10 := by
  unfold rowD
  have : PyData.depthAll (cs.map fun c => PyData.tuple (c.map PyData.int)) ≤ 1 := depthAll_le fun d hd => by
    obtain ⟨c, _, rfl⟩ := List.mem_map.mp hd
    exact depth_tints c
  simp only [PyData.depth]
  omega
theorem row_two (cs ds : List (List Int)) : (PyData.list [rowD cs, rowD ds]).depth ≤ 60 := by
  have : PyData.depthAll [rowD cs, rowD ds] ≤ 10 := depthAll_le fun d hd => by
    simp only [List.mem_cons, List.not_mem_nil, or_false] at hd
    rcases hd with rfl | rfl
    · exact row_one _
    · exact row_one _
  simp only [PyData.depth]
  omega
theorem dp_two {K : PySem.W.Frag} {H : Hp} {p l m : Addr} {as bs : List Addr} {cs ds : List (List Int)} (h : H p = some (.lst [.ref l, .ref m])) (hl : H l = some (.lst (as.map V.ref))) (hm : H m = some (.lst (bs.map V.ref))) (ht : Tups H as cs) (hu : Tups H bs ds) : Dp K H (.ref p) (.list [rowD cs, rowD ds]) := .lst (SqL.of h) (.cons (dp_row hl ht) (.cons (dp_row hm hu) .nil))
structure LS (H H' : Hp) (kd : Int) (x : Str) (h r : Int) (t l : Addr) (na nb : Nat) (cs : List (List Int)) : Prop where
  sm : Same H H'
  as : Asc x
  hh : h.natAbs < 2 ^ 62
  hr : r.natAbs < 2 ^ 62
  k1 : kd = 1 → h = 0
  ht : H' t = some (.tup [.int (na : Nat), .int (nb : Nat)])
  k0 : kd = 0 → nb = 0
  hl : AtL H' l cs
  h6 : ∀ c ∈ cs, Sp6 c
  ln : cs.length = na + nb
theorem LS.same {H H' H2 : Hp} {kd : Int} {x : Str} {h r : Int} {t l : Addr} {na nb : Nat} {cs : List (List Int)} (s : LS H H' kd x h r t l na nb cs) (e : Same H' H2) : LS H H2 kd x h r t l na nb cs :=
  { s with sm := s.sm.trans e, ht := e _ _ s.ht, hl := s.hl.same e }
theorem ok_law {cThing cNet cBundle cWireError cBadSize cBadPrice cOutOfFloor cTwice cNoFit cCrowded cBadThing : Addr} {f : Addr} {fd : FuncData} (F : Fun K "law" "law" slaw f fd) (T : Txt K mg cThing cNet cBundle cWireError cBadSize cBadPrice cOutOfFloor cTwice cNoFit cCrowded cBadThing) (gCell : Callee P w K mg base "_law_cell_at" 1 ["script", "k"] (spCell K)) (gLName : Callee P w K mg base "_law_name" 1 ["cell", "size"] spLName) (gSpoiled : Callee P w K mg base "_law_name_spoiled" 1 ["name", "cell"] spSpoiled) (gSpots : Callee P w K mg base "_law_spots" 2 ["script", "many"] (spSpots K)) (gDoubled : Callee P w K mg base "_law_doubled" 1 ["spots", "cell"] spDoubled) (gOut : Callee P w K mg base "_law_out" 1 ["cell", "most"] spOut) (gLMany : Callee P w K mg base "_law_many" 1 ["kind", "spoil", "cell", "other"] spLMany) (gDue : Callee P w K mg base "_law_due" 2 ["kind", "name", "half", "room", "ones", "twos"] spDue) (gMake : CalleeX P w K mg base "_law_make" 5 ["kind", "way", "name", "half", "room", "ones", "twos"] (spMake cNet cBundle cBadThing)) (gRefused : Callee P w K mg base "_law_refused" 6 ["kind", "way", "name", "half", "room", "ones", "twos"] spRefused) (gNumber : Callee P w K mg base "_law_number" 1 ["found", "due"] spNumber) (gTold : Callee P w K mg base "_law_told" 2 ["kind", "thing", "ones", "twos"] (spTold cNet cBundle)) : FnOk P w K mg base CX0 7 f fd ["script"] (spLaw K) := by
  have sc : FnScope ["script", "kind", "spoil", "way", "cell", "name", "half", "room", "many", "spots", "ones", "twos", "handed", "refused", "thing"] ["script"] (defScope slaw) := ⟨rfl, rfl, rfl, by decide +kernel, rfl, by decide +kernel, by decide +kernel⟩
  refine F.ok sc (fun vs H Q E h => by repeat (first | (obtain ⟨rfl, _⟩ := h; rfl) | (obtain ⟨_, h⟩ := h))) (fun cdv A outer s H vs Q E hr h => ?_)
  obtain ⟨a, ns, rfl, hs, hns, q⟩ := h
  refine ⟨_, (pss_cons (ps_set (i := 1) sc.nd rfl (Or.inl rfl) (pe_op op_mod (pe_cal gCell (hr.mono (by decide)) (by rfl) (pa_cons (pv 0) (pa_cons pe_int pa_nil))) pe_int))
  (pss_cons (ps_set (i := 2) sc.nd rfl (Or.inl rfl) (pe_op op_mod (pe_cal gCell (hr.mono (by decide)) (by rfl) (pa_cons (pv 0) (pa_cons pe_int pa_nil))) pe_int))
  (pss_cons (ps_set (i := 3) sc.nd rfl (Or.inl rfl) (pe_op op_mod (pe_cal gCell (hr.mono (by decide)) (by rfl) (pa_cons (pv 0) (pa_cons pe_int pa_nil))) pe_int))
  (pss_cons (ps_set (i := 4) sc.nd rfl (Or.inl rfl) (pe_cal gCell (hr.mono (by decide)) (by rfl) (pa_cons (pv 0) (pa_cons pe_int pa_nil))))
  (pss_cons (ps_set (i := 5) sc.nd rfl (Or.inl rfl) (pe_cal gLName (hr.mono (by decide)) (by rfl) (pa_cons (pe_cal gCell (hr.mono (by decide)) (by rfl) (pa_cons (pv 0) (pa_cons pe_int pa_nil))) (pa_cons (pe_op op_add pe_int (pe_op op_mod (pv 4) pe_int)) pa_nil))))
  (pss_cons (ps_set (i := 6) sc.nd rfl (Or.inl rfl) (pe_op op_mul (pe_op op_mod (pe_op op_fdivB (pv 4) pe_int) pe_int) (pe_op op_sub pe_int (pv 1))))
  (pss_cons (ps_set (i := 7) sc.nd rfl (Or.inl rfl) (pe_op op_mod (pe_op op_fdivB (pv 4) pe_int) pe_int))
  (pss_cons (ps_set (i := 8) sc.nd rfl (Or.inl rfl) (pe_cal gLMany (hr.mono (by decide)) (by rfl) (pa_cons (pv 1) (pa_cons (pv 2) (pa_cons (pe_cal gCell (hr.mono (by decide)) (by rfl) (pa_cons (pv 0) (pa_cons pe_int pa_nil))) (pa_cons (pe_cal gCell (hr.mono (by decide)) (by rfl) (pa_cons (pv 0) (pa_cons pe_int pa_nil))) pa_nil))))))
  (pss_cons (ps_set (i := 9) sc.nd rfl (Or.inl rfl) (pe_cal gSpots (hr.mono (by decide)) (by rfl) (pa_cons (pv 0) (pa_cons (pe_op op_add (pe_ix ix_tup (pv 8) pe_int (fun _ _ => rfl)) (pe_ix ix_tup (pv 8) pe_int (fun _ _ => rfl))) pa_nil))))
  (pss_cons (ps_if (pt_cmpR op_eq (pv 2) pe_int (nomark _))
  (pss_one (ps_set (i := 5) sc.nd rfl (Or.inl rfl) (pe_cal gSpoiled (hr.mono (by decide)) (by rfl) (pa_cons (pv 5) (pa_cons (pe_op op_fdivB (pv 4) pe_int) pa_nil)))))
  pss_nil)
  (pss_cons (ps_if (pw_and (pt_cmpR op_eq (pv 2) pe_int (nomark _)) (pw_and1 (pt_cmpR op_eq (pv 1) pe_int (nomark _)))).pt
  (pss_one (ps_set (i := 6) sc.nd rfl (Or.inl rfl) (pe_cal gOut (hr.mono (by decide)) (by rfl) (pa_cons (pe_op op_fdivB (pv 4) pe_int) (pa_cons pe_int pa_nil)))))
  pss_nil)
  (pss_cons (ps_if (pt_cmpR op_eq (pv 2) pe_int (nomark _))
  (pss_one (ps_set (i := 7) sc.nd rfl (Or.inl rfl) (pe_cal gOut (hr.mono (by decide)) (by rfl) (pa_cons (pe_op op_fdivB (pv 4) pe_int) (pa_cons pe_int pa_nil)))))
  pss_nil)
  (pss_cons (ps_if (pt_cmpR op_eq (pv 2) pe_int (nomark _))
  (pss_one (ps_set (i := 9) sc.nd rfl (Or.inl rfl) (pe_cal gDoubled (hr.mono (by decide)) (by rfl) (pa_cons (pv 9) (pa_cons (pe_cal gCell (hr.mono (by decide)) (by rfl) (pa_cons (pv 0) (pa_cons pe_int pa_nil))) pa_nil)))))
  pss_nil)
  (pss_cons (ps_if (pt_cmpR op_eq (pv 3) pe_int (nomark _))
  (pss_one (ps_set (i := 6) sc.nd rfl (Or.inl rfl) pe_int))
  pss_nil)
  (pss_cons (ps_if (pw_or (pt_cmpR op_eq (pv 3) pe_int (nomark _)) (pw_or1 (pw_and (pt_cmpR op_eq (pv 3) pe_int (nomark _)) (pw_and1 (pt_cmpR op_eq (pv 1) pe_int (nomark _)))).pt)).pt
  (pss_one (ps_set (i := 7) sc.nd rfl (Or.inl rfl) pe_int))
  pss_nil)
  (pss_cons (ps_set (i := 10) sc.nd rfl (Or.inl rfl) (pe_slice sl_list (pv 9) po_none (po_some (pe_ix ix_tup (pv 8) pe_int (fun _ _ => rfl)))))
  (pss_cons (ps_set (i := 11) sc.nd rfl (Or.inl rfl) (pe_slice sl_list (pv 9) (po_some (pe_ix ix_tup (pv 8) pe_int (fun _ _ => rfl))) po_none))
  (pss_cons (ps_set (i := 12) sc.nd rfl (Or.inl rfl) (pe_lst (pa_cons (pe_callTy call_list_of (by rfl) T.list_ bt_list (pa_cons (pv 10) pa_nil)) (pa_cons (pe_callTy call_list_of (by rfl) T.list_ bt_list (pa_cons (pv 11) pa_nil)) pa_nil))))
  (pss_cons (ps_if (pt_not (pt_val (pe_cal gDue (hr.mono (by decide)) (by rfl) (pa_cons (pv 1) (pa_cons (pv 5) (pa_cons (pv 6) (pa_cons (pv 7) (pa_cons (pv 10) (pa_cons (pv 11) pa_nil)))))))))
  (pss_cons (ps_set (i := 13) sc.nd rfl (Or.inl rfl) (pe_cal gRefused (hr.mono (by decide)) (by rfl) (pa_cons (pv 1) (pa_cons (pv 3) (pa_cons (pv 5) (pa_cons (pv 6) (pa_cons (pv 7) (pa_cons (pe_ix ix_list (pv 12) pe_int (fun _ _ => rfl)) (pa_cons (pe_ix ix_list (pv 12) pe_int (fun _ _ => rfl)) pa_nil)))))))))
  (pss_one (ps_ret (pe_and (pv 13) (pe_one (pe_cmpR (op_eqD hr) (pv 12) (pe_lst (pa_cons (pv 10) (pa_cons (pv 11) pa_nil))) (nomark _)))))))
  pss_nil)
  (pss_cons (ps_set (i := 14) sc.nd rfl (Or.inl rfl) (pe_calX gMake (hr.mono (by decide)) (by rfl) comesF (pa_cons (pv 1) (pa_cons (pv 3) (pa_cons (pv 5) (pa_cons (pv 6) (pa_cons (pv 7) (pa_cons (pe_ix ix_list (pv 12) pe_int (fun _ _ => rfl)) (pa_cons (pe_ix ix_list (pv 12) pe_int (fun _ _ => rfl)) pa_nil)))))))))
  (pss_cons (ps_if (pw_or (pt_not (pt_val (pe_callB call_isinst (by rfl) T.isinstance_ bt_isinstance (pa_cons (pv 14) (pa_cons (pe_globC (by rfl) T.mg_Thing) pa_nil))))) (pw_or1 (pt_cmpR (op_neD hr) (pv 12) (pe_lst (pa_cons (pv 10) (pa_cons (pv 11) pa_nil))) (nomark _)))).pt
  (pss_one (ps_ret pe_bl))
  pss_nil)
  (pss_cons (ps_expr (pe_bm0 PySem.F.plainAttrs_list PySem.F.slot_list_clear PySem.F.type_list_clear mt_clear (pe_ix ix_list (pv 12) pe_int (fun _ _ => rfl))))
  (pss_cons (ps_expr (pe_bm0 PySem.F.plainAttrs_list PySem.F.slot_list_clear PySem.F.type_list_clear mt_clear (pe_ix ix_list (pv 12) pe_int (fun _ _ => rfl))))
  (pss_cons (ps_if (pw_or (pt_not (pt_val (pe_callB call_isinst (by rfl) T.isinstance_ bt_isinstance (pa_cons (pe_fld (pv 14) rfl) (pa_cons (pe_bltn (v := .ty "str") (by rfl) T.str_ bt_str (by rfl)) pa_nil))))) (pw_or1 (pt_cmpR op_ne (pe_fld (pv 14) rfl) (pv 5) (nomark _)))).pt
  (pss_one (ps_ret pe_bl))
  pss_nil)
  (pss_cons (ps_if (pw_or (pt_not (pt_val (pe_cal gNumber (hr.mono (by decide)) (by rfl) (pa_cons (pe_fld (pv 14) rfl) (pa_cons (pv 6) pa_nil))))) (pw_or1 (pt_not (pt_val (pe_cal gNumber (hr.mono (by decide)) (by rfl) (pa_cons (pe_fld (pv 14) rfl) (pa_cons (pv 7) pa_nil))))))).pt
  (pss_one (ps_ret pe_bl))
  pss_nil)
  (pss_one (ps_ret (pe_cal gTold (hr.mono (by decide)) (by rfl) (pa_cons (pv 1) (pa_cons (pv 14) (pa_cons (pv 10) (pa_cons (pv 11) pa_nil)))))))))))))))))))))))))))))))), ?_⟩
  have hsz : sizeLine = 2 ^ 24 := rfl
  refine sq_asg (te_cellm 0 (ea_cons (ev_var rfl) (ea_cons ev_c ea_nil)) hs (by decide) (by decide) fun v0 => ?_)
  have hkd : v0 % 2 = 0 ∨ v0 % 2 = 1 := by omega
  try dsimp only
  generalize v0 % 2 = kd at hkd ⊢
  refine nrm (σ' := [some (.ref a), some (.int kd), none, none, none, none, none, none, none, none, none, none, none, none, none]) (by kernel_rfl) ?_
  refine sq_asg (te_cellm 1 (ea_cons (ev_var rfl) (ea_cons ev_c ea_nil)) hs (by decide) (by decide) fun v1 => ?_)
  try dsimp only
  generalize v1 % 9 = sp
  refine nrm (σ' := [some (.ref a), some (.int kd), some (.int sp), none, none, none, none, none, none, none, none, none, none, none, none]) (by kernel_rfl) ?_
  refine sq_asg (te_cellm 2 (ea_cons (ev_var rfl) (ea_cons ev_c ea_nil)) hs (by decide) (by decide) fun v2 => ?_)
  try dsimp only
  generalize v2 % 4 = wy
  refine nrm (σ' := [some (.ref a), some (.int kd), some (.int sp), some (.int wy), none, none, none, none, none, none, none, none, none, none, none]) (by kernel_rfl) ?_
  refine sq_asg (te_cal (ea_cons (ev_var rfl) (ea_cons ev_c ea_nil)) ⟨a, ns, 3, rfl, hs, by decide, fun ce => ?_⟩)
  refine nrm (σ' := [some (.ref a), some (.int kd), some (.int sp), some (.int wy), some (.int ce), none, none, none, none, none, none, none, none, none, none]) (by kernel_rfl) ?_
  refine sq_asg (te_nest2 (te_cal (ea_cons (ev_var rfl) (ea_cons ev_c ea_nil)) ⟨a, ns, 4, rfl, hs, by decide, fun v4 => ?_⟩))
  refine (ea_cons (ev_I0 ev_c (ev_I (ev_var rfl) ev_c (by show (0 : Int) < 12; decide))) ea_nil) _ ⟨v4, 1 + ce % 12, rfl, by omega, by omega, fun x H1 s1 hA l1 l12 => ?_⟩
  refine nrm (σ' := [some (.ref a), some (.int kd), some (.int sp), some (.int wy), some (.int ce), some (.str x), none, none, none, none, none, none, none, none, none]) (by kernel_rfl) ?_
  refine sq_set (v := .int (ce / 12 % 3 * (1 - kd))) (ev_I (ev_I (ev_I (ev_var rfl) ev_c (cdB (by decide) (by decide))) ev_c (by show (0 : Int) < 3; decide)) (ev_I0 ev_c (ev_var rfl)) (cmR (by omega) (by omega))) ?_
  have hh : (ce / 12 % 3 * (1 - kd)).natAbs < 2 ^ 62 := by rcases hkd with rfl | rfl <;> omega
  have hk1 : kd = 1 → ce / 12 % 3 * (1 - kd) = 0 := fun e => by rw [e]; omega
  generalize ce / 12 % 3 * (1 - kd) = h at hh hk1 ⊢
  refine nrm (σ' := [some (.ref a), some (.int kd), some (.int sp), some (.int wy), some (.int ce), some (.str x), some (.int h), none, none, none, none, none, none, none, none]) (by kernel_rfl) ?_
  refine sq_set (v := .int (ce / 36 % 4)) (ev_I (ev_I (ev_var rfl) ev_c (cdB (by decide) (by decide))) ev_c (by show (0 : Int) < 4; decide)) ?_
  have hr' : (ce / 36 % 4).natAbs < 2 ^ 62 := by omega
  generalize ce / 36 % 4 = r at hr' ⊢
  refine nrm (σ' := [some (.ref a), some (.int kd), some (.int sp), some (.int wy), some (.int ce), some (.str x), some (.int h), some (.int r), none, none, none, none, none, none, none]) (by kernel_rfl) ?_
  refine sq_asg (te_callA (ta_ev (ev_var rfl) (ta_ev (ev_var rfl) (ta_one (te_cal (ea_cons (ev_var rfl) (ea_cons ev_c ea_nil)) ⟨a, ns, 5, rfl, s1.seq hs, by decide, fun v5 => ta_one (te_cal (ea_cons (ev_var rfl) (ea_cons ev_c ea_nil)) ⟨a, ns, 6, rfl, s1.seq hs, by decide, fun v6 => ?_⟩)⟩)))))
  refine ⟨kd, sp, v5, v6, rfl, fun H2 t na nb s2 nt ht hab hk0 => ?_⟩
  refine nrm (σ' := [some (.ref a), some (.int kd), some (.int sp), some (.int wy), some (.int ce), some (.str x), some (.int h), some (.int r), some (.ref t), none, none, none, none, none, none]) (by kernel_rfl) ?_
  have s12 := s1.trans s2
  refine sq_asg (te_cal (ea_cons (ev_var rfl) (ea_cons (ev_I0 (ev_ixT (v := .int (na : Nat)) (ev_var rfl) ev_c (SqT.of ht) rfl) (ev_ixT (v := .int (nb : Nat)) (ev_var rfl) ev_c (SqT.of ht) rfl)) ea_nil)) ⟨a, ns, na + nb, rfl, s12.seq hs, hns, hab, fun H3 l cs s3 nl hl ln h6 nd => ?_⟩)
  refine nrm (σ' := [some (.ref a), some (.int kd), some (.int sp), some (.int wy), some (.int ce), some (.str x), some (.int h), some (.int r), some (.ref t), some (.ref l), none, none, none, none, none]) (by kernel_rfl) ?_
  have L0 : LS H H3 kd x h r t l na nb cs := ⟨s12.trans s3, hA, hh, hr', hk1, s3 _ _ ht, hk0, hl, h6, ln⟩
  clear nl hl ln h6 nd hh hk1 hr' ht nt s12 s3 s2 s1
  clear H1 H2
  refine sq_J (fun σ H' => ∃ (x : Str), σ = [some (.ref a), some (.int kd), some (.int sp), some (.int wy), some (.int ce), some (.str x), some (.int h), some (.int r), some (.ref t), some (.ref l), none, none, none, none, none] ∧ LS H H' kd x h r t l na nb cs) (fun R hR => ?_) ?_
  · refine rd_if (et_test (ev_eqI (ev_var rfl) ev_c)) (fun _ => ?_) (fun _ => hR _ _ ⟨x, rfl, L0⟩)
    exact rd_cal (ea_cons (ev_var rfl) (ea_cons (ev_I (ev_var rfl) ev_c (cdB (by decide) (by decide))) ea_nil)) ⟨x, ce / 144, rfl, hA, l1, l12, fun y H4 s4 hy => hR _ _ ⟨y, rfl, { L0.same s4 with as := hy }⟩⟩
  clear L0 hA l1 l12
  clear x H3
  rintro σ H3 ⟨x, rfl, L0⟩
  refine sq_J (fun σ H' => ∃ (h : Int), σ = [some (.ref a), some (.int kd), some (.int sp), some (.int wy), some (.int ce), some (.str x), some (.int h), some (.int r), some (.ref t), some (.ref l), none, none, none, none, none] ∧ LS H H' kd x h r t l na nb cs) (fun R hR => ?_) ?_
  · refine rd_if (et_and (et_test (ev_eqI (ev_var rfl) ev_c)) fun _ => et_test (ev_eqI (ev_var rfl) ev_c)) (fun e => ?_) (fun _ => hR _ _ ⟨h, rfl, L0⟩)
    have ek : kd = 0 := of_decide_eq_true ((Bool.and_eq_true _ _).mp e).2
    exact rd_cal (ea_cons (ev_I (ev_var rfl) ev_c (cdB (by decide) (by decide))) (ea_cons ev_c ea_nil)) ⟨ce / 144, 2, rfl, by decide, by decide, fun v H4 s4 hv => hR _ _ ⟨v, rfl, { L0.same s4 with hh := hv, k1 := fun z => by rw [ek] at z; cases z }⟩⟩
  clear L0
  clear h H3
  rintro σ H3 ⟨h, rfl, L0⟩
  refine sq_J (fun σ H' => ∃ (r : Int), σ = [some (.ref a), some (.int kd), some (.int sp), some (.int wy), some (.int ce), some (.str x), some (.int h), some (.int r), some (.ref t), some (.ref l), none, none, none, none, none] ∧ LS H H' kd x h r t l na nb cs) (fun R hR => ?_) ?_
  · refine rd_if (et_test (ev_eqI (ev_var rfl) ev_c)) (fun e => ?_) (fun _ => hR _ _ ⟨r, rfl, L0⟩)
    exact rd_cal (ea_cons (ev_I (ev_var rfl) ev_c (cdB (by decide) (by decide))) (ea_cons ev_c ea_nil)) ⟨ce / 144, 3, rfl, by decide, by decide, fun v H4 s4 hv => hR _ _ ⟨v, rfl, { L0.same s4 with hr := hv }⟩⟩
  clear L0
  clear r H3
  rintro σ H3 ⟨r, rfl, L0⟩
  refine sq_J (fun σ H' => ∃ (l : Addr) (cs : List (List Int)), σ = [some (.ref a), some (.int kd), some (.int sp), some (.int wy), some (.int ce), some (.str x), some (.int h), some (.int r), some (.ref t), some (.ref l), none, none, none, none, none] ∧ LS H H' kd x h r t l na nb cs) (fun R hR => ?_) ?_
  · refine rd_if (et_test (ev_eqI (ev_var rfl) ev_c)) (fun e => ?_) (fun _ => hR _ _ ⟨l, cs, rfl, L0⟩)
    refine te_callA (ta_ev (ev_var rfl) (ta_one (te_cal (ea_cons (ev_var rfl) (ea_cons ev_c ea_nil)) ⟨a, ns, 8, rfl, L0.sm.seq hs, by decide, fun v8 => ?_⟩)))
    have hln := L0.ln
    exact ⟨l, cs, v8, rfl, L0.hl, by omega, fun H4 m ds s4 hm hml hmem => hR _ _ ⟨m, ds, rfl, { L0.same s4 with hl := hm, h6 := fun c hc => L0.h6 c (hmem c hc), ln := hml.trans hln }⟩⟩
  clear L0
  clear l cs H3
  rintro σ H3 ⟨l, cs, rfl, L0⟩
  refine sq_J (fun σ H' => ∃ (h : Int), σ = [some (.ref a), some (.int kd), some (.int sp), some (.int wy), some (.int ce), some (.str x), some (.int h), some (.int r), some (.ref t), some (.ref l), none, none, none, none, none] ∧ LS H H' kd x h r t l na nb cs ∧ (wy = 1 → h = 0)) (fun R hR => ?_) ?_
  · refine rd_if (et_test (ev_eqI (ev_var rfl) ev_c)) (fun e => ?_) (fun e => hR _ _ ⟨h, rfl, L0, fun z => absurd z (of_decide_eq_false e)⟩)
    exact rd_set ev_c (hR _ _ ⟨0, rfl, { L0 with hh := by decide, k1 := fun _ => rfl }, fun _ => rfl⟩)
  clear L0
  clear h H3
  rintro σ H3 ⟨h, rfl, L0, w1⟩
  refine sq_J (fun σ H' => ∃ (r : Int), σ = [some (.ref a), some (.int kd), some (.int sp), some (.int wy), some (.int ce), some (.str x), some (.int h), some (.int r), some (.ref t), some (.ref l), none, none, none, none, none] ∧ LS H H' kd x h r t l na nb cs ∧ (wy = 1 → r = 0) ∧ (wy = 2 → kd = 0 → r = 0)) (fun R hR => ?_) ?_
  · refine rd_if (et_or (et_test (ev_eqI (ev_var rfl) ev_c)) fun _ => et_and (et_test (ev_eqI (ev_var rfl) ev_c)) fun _ => et_test (ev_eqI (ev_var rfl) ev_c)) (fun e => ?_) (fun e => ?_)
    · exact rd_set ev_c (hR _ _ ⟨0, rfl, { L0 with hr := by decide }, fun _ => rfl, fun _ _ => rfl⟩)
    · refine hR _ _ ⟨r, rfl, L0, fun z => ?_, fun z1 z2 => ?_⟩
      · have := ((Bool.or_eq_false_iff).mp e).1
        exact absurd z (of_decide_eq_false this)
      · have := ((Bool.or_eq_false_iff).mp e).2
        rw [decide_eq_true z1, decide_eq_true z2] at this
        cases this
  clear L0
  clear r H3
  rintro σ H3 ⟨r, rfl, L0, w2, w3⟩
  obtain ⟨sm, hA, hh, hr', hk1, ht, hk0, ⟨as, hl, hT⟩, h6, ln⟩ := L0
  have len : as.length = cs.length := Paired.length hT
  refine sq_asg ⟨_, rfl, _, rfl, t, _, _, _, rfl, rfl, SqT.of ht, rfl, _, rfl, l, _, rfl, SqL.of hl, fun o1 no1 => ?_⟩
  refine nrm (σ' := [some (.ref a), some (.int kd), some (.int sp), some (.int wy), some (.int ce), some (.str x), some (.int h), some (.int r), some (.ref t), some (.ref l), some (.ref o1), none, none, none, none]) (by kernel_rfl) ?_
  have s4 : Same H3 (upd H3 o1 (.lst (cutV (as.map V.ref) none (some (na : Int))))) := (Same.refl H3).upd no1
  have ho1 : upd H3 o1 (.lst (cutV (as.map V.ref) none (some (na : Int)))) o1 = some (.lst ((as.take na).map V.ref)) := by rw [upd_same, cut_to _ _ (by rw [List.length_map]; omega), List.map_take]
  revert s4 ho1
  generalize upd H3 o1 (.lst (cutV (as.map V.ref) none (some (na : Int)))) = H4
  intro s4 ho1
  refine sq_asg ⟨_, rfl, _, rfl, t, _, _, _, rfl, rfl, SqT.of (s4 _ _ ht), rfl, _, rfl, l, _, rfl, SqL.of (s4 _ _ hl), fun o2 no2 => ?_⟩
  refine nrm (σ' := [some (.ref a), some (.int kd), some (.int sp), some (.int wy), some (.int ce), some (.str x), some (.int h), some (.int r), some (.ref t), some (.ref l), some (.ref o1), some (.ref o2), none, none, none]) (by kernel_rfl) ?_
  have s5 : Same H4 (upd H4 o2 (.lst (cutV (as.map V.ref) (some (na : Int)) none))) := (Same.refl H4).upd no2
  have ho2 : upd H4 o2 (.lst (cutV (as.map V.ref) (some (na : Int)) none)) o2 = some (.lst ((as.drop na).map V.ref)) := by rw [upd_same, cut_of _ _ (by rw [List.length_map]; omega), List.map_drop]
  have hT1 : Tups H3 (as.take na) (cs.take na) := tups_take hT na
  have hT2 : Tups H3 (as.drop na) (cs.drop na) := tups_drop hT na
  have h6' : ∀ c ∈ cs.take na ++ cs.drop na, Sp6 c := by rw [List.take_append_drop]; exact h6
  have h19' : (cs.take na ++ cs.drop na).length ≤ 19 := by rw [List.take_append_drop]; omega
  have hK : Kd kd h (cs.drop na) := by
    rcases hkd with e | e
    · exact .inl ⟨e, List.drop_eq_nil_of_le (by have := hk0 e; omega)⟩
    · exact .inr ⟨e, hk1 e⟩
  revert s5 ho2 hT1 hT2 h6' h19' hK ho1
  generalize upd H4 o2 (.lst (cutV (as.map V.ref) (some (na : Int)) none)) = H5
  generalize as.take na = a1
  generalize as.drop na = b1
  generalize cs.take na = c1
  generalize cs.drop na = d1
  intro ho1 s5 ho2 hT1 hT2 h6' h19' hK
  replace ho1 := s5 _ _ ho1
  have s35 := s4.trans s5
  replace hT1 := Tups.same hT1 s35
  replace hT2 := Tups.same hT2 s35
  refine sq_asg (te_lstA (ta_one (te_cb1 ⟨_, rfl, o1, _, rfl, .inl (SqL.of ho1), fun e1 ne1 => ?_⟩)))
  have s6 : Same H5 (upd H5 e1 (.lst (a1.map V.ref))) := (Same.refl H5).upd ne1
  have he1 : upd H5 e1 (.lst (a1.map V.ref)) e1 = some (.lst (a1.map V.ref)) := upd_same
  revert s6 he1
  generalize upd H5 e1 (.lst (a1.map V.ref)) = H6
  intro s6 he1
  refine ta_one (te_cb1 ⟨_, rfl, o2, _, rfl, .inl (SqL.of (s6 _ _ ho2)), fun e2 ne2 => ?_⟩)
  have s7 : Same H6 (upd H6 e2 (.lst (b1.map V.ref))) := (Same.refl H6).upd ne2
  have he2 : upd H6 e2 (.lst (b1.map V.ref)) e2 = some (.lst (b1.map V.ref)) := upd_same
  have ne12 : e1 ≠ e2 := ne_of_none he1 ne2
  have n11 : o1 ≠ e1 := ne_of_none ho1 ne1
  have n21 : o2 ≠ e1 := ne_of_none ho2 ne1
  have n12 : o1 ≠ e2 := ne_of_none (s6 _ _ ho1) ne2
  have n22 : o2 ≠ e2 := ne_of_none (s6 _ _ ho2) ne2
  revert s7 he2
  generalize upd H6 e2 (.lst (b1.map V.ref)) = H7
  intro s7 he2
  refine ⟨(by show 2 ≤ sizeLine; decide), fun hd nhd => ?_⟩
  have s8 : Same H7 (upd H7 hd (.lst [.ref e1, .ref e2])) := (Same.refl H7).upd nhd
  have hhd : upd H7 hd (.lst [.ref e1, .ref e2]) hd = some (.lst [.ref e1, .ref e2]) := upd_same
  revert s8 hhd
  generalize upd H7 hd (.lst [.ref e1, .ref e2]) = H8
  intro s8 hhd
  refine nrm (σ' := [some (.ref a), some (.int kd), some (.int sp), some (.int wy), some (.int ce), some (.str x), some (.int h), some (.int r), some (.ref t), some (.ref l), some (.ref o1), some (.ref o2), some (.ref hd), none, none]) (by kernel_rfl) ?_
  have s58 := (s6.trans s7).trans s8
  replace ho1 := s58 _ _ ho1
  replace ho2 := s58 _ _ ho2
  replace he1 := s8 _ _ (s7 _ _ he1)
  replace he2 := s8 _ _ he2
  replace hT1 := Tups.same hT1 s58
  replace hT2 := Tups.same hT2 s58
  refine sq_ifof (te_callA (ta_ev (ev_var rfl) (ta_ev (ev_var rfl) (ta_ev (ev_var rfl) (ta_ev (ev_var rfl) (ta_ev (ev_var rfl) (ta_ev (ev_var rfl) ?_)))))))
  refine ⟨o1, o2, c1, d1, x, kd, h, r, rfl, ⟨a1, ho1, hT1⟩, ⟨b1, ho2, hT2⟩, h6', h19', hA, hK, fun H9 s9 => ⟨_, rfl, ?_⟩⟩
  replace ho1 := s9 _ _ ho1
  replace ho2 := s9 _ _ ho2
  replace he1 := s9 _ _ he1
  replace he2 := s9 _ _ he2
  replace hhd := s9 _ _ hhd
  replace hT1 := Tups.same hT1 s9
  replace hT2 := Tups.same hT2 s9
  have mk : MkIn H9 e1 e2 a1 b1 c1 d1 x kd wy h r := ⟨he1, he2, hT1, hT2, h6', h19', hA, hh, hr', hK, fun z => ⟨w1 z, w2 z⟩, w3⟩
  have i0 : ∀ {σ : St}, σ[12]? = some (some (.ref hd)) → Ev (tOp (rIxL K) (tVar 12) (tC (.int 0))) σ H9 (.ref e1) := fun e => ev_ixL (ev_var e) ev_c (SqL.of hhd) rfl
  have i1 : ∀ {σ : St}, σ[12]? = some (some (.ref hd)) → Ev (tOp (rIxL K) (tVar 12) (tC (.int 1))) σ H9 (.ref e2) := fun e => ev_ixL (ev_var e) ev_c (SqL.of hhd) rfl
  cases ed : due kd x h r c1 d1 with
  | false =>
    refine iteT ?_
    refine sq_asg (te_cal (ea_cons (ev_var rfl) (ea_cons (ev_var rfl) (ea_cons (ev_var rfl) (ea_cons (ev_var rfl) (ea_cons (ev_var rfl) (ea_cons (i0 rfl) (ea_cons (i1 rfl) ea_nil))))))) ⟨e1, e2, a1, b1, c1, d1, x, kd, wy, h, r, rfl, mk, ed, fun H10 s10 => ?_⟩)
    refine rd_te ⟨_, rfl, true, rfl, iteT ⟨_, rfl, ?_⟩⟩
    refine te_lst (vs := [.ref o1, .ref o2]) (ea_cons (ev_var rfl) (ea_cons (ev_var rfl) ea_nil)) (by show 2 ≤ sizeLine; decide) fun p np => ?_
    have s11 : Same H9 (upd H10 p (.lst [.ref o1, .ref o2])) := s10.upd np
    have d1' := dp_two (K := K) (s11 _ _ hhd) (s11 _ _ he1) (s11 _ _ he2) (Tups.same hT1 s11) (Tups.same hT2 s11)
    have d2' := dp_two (K := K) (upd_same (H := H10) (a := p) (o := .lst [.ref o1, .ref o2])) (s11 _ _ ho1) (s11 _ _ ho2) (Tups.same hT1 s11) (Tups.same hT2 s11)
    refine ⟨_, _, d1', d2', row_two _ _, ?_⟩
    rw [eqv_refl d1'.lay]
    exact q _
  | true =>
  refine iteF ?_
  refine sq_asg (te_calX (ea_cons (ev_var rfl) (ea_cons (ev_var rfl) (ea_cons (ev_var rfl) (ea_cons (ev_var rfl) (ea_cons (ev_var rfl) (ea_cons (i0 rfl) (ea_cons (i1 rfl) ea_nil))))))) ⟨e1, e2, a1, b1, c1, d1, x, kd, wy, h, r, rfl, mk, fun _ H10 p s10 hTh => ?_, fun z => absurd (z.symm.trans ed) (by decide)⟩)
  refine nrm (σ' := [some (.ref a), some (.int kd), some (.int sp), some (.int wy), some (.int ce), some (.str x), some (.int h), some (.int r), some (.ref t), some (.ref l), some (.ref o1), some (.ref o2), some (.ref hd), none, some (.ref p)]) (by kernel_rfl) ?_
  replace ho1 := s10 _ _ ho1
  replace ho2 := s10 _ _ ho2
  replace he1 := s10 _ _ he1
  replace he2 := s10 _ _ he2
  replace hhd := s10 _ _ hhd
  replace hT1 := Tups.same hT1 s10
  replace hT2 := Tups.same hT2 s10
  have isT : ∀ {σ : St}, σ[14]? = some (some (.ref p)) → Ev (tCB (fun xs H Q => ∃ x y c t b, xs = [x, y] ∧ ClsV y c ∧ TyOf K H x t ∧ PySem.W.kitOne K t c = some b ∧ Q (.bl b) H) (tCons (tVar 14) (tCons (tC (.ref cThing)) tNil))) σ H10 (.bl true) := fun {σ} hv => by
    obtain ⟨dx, fs, b, hT⟩ := hTh
    rcases hT with ⟨_, k1, _⟩ | ⟨_, k1, _⟩
    · exact ev_cb (v := .bl true) (ea_cons (ev_var hv) (ea_cons ev_c ea_nil)) fun Q' q' => ⟨_, _, _, _, _, rfl, .ref cThing, .ins k1 T.cl_Net T.qN T.qg T.qt T.oN, T.nT, q'⟩
    · exact ev_cb (v := .bl true) (ea_cons (ev_var hv) (ea_cons ev_c ea_nil)) fun Q' q' => ⟨_, _, _, _, _, rfl, .ref cThing, .ins k1 T.cl_Bundle T.qB T.qg T.qt T.oB, T.bT, q'⟩
  refine sq_ifof (or_F (et_not (et_B (isT rfl))) rfl ?_)
  refine ⟨_, rfl, ?_⟩
  refine te_lst (vs := [.ref o1, .ref o2]) (ea_cons (ev_var rfl) (ea_cons (ev_var rfl) ea_nil)) (by show 2 ≤ sizeLine; decide) fun p2 np2 => ?_
  have s11 : Same H10 (upd H10 p2 (.lst [.ref o1, .ref o2])) := (Same.refl H10).upd np2
  have hp2 : upd H10 p2 (.lst [.ref o1, .ref o2]) p2 = some (.lst [.ref o1, .ref o2]) := upd_same
  revert s11 hp2
  generalize upd H10 p2 (.lst [.ref o1, .ref o2]) = H11
  intro s11 hp2
  replace ho1 := s11 _ _ ho1
  replace ho2 := s11 _ _ ho2
  replace he1 := s11 _ _ he1
  replace he2 := s11 _ _ he2
  replace hhd := s11 _ _ hhd
  replace hT1 := Tups.same hT1 s11
  replace hT2 := Tups.same hT2 s11
  replace hTh := hTh.same s11
  have d1' := dp_two (K := K) hhd he1 he2 hT1 hT2
  have d2' := dp_two (K := K) hp2 ho1 ho2 hT1 hT2
  refine ⟨_, _, d1', d2', row_two _ _, _, rfl, ?_⟩
  rw [eqv_same d1']
  refine iteF ?_
  have ehd : hd ≠ e1 := fun z => by
    rw [z, he1] at hhd
    have hhd := HO.lst.inj (Option.some.inj hhd)
    have : V.ref e1 ∈ a1.map V.ref := by rw [hhd]; exact List.mem_cons_self
    obtain ⟨b, hb, e⟩ := List.mem_map.mp this
    cases e
    obtain ⟨cc, _, hcc⟩ := mem_pair hT1 hb
    rw [he1] at hcc; cases hcc
  refine te_bm0 (ev_ixL (v := .ref e1) (ev_var rfl) ev_c (SqL.of hhd) rfl) (.inl ⟨rfl, _, SqL.of he1⟩) ⟨e1, _, rfl, rfl, he1, ?_⟩
  have k12 : Kp H11 (upd H11 e1 (.lst [])) := Kp.clr he1
  have hhd2 : upd H11 e1 (.lst []) hd = some (.lst [.ref e1, .ref e2]) := by rw [upd_ne ehd]; exact hhd
  have he22 : upd H11 e1 (.lst []) e2 = some (.lst (b1.map V.ref)) := by rw [upd_ne (Ne.symm ne12)]; exact he2
  have ho12 : upd H11 e1 (.lst []) o1 = some (.lst (a1.map V.ref)) := by rw [upd_ne n11]; exact ho1
  have ho22 : upd H11 e1 (.lst []) o2 = some (.lst (b1.map V.ref)) := by rw [upd_ne n21]; exact ho2
  revert k12 hhd2 he22 ho12 ho22
  generalize upd H11 e1 (.lst []) = H12
  intro k12 hhd2 he22 ho12 ho22
  refine st ?_
  refine te_bm0 (ev_ixL (v := .ref e2) (ev_var rfl) ev_c (SqL.of hhd2) rfl) (.inl ⟨rfl, _, SqL.of he22⟩) ⟨e2, _, rfl, rfl, he22, ?_⟩
  have k13 : Kp H11 (upd H12 e2 (.lst [])) := k12.trans (Kp.clr he22)
  have ho13 : upd H12 e2 (.lst []) o1 = some (.lst (a1.map V.ref)) := by rw [upd_ne n12]; exact ho12
  have ho23 : upd H12 e2 (.lst []) o2 = some (.lst (b1.map V.ref)) := by rw [upd_ne n22]; exact ho22
  revert k13 ho13 ho23
  generalize upd H12 e2 (.lst []) = H13
  intro k13 ho13 ho23
  refine st ?_
  replace hTh := hTh.keep k13
  replace hT1 := k13.tups hT1
  replace hT2 := k13.tups hT2
  have hC : ∃ C dx fs, H13 p = some (.ins C dx fs) ∧ Base fs x h r ∧ Cls K C ∧ NoAttr K C "name" ∧ NoAttr K C "half" ∧ NoAttr K C "room" := by
    obtain ⟨dx, fs, b, hT⟩ := hTh
    rcases hT with ⟨_, k1, _⟩ | ⟨_, k1, _⟩
    · exact ⟨_, dx, fs, k1, b, T.cl_Net, T.na_Net_name, T.na_Net_half, T.na_Net_room⟩
    · exact ⟨_, dx, fs, k1, b, T.cl_Bundle, T.na_Bundle_name, T.na_Bundle_half, T.na_Bundle_room⟩
  obtain ⟨C, dx, fs, hp, bs, cl, na1, na2, na3⟩ := hC
  refine sq_ifF (b := false) (et_of (et_or (a := false) (b := false) (et_not (b := true) (et_B (ev_cb (v := .bl true) (ea_cons (ev_fldT (ev_var rfl) hp cl na1 bs.1) (ea_cons ev_c ea_nil)) fun Q' q' => ⟨_, _, _, _, _, rfl, .ty "str", .str x, T.ss, q'⟩))) fun _ => et_test (ev_of (L2.ev_neS (x := x) (y := x) (ev_fldT (ev_var rfl) hp cl na1 bs.1) (ev_var rfl)) (by rw [decide_eq_true rfl]; rfl))) rfl) rfl ?_
  refine sq_ifF (b := false) (et_of (et_or (a := false) (b := false) (et_not (b := true) (et_B (ev_cal (sp := spNumber) (v := .bl true) (ea_cons (ev_fldT (ev_var rfl) hp cl na2 bs.2.1) (ea_cons (ev_var rfl) ea_nil)) fun Q' q' => ⟨h, h, rfl, by rw [decide_eq_true rfl]; exact q'⟩))) fun _ => et_not (b := true) (et_B (ev_cal (sp := spNumber) (v := .bl true) (ea_cons (ev_fldT (ev_var rfl) hp cl na3 bs.2.2.1) (ea_cons (ev_var rfl) ea_nil)) fun Q' q' => ⟨r, r, rfl, by rw [decide_eq_true rfl]; exact q'⟩))) rfl) rfl ?_
  exact rd_te (te_cal (sp := spTold cNet cBundle) (ea_cons (ev_var rfl) (ea_cons (ev_var rfl) (ea_cons (ev_var rfl) (ea_cons (ev_var rfl) ea_nil)))) ⟨p, o1, o2, a1, b1, c1, d1, x, kd, h, r, rfl, hTh, hT1, hT2, ho13, ho23, h19', hK, fun H' _ => q H'⟩)
end
set_option maxHeartbeats 2000000 in
theorem all_mk {l : PySem.W.OpenLaw} {w : World} {K : PySem.W.Frag} {h : Heap} {mg : Str → Option Value} {fa : Addr} (X : K.In h) (G : h.Ns mainGlobals mg) (hfa : mg "law" = some (.ref fa))
    {cThing : Addr}
    {cNet : Addr}
    {cBundle : Addr}
    {cWireError : Addr}
    {cBadSize : Addr}
    {cBadPrice : Addr}
    {cOutOfFloor : Addr}
    {cTwice : Addr}
    {cNoFit : Addr}
    {cCrowded : Addr}
    {cBadThing : Addr}
    {f0 : Addr} {od0 an0 : Option Addr} {sl0 : Array (Option Value)} {oc0 kV0 dc0 pm0 cd0 ct0 : Value}
    {f1 : Addr} {od1 an1 : Option Addr} {sl1 : Array (Option Value)} {oc1 kV1 dc1 pm1 cd1 ct1 : Value}
    {f2 : Addr} {od2 an2 : Option Addr} {sl2 : Array (Option Value)} {oc2 kV2 dc2 pm2 cd2 ct2 : Value}
    {f3 : Addr} {od3 an3 : Option Addr} {sl3 : Array (Option Value)} {oc3 kV3 dc3 pm3 cd3 ct3 : Value}
    {T3 : Addr} {do3 : Option Addr} {ds3 : Array (Option Value)} {dq3 : Value} {dn3 : Nat} {dt3_0 : Tok} {dt3_1 : Tok}
    {f4 : Addr} {od4 an4 : Option Addr} {sl4 : Array (Option Value)} {oc4 kV4 dc4 pm4 cd4 ct4 : Value}
    {T4 : Addr} {do4 : Option Addr} {ds4 : Array (Option Value)} {dq4 : Value} {dn4 : Nat} {dt4_0 : Tok}
    {f5 : Addr} {od5 an5 : Option Addr} {sl5 : Array (Option Value)} {oc5 kV5 dc5 pm5 cd5 ct5 : Value}
    {f6 : Addr} {od6 an6 : Option Addr} {sl6 : Array (Option Value)} {oc6 kV6 dc6 pm6 cd6 ct6 : Value}
    {f7 : Addr} {od7 an7 : Option Addr} {sl7 : Array (Option Value)} {oc7 kV7 dc7 pm7 cd7 ct7 : Value}
    {f8 : Addr} {od8 an8 : Option Addr} {sl8 : Array (Option Value)} {oc8 kV8 dc8 pm8 cd8 ct8 : Value}
    {f9 : Addr} {od9 an9 : Option Addr} {sl9 : Array (Option Value)} {oc9 kV9 dc9 pm9 cd9 ct9 : Value}
    {f10 : Addr} {od10 an10 : Option Addr} {sl10 : Array (Option Value)} {oc10 kV10 dc10 pm10 cd10 ct10 : Value}
    {f11 : Addr} {od11 an11 : Option Addr} {sl11 : Array (Option Value)} {oc11 kV11 dc11 pm11 cd11 ct11 : Value}
    {f12 : Addr} {od12 an12 : Option Addr} {sl12 : Array (Option Value)} {oc12 kV12 dc12 pm12 cd12 ct12 : Value}
    {f13 : Addr} {od13 an13 : Option Addr} {sl13 : Array (Option Value)} {oc13 kV13 dc13 pm13 cd13 ct13 : Value}
    {f14 : Addr} {od14 an14 : Option Addr} {sl14 : Array (Option Value)} {oc14 kV14 dc14 pm14 cd14 ct14 : Value}
    {f15 : Addr} {od15 an15 : Option Addr} {sl15 : Array (Option Value)} {oc15 kV15 dc15 pm15 cd15 ct15 : Value}
    {f16 : Addr} {od16 an16 : Option Addr} {sl16 : Array (Option Value)} {oc16 kV16 dc16 pm16 cd16 ct16 : Value}
    {f17 : Addr} {od17 an17 : Option Addr} {sl17 : Array (Option Value)} {oc17 kV17 dc17 pm17 cd17 ct17 : Value}
    {f18 : Addr} {od18 an18 : Option Addr} {sl18 : Array (Option Value)} {oc18 kV18 dc18 pm18 cd18 ct18 : Value}
    {f19 : Addr} {od19 an19 : Option Addr} {sl19 : Array (Option Value)} {oc19 kV19 dc19 pm19 cd19 ct19 : Value}
    {f20 : Addr} {od20 an20 : Option Addr} {sl20 : Array (Option Value)} {oc20 kV20 dc20 pm20 cd20 ct20 : Value}
    {f21 : Addr} {od21 an21 : Option Addr} {sl21 : Array (Option Value)} {oc21 kV21 dc21 pm21 cd21 ct21 : Value}
    {tLETTERS : Tok}
    {tFIGURES : Tok}
    {tMOST_SIGNS : Tok}
    {tMOST_HALF : Tok}
    {tMOST_ROOM : Tok}
    {tMOST_PINS : Tok}
    {tMOST_STARTS : Tok}
    {tMOST_GOALS : Tok}
    (n_Thing : PySem.W.nsIn K mainGlobals "Thing" = some (some (.ref cThing)))
    (n_Net : PySem.W.nsIn K mainGlobals "Net" = some (some (.ref cNet)))
    (n_Bundle : PySem.W.nsIn K mainGlobals "Bundle" = some (some (.ref cBundle)))
    (a0 : PySem.W.nsIn K mainGlobals "is_name" = some (some (.ref f0)))
    (l0 : K.lookup f0 = some ⟨oc0, od0, .func (PySem.W.fnOf "is_name" "is_name" (defArgs sName) (defBody sName) (defScope sName) .none kV0 dc0 pm0 an0 cd0 ct0), sl0⟩)
    (c0 : PySem.W.codeIn K cd0 "is_name" = true)
    (k0 : PySem.W.keepIn K (.ref f0) = true)
    (a1 : PySem.W.nsIn K mainGlobals "check_unlike" = some (some (.ref f1)))
    (l1 : K.lookup f1 = some ⟨oc1, od1, .func (PySem.W.fnOf "check_unlike" "check_unlike" (defArgs sUnlike) (defBody sUnlike) (defScope sUnlike) .none kV1 dc1 pm1 an1 cd1 ct1), sl1⟩)
    (c1 : PySem.W.codeIn K cd1 "check_unlike" = true)
    (k1 : PySem.W.keepIn K (.ref f1) = true)
    (r2 : PySem.W.readsIn K cThing (.type "type") = true)
    (q2 : PySem.W.findCls K (.ref cThing) (.type "type") "__init__" = some (.val (.ref f2)))
    (g2 : PySem.W.specialIn K (.ref cThing) "__getattribute__" = some (some (.builtin "type.__getattribute__")))
    (l2 : K.lookup f2 = some ⟨oc2, od2, .func (PySem.W.fnOf "__init__" "Thing.__init__" (defArgs sTInit) (defBody sTInit) (defScope sTInit) .none kV2 dc2 pm2 an2 cd2 ct2), sl2⟩)
    (c2 : PySem.W.codeIn K cd2 "Thing.__init__" = true)
    (k2 : PySem.W.keepIn K (.ref f2) = true)
    (a3 : PySem.W.findIn K (.ref cNet) "__init__" = some (some (.ref f3)))
    (i3 : PySem.W.isFn K (.ref f3) = true)
    (l3 : K.lookup f3 = some ⟨oc3, od3, .func (PySem.W.fnOf "__init__" "Net.__init__" (defArgs sNInit) (defBody sNInit) (defScope sNInit) (.ref T3) kV3 dc3 pm3 an3 cd3 ct3), sl3⟩)
    (d3 : K.lookup T3 = some ⟨dq3, do3, .seq #[.int 0 dt3_0, .int 0 dt3_1] dn3, ds3⟩)
    (c3 : PySem.W.codeIn K cd3 "Net.__init__" = true)
    (k3 : PySem.W.keepIn K (.ref f3) = true)
    (a4 : PySem.W.findIn K (.ref cBundle) "__init__" = some (some (.ref f4)))
    (i4 : PySem.W.isFn K (.ref f4) = true)
    (l4 : K.lookup f4 = some ⟨oc4, od4, .func (PySem.W.fnOf "__init__" "Bundle.__init__" (defArgs sBInit) (defBody sBInit) (defScope sBInit) (.ref T4) kV4 dc4 pm4 an4 cd4 ct4), sl4⟩)
    (d4 : K.lookup T4 = some ⟨dq4, do4, .seq #[.int 0 dt4_0] dn4, ds4⟩)
    (c4 : PySem.W.codeIn K cd4 "Bundle.__init__" = true)
    (k4 : PySem.W.keepIn K (.ref f4) = true)
    (a5 : PySem.W.nsIn K mainGlobals "_law_cell_at" = some (some (.ref f5)))
    (l5 : K.lookup f5 = some ⟨oc5, od5, .func (PySem.W.fnOf "_law_cell_at" "_law_cell_at" (defArgs sCell) (defBody sCell) (defScope sCell) .none kV5 dc5 pm5 an5 cd5 ct5), sl5⟩)
    (c5 : PySem.W.codeIn K cd5 "_law_cell_at" = true)
    (k5 : PySem.W.keepIn K (.ref f5) = true)
    (a6 : PySem.W.nsIn K mainGlobals "_law_folded" = some (some (.ref f6)))
    (l6 : K.lookup f6 = some ⟨oc6, od6, .func (PySem.W.fnOf "_law_folded" "_law_folded" (defArgs sFolded) (defBody sFolded) (defScope sFolded) .none kV6 dc6 pm6 an6 cd6 ct6), sl6⟩)
    (c6 : PySem.W.codeIn K cd6 "_law_folded" = true)
    (k6 : PySem.W.keepIn K (.ref f6) = true)
    (a7 : PySem.W.nsIn K mainGlobals "_law_name" = some (some (.ref f7)))
    (l7 : K.lookup f7 = some ⟨oc7, od7, .func (PySem.W.fnOf "_law_name" "_law_name" (defArgs sLName) (defBody sLName) (defScope sLName) .none kV7 dc7 pm7 an7 cd7 ct7), sl7⟩)
    (c7 : PySem.W.codeIn K cd7 "_law_name" = true)
    (k7 : PySem.W.keepIn K (.ref f7) = true)
    (a8 : PySem.W.nsIn K mainGlobals "_law_name_spoiled" = some (some (.ref f8)))
    (l8 : K.lookup f8 = some ⟨oc8, od8, .func (PySem.W.fnOf "_law_name_spoiled" "_law_name_spoiled" (defArgs sSpoiled) (defBody sSpoiled) (defScope sSpoiled) .none kV8 dc8 pm8 an8 cd8 ct8), sl8⟩)
    (c8 : PySem.W.codeIn K cd8 "_law_name_spoiled" = true)
    (k8 : PySem.W.keepIn K (.ref f8) = true)
    (a9 : PySem.W.nsIn K mainGlobals "_law_spots" = some (some (.ref f9)))
    (l9 : K.lookup f9 = some ⟨oc9, od9, .func (PySem.W.fnOf "_law_spots" "_law_spots" (defArgs sSpots) (defBody sSpots) (defScope sSpots) .none kV9 dc9 pm9 an9 cd9 ct9), sl9⟩)
    (c9 : PySem.W.codeIn K cd9 "_law_spots" = true)
    (k9 : PySem.W.keepIn K (.ref f9) = true)
    (a10 : PySem.W.nsIn K mainGlobals "_law_doubled" = some (some (.ref f10)))
    (l10 : K.lookup f10 = some ⟨oc10, od10, .func (PySem.W.fnOf "_law_doubled" "_law_doubled" (defArgs sDoubled) (defBody sDoubled) (defScope sDoubled) .none kV10 dc10 pm10 an10 cd10 ct10), sl10⟩)
    (c10 : PySem.W.codeIn K cd10 "_law_doubled" = true)
    (k10 : PySem.W.keepIn K (.ref f10) = true)
    (a11 : PySem.W.nsIn K mainGlobals "_law_out" = some (some (.ref f11)))
    (l11 : K.lookup f11 = some ⟨oc11, od11, .func (PySem.W.fnOf "_law_out" "_law_out" (defArgs sOut) (defBody sOut) (defScope sOut) .none kV11 dc11 pm11 an11 cd11 ct11), sl11⟩)
    (c11 : PySem.W.codeIn K cd11 "_law_out" = true)
    (k11 : PySem.W.keepIn K (.ref f11) = true)
    (a12 : PySem.W.nsIn K mainGlobals "_law_many" = some (some (.ref f12)))
    (l12 : K.lookup f12 = some ⟨oc12, od12, .func (PySem.W.fnOf "_law_many" "_law_many" (defArgs sLMany) (defBody sLMany) (defScope sLMany) .none kV12 dc12 pm12 an12 cd12 ct12), sl12⟩)
    (c12 : PySem.W.codeIn K cd12 "_law_many" = true)
    (k12 : PySem.W.keepIn K (.ref f12) = true)
    (a13 : PySem.W.nsIn K mainGlobals "_law_good_name" = some (some (.ref f13)))
    (l13 : K.lookup f13 = some ⟨oc13, od13, .func (PySem.W.fnOf "_law_good_name" "_law_good_name" (defArgs sGood) (defBody sGood) (defScope sGood) .none kV13 dc13 pm13 an13 cd13 ct13), sl13⟩)
    (c13 : PySem.W.codeIn K cd13 "_law_good_name" = true)
    (k13 : PySem.W.keepIn K (.ref f13) = true)
    (a14 : PySem.W.nsIn K mainGlobals "_law_due" = some (some (.ref f14)))
    (l14 : K.lookup f14 = some ⟨oc14, od14, .func (PySem.W.fnOf "_law_due" "_law_due" (defArgs sDue) (defBody sDue) (defScope sDue) .none kV14 dc14 pm14 an14 cd14 ct14), sl14⟩)
    (c14 : PySem.W.codeIn K cd14 "_law_due" = true)
    (k14 : PySem.W.keepIn K (.ref f14) = true)
    (a15 : PySem.W.nsIn K mainGlobals "_law_make" = some (some (.ref f15)))
    (l15 : K.lookup f15 = some ⟨oc15, od15, .func (PySem.W.fnOf "_law_make" "_law_make" (defArgs sMake) (defBody sMake) (defScope sMake) .none kV15 dc15 pm15 an15 cd15 ct15), sl15⟩)
    (c15 : PySem.W.codeIn K cd15 "_law_make" = true)
    (k15 : PySem.W.keepIn K (.ref f15) = true)
    (a16 : PySem.W.nsIn K mainGlobals "_law_refused" = some (some (.ref f16)))
    (l16 : K.lookup f16 = some ⟨oc16, od16, .func (PySem.W.fnOf "_law_refused" "_law_refused" (defArgs sRefused) (defBody sRefused) (defScope sRefused) .none kV16 dc16 pm16 an16 cd16 ct16), sl16⟩)
    (c16 : PySem.W.codeIn K cd16 "_law_refused" = true)
    (k16 : PySem.W.keepIn K (.ref f16) = true)
    (a17 : PySem.W.nsIn K mainGlobals "_law_number" = some (some (.ref f17)))
    (l17 : K.lookup f17 = some ⟨oc17, od17, .func (PySem.W.fnOf "_law_number" "_law_number" (defArgs sNumber) (defBody sNumber) (defScope sNumber) .none kV17 dc17 pm17 an17 cd17 ct17), sl17⟩)
    (c17 : PySem.W.codeIn K cd17 "_law_number" = true)
    (k17 : PySem.W.keepIn K (.ref f17) = true)
    (a18 : PySem.W.findIn K (.ref cNet) "ends" = some (some (.ref f18)))
    (i18 : PySem.W.isFn K (.ref f18) = true)
    (l18 : K.lookup f18 = some ⟨oc18, od18, .func (PySem.W.fnOf "ends" "Net.ends" (defArgs sNEnds) (defBody sNEnds) (defScope sNEnds) .none kV18 dc18 pm18 an18 cd18 ct18), sl18⟩)
    (c18 : PySem.W.codeIn K cd18 "Net.ends" = true)
    (k18 : PySem.W.keepIn K (.ref f18) = true)
    (a19 : PySem.W.findIn K (.ref cBundle) "ends" = some (some (.ref f19)))
    (i19 : PySem.W.isFn K (.ref f19) = true)
    (l19 : K.lookup f19 = some ⟨oc19, od19, .func (PySem.W.fnOf "ends" "Bundle.ends" (defArgs sBEnds) (defBody sBEnds) (defScope sBEnds) .none kV19 dc19 pm19 an19 cd19 ct19), sl19⟩)
    (c19 : PySem.W.codeIn K cd19 "Bundle.ends" = true)
    (k19 : PySem.W.keepIn K (.ref f19) = true)
    (a20 : PySem.W.nsIn K mainGlobals "_law_told" = some (some (.ref f20)))
    (l20 : K.lookup f20 = some ⟨oc20, od20, .func (PySem.W.fnOf "_law_told" "_law_told" (defArgs sTold) (defBody sTold) (defScope sTold) .none kV20 dc20 pm20 an20 cd20 ct20), sl20⟩)
    (c20 : PySem.W.codeIn K cd20 "_law_told" = true)
    (k20 : PySem.W.keepIn K (.ref f20) = true)
    (a21 : PySem.W.nsIn K mainGlobals "law" = some (some (.ref f21)))
    (l21 : K.lookup f21 = some ⟨oc21, od21, .func (PySem.W.fnOf "law" "law" (defArgs slaw) (defBody slaw) (defScope slaw) .none kV21 dc21 pm21 an21 cd21 ct21), sl21⟩)
    (c21 : PySem.W.codeIn K cd21 "law" = true)
    (k21 : PySem.W.keepIn K (.ref f21) = true)
    (pg_Thing : PySem.W.plainGet K cThing Str.empty = true)
    (hd_Thing : PySem.W.hasDictIn K cThing = true)
    (po_Thing : PySem.W.plainOver K cThing = true)
    (sa_Thing : PySem.W.findIn K (.ref cThing) "__setattr__" = some (some (.builtin "object.__setattr__")))
    (pg_Net : PySem.W.plainGet K cNet Str.empty = true)
    (hd_Net : PySem.W.hasDictIn K cNet = true)
    (po_Net : PySem.W.plainOver K cNet = true)
    (sa_Net : PySem.W.findIn K (.ref cNet) "__setattr__" = some (some (.builtin "object.__setattr__")))
    (mk_Net : PySem.W.makesIn K cNet = true)
    (kc_Net : PySem.W.keepIn K (.ref cNet) = true)
    (na_Net_name : PySem.W.findIn K (.ref cNet) "name" = some none)
    (na_Net_half : PySem.W.findIn K (.ref cNet) "half" = some none)
    (na_Net_room : PySem.W.findIn K (.ref cNet) "room" = some none)
    (na_Net_pins : PySem.W.findIn K (.ref cNet) "pins" = some none)
    (pg_Bundle : PySem.W.plainGet K cBundle Str.empty = true)
    (hd_Bundle : PySem.W.hasDictIn K cBundle = true)
    (po_Bundle : PySem.W.plainOver K cBundle = true)
    (sa_Bundle : PySem.W.findIn K (.ref cBundle) "__setattr__" = some (some (.builtin "object.__setattr__")))
    (mk_Bundle : PySem.W.makesIn K cBundle = true)
    (kc_Bundle : PySem.W.keepIn K (.ref cBundle) = true)
    (na_Bundle_name : PySem.W.findIn K (.ref cBundle) "name" = some none)
    (na_Bundle_half : PySem.W.findIn K (.ref cBundle) "half" = some none)
    (na_Bundle_room : PySem.W.findIn K (.ref cBundle) "room" = some none)
    (na_Bundle_starts : PySem.W.findIn K (.ref cBundle) "starts" = some none)
    (na_Bundle_goals : PySem.W.findIn K (.ref cBundle) "goals" = some none)
    (n_WireError : PySem.W.nsIn K mainGlobals "WireError" = some (some (.ref cWireError)))
    (n_BadSize : PySem.W.nsIn K mainGlobals "BadSize" = some (some (.ref cBadSize)))
    (n_BadPrice : PySem.W.nsIn K mainGlobals "BadPrice" = some (some (.ref cBadPrice)))
    (n_OutOfFloor : PySem.W.nsIn K mainGlobals "OutOfFloor" = some (some (.ref cOutOfFloor)))
    (n_Twice : PySem.W.nsIn K mainGlobals "Twice" = some (some (.ref cTwice)))
    (n_NoFit : PySem.W.nsIn K mainGlobals "NoFit" = some (some (.ref cNoFit)))
    (n_Crowded : PySem.W.nsIn K mainGlobals "Crowded" = some (some (.ref cCrowded)))
    (n_BadThing : PySem.W.nsIn K mainGlobals "BadThing" = some (some (.ref cBadThing)))
    (x_BadThing : PySem.W.excIn K cBadThing [.type "ValueError", .type "Exception", .type "BaseException", .type "object"] "ValueError.__new__" = true)
    (ga_BadThing : PySem.W.findIn K (.ref cBadThing) "__getattribute__" = some (some (.builtin "BaseException.__getattribute__")))
    (gt_BadThing : PySem.W.findIn K (.ref cBadThing) "__getattr__" = some none)
    (cl_BadThing : PySem.W.findIn K (.ref cBadThing) "__class__" = some (some (.builtin "object.__class__")))
    (gg_BadThing : PySem.W.specialIn K (.builtin "object.__class__") "__get__" = some (some (.builtin "getset_descriptor.__get__")))
    (tk_BadThing : PySem.W.takesIn K (.builtin "object.__class__") = some true)
    (ob_BadThing : PySem.W.mroIn K cBadThing (.type "object") = some true)
    (be_BadThing : PySem.W.mroIn K cBadThing (.type "BaseException") = some true)
    (z_len : PySem.W.nsIn K mainGlobals "len" = some none)
    (z_range : PySem.W.nsIn K mainGlobals "range" = some none)
    (z_isinstance : PySem.W.nsIn K mainGlobals "isinstance" = some none)
    (z_int : PySem.W.nsIn K mainGlobals "int" = some none)
    (z_bool : PySem.W.nsIn K mainGlobals "bool" = some none)
    (z_tuple : PySem.W.nsIn K mainGlobals "tuple" = some none)
    (z_set : PySem.W.nsIn K mainGlobals "set" = some none)
    (z_list : PySem.W.nsIn K mainGlobals "list" = some none)
    (z_str : PySem.W.nsIn K mainGlobals "str" = some none)
    (z_all : PySem.W.nsIn K mainGlobals "all" = some none)
    (z_ValueError : PySem.W.nsIn K mainGlobals "ValueError" = some none)
    (q_LETTERS : PySem.W.nsIn K mainGlobals "LETTERS" = some (some (.str (Str.ofString "abcdefghijklmnopqrstuvwxyz") tLETTERS)))
    (q_FIGURES : PySem.W.nsIn K mainGlobals "FIGURES" = some (some (.str (Str.ofString "0123456789") tFIGURES)))
    (q_MOST_SIGNS : PySem.W.nsIn K mainGlobals "MOST_SIGNS" = some (some (.int 12 tMOST_SIGNS)))
    (q_MOST_HALF : PySem.W.nsIn K mainGlobals "MOST_HALF" = some (some (.int 2 tMOST_HALF)))
    (q_MOST_ROOM : PySem.W.nsIn K mainGlobals "MOST_ROOM" = some (some (.int 3 tMOST_ROOM)))
    (q_MOST_PINS : PySem.W.nsIn K mainGlobals "MOST_PINS" = some (some (.int 6 tMOST_PINS)))
    (q_MOST_STARTS : PySem.W.nsIn K mainGlobals "MOST_STARTS" = some (some (.int 6 tMOST_STARTS)))
    (q_MOST_GOALS : PySem.W.nsIn K mainGlobals "MOST_GOALS" = some (some (.int 12 tMOST_GOALS)))
    (ii : PySem.W.kitOne K (.type "int") (.type "int") = some true)
    (ib : PySem.W.kitOne K (.type "int") (.type "bool") = some false)
    (ll : PySem.W.kitOne K (.type "list") (.type "list") = some true)
    (tt : PySem.W.kitOne K (.type "tuple") (.type "tuple") = some true)
    (ss : PySem.W.kitOne K (.type "str") (.type "str") = some true)
    (nT : PySem.W.kitOne K (.ref cNet) (.ref cThing) = some true)
    (bT : PySem.W.kitOne K (.ref cBundle) (.ref cThing) = some true)
    (qN : PySem.W.findIn K (.ref cNet) "__class__" = some (some (.builtin "object.__class__")))
    (qB : PySem.W.findIn K (.ref cBundle) "__class__" = some (some (.builtin "object.__class__")))
    (qg : PySem.W.specialIn K (.builtin "object.__class__") "__get__" = some (some (.builtin "getset_descriptor.__get__")))
    (qt : PySem.W.takesIn K (.builtin "object.__class__") = some true)
    (oN : PySem.W.mroIn K cNet (.type "object") = some true)
    (oB : PySem.W.mroIn K cBundle (.type "object") = some true)
    (bb : PySem.W.kitOne K (.ref cBadThing) (.ref cBadThing) = some true)
    (bv : PySem.W.kitOne K (.ref cBadThing) (.type "ValueError") = some true)
    (b1 : PySem.W.kitOne K (.ref cBadThing) (.ref cBadSize) = some false)
    (b2 : PySem.W.kitOne K (.ref cBadThing) (.ref cBadPrice) = some false)
    (b3 : PySem.W.kitOne K (.ref cBadThing) (.ref cOutOfFloor) = some false)
    (b4 : PySem.W.kitOne K (.ref cBadThing) (.ref cTwice) = some false)
    (b5 : PySem.W.kitOne K (.ref cBadThing) (.ref cNoFit) = some false)
    (b6 : PySem.W.kitOne K (.ref cBadThing) (.ref cCrowded) = some false)
    (xw : PySem.W.exmOne K (.ref cBadThing) (.ref cWireError) = some true)
    : ∃ fd : FuncData, (∀ (s : Shared) (v : Value), BindsTo s fd ⟨[v], []⟩ [("script", v)]) ∧ ∀ base : Heap, K.In base → base.Ns mainGlobals mg → FnOk l.prog w K mg base CX0 7 fa fd ["script"] (spLaw K) := by
  have e := hfa.symm.trans (PySem.W.mg_of X G a21)
  cases e
  have T : Txt K mg cThing cNet cBundle cWireError cBadSize cBadPrice cOutOfFloor cTwice cNoFit cCrowded cBadThing := ⟨PySem.W.mg_none_of X G z_len, PySem.W.mg_none_of X G z_range, PySem.W.mg_none_of X G z_isinstance, PySem.W.mg_none_of X G z_int, PySem.W.mg_none_of X G z_bool, PySem.W.mg_none_of X G z_tuple, PySem.W.mg_none_of X G z_set, PySem.W.mg_none_of X G z_list, PySem.W.mg_none_of X G z_str, PySem.W.mg_none_of X G z_all, PySem.W.mg_none_of X G z_ValueError, ⟨pg_Thing, hd_Thing, po_Thing, sa_Thing⟩, PySem.W.mg_of X G n_Thing, ⟨pg_Net, hd_Net, po_Net, sa_Net⟩, PySem.W.mg_of X G n_Net, na_Net_name, na_Net_half, na_Net_room, na_Net_pins, ⟨pg_Bundle, hd_Bundle, po_Bundle, sa_Bundle⟩, PySem.W.mg_of X G n_Bundle, na_Bundle_name, na_Bundle_half, na_Bundle_room, na_Bundle_starts, na_Bundle_goals, PySem.W.mg_of X G n_WireError, PySem.W.mg_of X G n_BadSize, PySem.W.mg_of X G n_BadPrice, PySem.W.mg_of X G n_OutOfFloor, PySem.W.mg_of X G n_Twice, PySem.W.mg_of X G n_NoFit, PySem.W.mg_of X G n_Crowded, ⟨PySem.W.mg_of X G n_BadThing, x_BadThing, ⟨ga_BadThing, gt_BadThing, cl_BadThing, gg_BadThing, tk_BadThing, ob_BadThing, be_BadThing⟩⟩, ⟨_, PySem.W.mg_of X G q_LETTERS, ⟨_, rfl⟩⟩, ⟨_, PySem.W.mg_of X G q_FIGURES, ⟨_, rfl⟩⟩, ⟨_, PySem.W.mg_of X G q_MOST_SIGNS, ⟨_, rfl⟩⟩, ⟨_, PySem.W.mg_of X G q_MOST_HALF, ⟨_, rfl⟩⟩, ⟨_, PySem.W.mg_of X G q_MOST_ROOM, ⟨_, rfl⟩⟩, ⟨_, PySem.W.mg_of X G q_MOST_PINS, ⟨_, rfl⟩⟩, ⟨_, PySem.W.mg_of X G q_MOST_STARTS, ⟨_, rfl⟩⟩, ⟨_, PySem.W.mg_of X G q_MOST_GOALS, ⟨_, rfl⟩⟩, ii, ib, ll, tt, ss, nT, bT, qN, qB, qg, qt, oN, oB, bb, bv, b1, b2, b3, b4, b5, b6, xw⟩
  have F0 := fun_mk (st := sName) l0 c0 k0
  have b0 := bd1 (p0 := "name") F0 fun _ _ _ _ _ _ _ => rfl
  have F1 := fun_mk (st := sUnlike) l1 c1 k1
  have b1 := bd1 (p0 := "spots") F1 fun _ _ _ _ _ _ _ => rfl
  have F2 := fun_mk (st := sTInit) l2 c2 k2
  have b2 := bd4 (p0 := "self") (p1 := "name") (p2 := "half") (p3 := "room") F2 fun _ _ _ _ _ _ _ _ _ _ => rfl
  have F3 := fund_mk (st := sNInit) l3 c3
  have b3_0 : Binds K (PySem.W.fnOf "__init__" "Net.__init__" (defArgs sNInit) (defBody sNInit) (defScope sNInit) (.ref T3) kV3 dc3 pm3 an3 cd3 ct3) ["self", "name", "pins", "half", "room"] ([] : List Value) := bindsM rfl d3 5 rfl fun us hl => (by obtain ⟨_, _, _, _, _, rfl⟩ := bl5 (us := us) hl; exact ⟨_, rfl, rfl⟩)
  have b3_1 : Binds K (PySem.W.fnOf "__init__" "Net.__init__" (defArgs sNInit) (defBody sNInit) (defScope sNInit) (.ref T3) kV3 dc3 pm3 an3 cd3 ct3) ["self", "name", "pins", "half", "room"] ([.int 0 dt3_1] : List Value) := bindsM rfl d3 4 rfl fun us hl => (by obtain ⟨_, _, _, _, rfl⟩ := bl4 (us := us) hl; exact ⟨_, rfl, rfl⟩)
  have b3_2 : Binds K (PySem.W.fnOf "__init__" "Net.__init__" (defArgs sNInit) (defBody sNInit) (defScope sNInit) (.ref T3) kV3 dc3 pm3 an3 cd3 ct3) ["self", "name", "pins", "half", "room"] ([.int 0 dt3_0, .int 0 dt3_1] : List Value) := bindsM rfl d3 3 rfl fun us hl => (by obtain ⟨_, _, _, rfl⟩ := bl3 (us := us) hl; exact ⟨_, rfl, rfl⟩)
  have F4 := fund_mk (st := sBInit) l4 c4
  have b4_0 : Binds K (PySem.W.fnOf "__init__" "Bundle.__init__" (defArgs sBInit) (defBody sBInit) (defScope sBInit) (.ref T4) kV4 dc4 pm4 an4 cd4 ct4) ["self", "name", "starts", "goals", "room"] ([] : List Value) := bindsM rfl d4 5 rfl fun us hl => (by obtain ⟨_, _, _, _, _, rfl⟩ := bl5 (us := us) hl; exact ⟨_, rfl, rfl⟩)
  have b4_1 : Binds K (PySem.W.fnOf "__init__" "Bundle.__init__" (defArgs sBInit) (defBody sBInit) (defScope sBInit) (.ref T4) kV4 dc4 pm4 an4 cd4 ct4) ["self", "name", "starts", "goals", "room"] ([.int 0 dt4_0] : List Value) := bindsM rfl d4 4 rfl fun us hl => (by obtain ⟨_, _, _, _, rfl⟩ := bl4 (us := us) hl; exact ⟨_, rfl, rfl⟩)
  have F5 := fun_mk (st := sCell) l5 c5 k5
  have b5 := bd2 (p0 := "script") (p1 := "k") F5 fun _ _ _ _ _ _ _ _ => rfl
  have F6 := fun_mk (st := sFolded) l6 c6 k6
  have b6 := bd3 (p0 := "script") (p1 := "behind") (p2 := "many") F6 fun _ _ _ _ _ _ _ _ _ => rfl
  have F7 := fun_mk (st := sLName) l7 c7 k7
  have b7 := bd2 (p0 := "cell") (p1 := "size") F7 fun _ _ _ _ _ _ _ _ => rfl
  have F8 := fun_mk (st := sSpoiled) l8 c8 k8
  have b8 := bd2 (p0 := "name") (p1 := "cell") F8 fun _ _ _ _ _ _ _ _ => rfl
  have F9 := fun_mk (st := sSpots) l9 c9 k9
  have b9 := bd2 (p0 := "script") (p1 := "many") F9 fun _ _ _ _ _ _ _ _ => rfl
  have F10 := fun_mk (st := sDoubled) l10 c10 k10
  have b10 := bd2 (p0 := "spots") (p1 := "cell") F10 fun _ _ _ _ _ _ _ _ => rfl
  have F11 := fun_mk (st := sOut) l11 c11 k11
  have b11 := bd2 (p0 := "cell") (p1 := "most") F11 fun _ _ _ _ _ _ _ _ => rfl
  have F12 := fun_mk (st := sLMany) l12 c12 k12
  have b12 := bd4 (p0 := "kind") (p1 := "spoil") (p2 := "cell") (p3 := "other") F12 fun _ _ _ _ _ _ _ _ _ _ => rfl
  have F13 := fun_mk (st := sGood) l13 c13 k13
  have b13 := bd1 (p0 := "name") F13 fun _ _ _ _ _ _ _ => rfl
  have F14 := fun_mk (st := sDue) l14 c14 k14
  have b14 := bd6 (p0 := "kind") (p1 := "name") (p2 := "half") (p3 := "room") (p4 := "ones") (p5 := "twos") F14 fun _ _ _ _ _ _ _ _ _ _ _ _ => rfl
  have F15 := fun_mk (st := sMake) l15 c15 k15
  have b15 := bd7 (p0 := "kind") (p1 := "way") (p2 := "name") (p3 := "half") (p4 := "room") (p5 := "ones") (p6 := "twos") F15 fun _ _ _ _ _ _ _ _ _ _ _ _ _ => rfl
  have F16 := fun_mk (st := sRefused) l16 c16 k16
  have b16 := bd7 (p0 := "kind") (p1 := "way") (p2 := "name") (p3 := "half") (p4 := "room") (p5 := "ones") (p6 := "twos") F16 fun _ _ _ _ _ _ _ _ _ _ _ _ _ => rfl
  have F17 := fun_mk (st := sNumber) l17 c17 k17
  have b17 := bd2 (p0 := "found") (p1 := "due") F17 fun _ _ _ _ _ _ _ _ => rfl
  have F18 := fun_mk (st := sNEnds) l18 c18 k18
  have b18 := bd1 (p0 := "self") F18 fun _ _ _ _ _ _ _ => rfl
  have F19 := fun_mk (st := sBEnds) l19 c19 k19
  have b19 := bd1 (p0 := "self") F19 fun _ _ _ _ _ _ _ => rfl
  have F20 := fun_mk (st := sTold) l20 c20 k20
  have b20 := bd4 (p0 := "kind") (p1 := "thing") (p2 := "ones") (p3 := "twos") F20 fun _ _ _ _ _ _ _ _ _ _ => rfl
  have F21 := fun_mk (st := slaw) l21 c21 k21
  refine ⟨PySem.W.fnOf "law" "law" (defArgs slaw) (defBody slaw) (defScope slaw) .none kV21 dc21 pm21 an21 cd21 ct21, fun s v => .of_eq rfl, fun base hB _ => ?_⟩
  have gName : Callee l.prog w K mg base "is_name" 1 ["name"] spName := ⟨f0, _, ok_Name F0 T, PySem.W.mg_of X G a0, k0, b0⟩
  have gUnlike : CalleeX l.prog w K mg base "check_unlike" 1 ["spots"] (spUnlike cBadThing) := ⟨f1, _, ok_Unlike F1 hB T, PySem.W.mg_of X G a1, k1, b1⟩
  have gTInit : ClsCalleeX l.prog w K mg base cThing "__init__" 2 ["self", "name", "half", "room"] (spTInit cNet cBundle cBadThing) := ⟨f2, _, ok_TInit F2 hB T gName, ⟨⟨_, r2, q2⟩, rfl, g2, k2⟩, b2⟩
  have gNInit : KCalleeZX l.prog w K mg base cNet "Net" 3 ["self", "name", "pins", "half", "room"] (spNInit cNet cBadThing) 2 := ⟨f3, _, ok_NInit F3 hB T gUnlike gTInit, ⟨mk_Net, a3, i3, kc_Net⟩, PySem.W.mg_of X G n_Net, bindsZ2 b3_0 b3_1 b3_2⟩
  have gBInit : KCalleeZX l.prog w K mg base cBundle "Bundle" 3 ["self", "name", "starts", "goals", "room"] (spBInit cBundle cBadThing) 1 := ⟨f4, _, ok_BInit F4 hB T gUnlike gTInit, ⟨mk_Bundle, a4, i4, kc_Bundle⟩, PySem.W.mg_of X G n_Bundle, bindsZ1 b4_0 b4_1⟩
  have gCell : Callee l.prog w K mg base "_law_cell_at" 1 ["script", "k"] (spCell K) := ⟨f5, _, ok_Cell F5 T, PySem.W.mg_of X G a5, k5, b5⟩
  have gFolded : Callee l.prog w K mg base "_law_folded" 1 ["script", "behind", "many"] (spFolded K) := ⟨f6, _, ok_Folded F6 T, PySem.W.mg_of X G a6, k6, b6⟩
  have gLName : Callee l.prog w K mg base "_law_name" 1 ["cell", "size"] spLName := ⟨f7, _, ok_LName F7 T, PySem.W.mg_of X G a7, k7, b7⟩
  have gSpoiled : Callee l.prog w K mg base "_law_name_spoiled" 1 ["name", "cell"] spSpoiled := ⟨f8, _, ok_Spoiled F8 T, PySem.W.mg_of X G a8, k8, b8⟩
  have gSpots : Callee l.prog w K mg base "_law_spots" 2 ["script", "many"] (spSpots K) := ⟨f9, _, ok_Spots F9 T gCell gFolded, PySem.W.mg_of X G a9, k9, b9⟩
  have gDoubled : Callee l.prog w K mg base "_law_doubled" 1 ["spots", "cell"] spDoubled := ⟨f10, _, ok_Doubled F10 T, PySem.W.mg_of X G a10, k10, b10⟩
  have gOut : Callee l.prog w K mg base "_law_out" 1 ["cell", "most"] spOut := ⟨f11, _, ok_Out F11 T, PySem.W.mg_of X G a11, k11, b11⟩
  have gLMany : Callee l.prog w K mg base "_law_many" 1 ["kind", "spoil", "cell", "other"] spLMany := ⟨f12, _, ok_LMany F12 T, PySem.W.mg_of X G a12, k12, b12⟩
  have gGood : Callee l.prog w K mg base "_law_good_name" 1 ["name"] spGood := ⟨f13, _, ok_Good F13 T, PySem.W.mg_of X G a13, k13, b13⟩
  have gDue : Callee l.prog w K mg base "_law_due" 2 ["kind", "name", "half", "room", "ones", "twos"] spDue := ⟨f14, _, ok_Due F14 T gGood, PySem.W.mg_of X G a14, k14, b14⟩
  have gMake : CalleeX l.prog w K mg base "_law_make" 5 ["kind", "way", "name", "half", "room", "ones", "twos"] (spMake cNet cBundle cBadThing) := ⟨f15, _, ok_Make F15 T gNInit gBInit, PySem.W.mg_of X G a15, k15, b15⟩
  have gRefused : Callee l.prog w K mg base "_law_refused" 6 ["kind", "way", "name", "half", "room", "ones", "twos"] spRefused := ⟨f16, _, ok_Refused F16 T gMake, PySem.W.mg_of X G a16, k16, b16⟩
  have gNumber : Callee l.prog w K mg base "_law_number" 1 ["found", "due"] spNumber := ⟨f17, _, ok_Number F17 T, PySem.W.mg_of X G a17, k17, b17⟩
  have gNEnds : MCallee l.prog w K mg base cNet "ends" 1 ["self"] (spNEnds cNet) := ⟨f18, _, ok_NEnds F18 T, ⟨a18, i18, k18⟩, b18⟩
  have gBEnds : MCallee l.prog w K mg base cBundle "ends" 1 ["self"] (spBEnds cBundle) := ⟨f19, _, ok_BEnds F19 T, ⟨a19, i19, k19⟩, b19⟩
  have gTold : Callee l.prog w K mg base "_law_told" 2 ["kind", "thing", "ones", "twos"] (spTold cNet cBundle) := ⟨f20, _, ok_Told F20 T gNEnds gBEnds, PySem.W.mg_of X G a20, k20, b20⟩
  exact ok_law F21 T gCell gLName gSpoiled gSpots gDoubled gOut gLMany gDue gMake gRefused gNumber gTold
theorem walk {l : PySem.W.OpenLaw} {q : Program} {loose : List Str} {XP : (Str → Option Value) → Heap → Prop} {YP : World → Heap → Prop} {d : DefRec} {K : Params → PySem.W.Frag} (hn : l.most = some 63) (hdf : d.params.defaults = [])
    (hY : ∀ (w : World) (h : Heap), YP w h → (K w.params).In h)
    (F : ∀ (w : World) (mg : Str → Option Value) (fa : Addr) (h : Heap), (K w.params).In h → h.Ns mainGlobals mg → mg d.name = some (.ref fa) →
      ∃ fd : FuncData, (∀ (s : Shared) (u : Value), BindsTo s fd ⟨[u], []⟩ [("script", u)]) ∧ ∀ base : Heap, (K w.params).In base → base.Ns mainGlobals mg → FnOk l.prog w (K w.params) mg base CX0 7 fa fd ["script"] (spLaw (K w.params))) :
    PySem.W.WalkO q loose XP YP l.row.toRowW d [] (fun f vs => PySem.call f vs) :=
  L2.walk_of (n := 63) (k := 7) (x := "script") (CX := fun _ => CX0) (sp := fun w => spLaw (K w.params)) hn (by decide) hdf ⟨rfl, by decide, by decide, rfl⟩ hY F (fun _ _ a ns hl _ hS => ⟨a, ns, rfl, hS, hl, fun _ => rfl⟩) fun _ _ _ _ _ z => z
end K06
end
/-! these names are taken, so that the head lays no second forms of the greatest of its objects -/
def PySem.W.Fast.tw11499503497695189520 : Unit := ()
def PySem.W.Fast.tw12999275662702070879 : Unit := ()
def PySem.W.Fast.tw1220042220399943495 : Unit := ()
def PySem.W.Fast.tw14209250582353445733 : Unit := ()
def PySem.W.Fast.tw8626290797694583908 : Unit := ()
def PySem.W.Fast.tw7005892738409961895 : Unit := ()
def PySem.W.Fast.tw4965312593295233098 : Unit := ()
def PySem.W.Fast.tw7809065435587378545 : Unit := ()
def PySem.W.Fast.tw18133884908902865493 : Unit := ()
def PySem.W.Fast.tw16672746587877579711 : Unit := ()
def PySem.W.Fast.tw4097675077671021477 : Unit := ()
def PySem.W.Fast.tw2999765379182227540 : Unit := ()
def PySem.W.Fast.tw914358781390620888 : Unit := ()
def PySem.W.Fast.tw16463682951632625189 : Unit := ()
def PySem.W.Fast.tw9403798021835566899 : Unit := ()
def PySem.W.Fast.tw14851765602134265124 : Unit := ()
def PySem.W.Fast.tw4217256888582069536 : Unit := ()
def PySem.W.Fast.tw1016673360038686542 : Unit := ()
def PySem.W.Fast.tw13728401350459230025 : Unit := ()
def PySem.W.Fast.tw9720356495888393249 : Unit := ()
def PySem.W.Fast.tw8484281717676103548 : Unit := ()
def PySem.W.Fast.tw13436033239471115077 : Unit := ()
def PySem.W.Fast.tw10226422158456160552 : Unit := ()
def PySem.W.Fast.tw10316094493713982209 : Unit := ()
def PySem.W.Fast.tw17902741225656084678 : Unit := ()
def PySem.W.Fast.tw3102396665847980706 : Unit := ()
def PySem.W.Fast.tw2323993579337378435 : Unit := ()
def PySem.W.Fast.tw11483205816192171186 : Unit := ()
def PySem.W.Fast.tw399384334348312185 : Unit := ()
def PySem.W.Fast.tw8536157937830753175 : Unit := ()
def PySem.W.Fast.tw13075415328670050848 : Unit := ()
def PySem.W.Fast.tw679537692602815972 : Unit := ()
def PySem.W.Fast.tw17020937727707114596 : Unit := ()
def PySem.W.Fast.tw2901193162844666527 : Unit := ()
def PySem.W.Fast.tw13601705011592413537 : Unit := ()
def PySem.W.Fast.tw5465652302013855465 : Unit := ()
def PySem.W.Fast.tw952130235251166745 : Unit := ()
def PySem.W.Fast.tw16145435484401545372 : Unit := ()
def PySem.W.Fast.tw10213127581752756096 : Unit := ()
def PySem.W.Fast.tw9577378883960489 : Unit := ()
def PySem.W.Fast.tw312104982021304424 : Unit := ()
def PySem.W.Fast.tw2439464051664835644 : Unit := ()
def PySem.W.Fast.tw6275451440671891156 : Unit := ()
def PySem.W.Fast.tw1439534742297217569 : Unit := ()
def PySem.W.Fast.tw7158173117760916077 : Unit := ()
def PySem.W.Fast.tw9427000984823372496 : Unit := ()
def PySem.W.Fast.tw12694549414964236592 : Unit := ()
def PySem.W.Fast.tw9792640968078287536 : Unit := ()
def PySem.W.Fast.tw13638370154267570299 : Unit := ()
def PySem.W.Fast.tw6246085890902599001 : Unit := ()
def PySem.W.Fast.tw9392206310471142609 : Unit := ()
def PySem.W.Fast.tw11559967614438663550 : Unit := ()
def PySem.W.Fast.tw5860438845449248560 : Unit := ()
def PySem.W.Fast.tw6660766983433708674 : Unit := ()
def PySem.W.Fast.tw2865042817812272342 : Unit := ()
def PySem.W.Fast.tw16033378334848114007 : Unit := ()
def PySem.W.Fast.tw6022284420709372932 : Unit := ()
def PySem.W.Fast.tw5528220884615831879 : Unit := ()
def PySem.W.Fast.tw14798484861661199632 : Unit := ()
def PySem.W.Fast.tw3102577971714369769 : Unit := ()
def PySem.W.Fast.tw6663314892715093861 : Unit := ()
def PySem.W.Fast.tw12812532753379398829 : Unit := ()
def PySem.W.Fast.tw8333770360434689151 : Unit := ()
def PySem.W.Fast.tw6226370028378884809 : Unit := ()
def PySem.W.Fast.tw1088782931417933485 : Unit := ()
def PySem.W.Fast.tw501001000842333658 : Unit := ()
def PySem.W.Fast.tw9297109104919645129 : Unit := ()
def PySem.W.Fast.tw3154608701158683851 : Unit := ()
def PySem.W.Fast.tw8416647044313683612 : Unit := ()
def PySem.W.Fast.tw3576795928287516504 : Unit := ()
open PySem PySem.W PyProof.Rows
set_option maxRecDepth 100000 in
set_option maxHeartbeats 0 in
theorem PySem.Challenge.cw_wirefloor_k06_thing_made_holds : PySem.Challenge.rw_wirefloor_k06_thing_made.Holds := by
  w_on; o_law; k_head; (case hw => w_witness2)
  k_fill
  refine K06.walk (l := PySem.Challenge.rw_wirefloor_k06_thing_made) rfl rfl (fun w h Y => PySem.W.kIn_of Y) ?F
  case F =>
    intro w mg fa h KX G hmg
    refine' K06.all_mk KX G hmg ?n_Thing ?n_Net ?n_Bundle ?a0 ?l0 ?c0 ?k0 ?a1 ?l1 ?c1 ?k1 ?r2 ?q2 ?g2 ?l2 ?c2 ?k2 ?a3 ?i3 ?l3 ?d3 ?c3 ?k3 ?a4 ?i4 ?l4 ?d4 ?c4 ?k4 ?a5 ?l5 ?c5 ?k5 ?a6 ?l6 ?c6 ?k6 ?a7 ?l7 ?c7 ?k7 ?a8 ?l8 ?c8 ?k8 ?a9 ?l9 ?c9 ?k9 ?a10 ?l10 ?c10 ?k10 ?a11 ?l11 ?c11 ?k11 ?a12 ?l12 ?c12 ?k12 ?a13 ?l13 ?c13 ?k13 ?a14 ?l14 ?c14 ?k14 ?a15 ?l15 ?c15 ?k15 ?a16 ?l16 ?c16 ?k16 ?a17 ?l17 ?c17 ?k17 ?a18 ?i18 ?l18 ?c18 ?k18 ?a19 ?i19 ?l19 ?c19 ?k19 ?a20 ?l20 ?c20 ?k20 ?a21 ?l21 ?c21 ?k21 ?pg_Thing ?hd_Thing ?po_Thing ?sa_Thing ?pg_Net ?hd_Net ?po_Net ?sa_Net ?mk_Net ?kc_Net ?na_Net_name ?na_Net_half ?na_Net_room ?na_Net_pins ?pg_Bundle ?hd_Bundle ?po_Bundle ?sa_Bundle ?mk_Bundle ?kc_Bundle ?na_Bundle_name ?na_Bundle_half ?na_Bundle_room ?na_Bundle_starts ?na_Bundle_goals ?n_WireError ?n_BadSize ?n_BadPrice ?n_OutOfFloor ?n_Twice ?n_NoFit ?n_Crowded ?n_BadThing ?x_BadThing ?ga_BadThing ?gt_BadThing ?cl_BadThing ?gg_BadThing ?tk_BadThing ?ob_BadThing ?be_BadThing ?z_len ?z_range ?z_isinstance ?z_int ?z_bool ?z_tuple ?z_set ?z_list ?z_str ?z_all ?z_ValueError ?q_LETTERS ?q_FIGURES ?q_MOST_SIGNS ?q_MOST_HALF ?q_MOST_ROOM ?q_MOST_PINS ?q_MOST_STARTS ?q_MOST_GOALS ?ii ?ib ?ll ?tt ?ss ?nT ?bT ?qN ?qB ?qg ?qt ?oN ?oB ?bb ?bv ?b1 ?b2 ?b3 ?b4 ?b5 ?b6 ?xw
    (case n_Thing => k_is)
    (case n_Net => k_is)
    (case n_Bundle => k_is)
    (case a0 => k_is)
    (case l0 => k_is)
    (case c0 => k_is)
    (case k0 => k_is)
    (case a1 => k_is)
    (case l1 => k_is)
    (case c1 => k_is)
    (case k1 => k_is)
    (case r2 => k_is)
    (case q2 => k_is)
    (case g2 => k_is)
    (case l2 => k_is)
    (case c2 => k_is)
    (case k2 => k_is)
    (case a3 => k_is)
    (case i3 => k_is)
    (case l3 => k_is)
    (case d3 => k_is)
    (case c3 => k_is)
    (case k3 => k_is)
    (case a4 => k_is)
    (case i4 => k_is)
    (case l4 => k_is)
    (case d4 => k_is)
    (case c4 => k_is)
    (case k4 => k_is)
    (case a5 => k_is)
    (case l5 => k_is)
    (case c5 => k_is)
    (case k5 => k_is)
    (case a6 => k_is)
    (case l6 => k_is)
    (case c6 => k_is)
    (case k6 => k_is)
    (case a7 => k_is)
    (case l7 => k_is)
    (case c7 => k_is)
    (case k7 => k_is)
    (case a8 => k_is)
    (case l8 => k_is)
    (case c8 => k_is)
    (case k8 => k_is)
    (case a9 => k_is)
    (case l9 => k_is)
    (case c9 => k_is)
    (case k9 => k_is)
    (case a10 => k_is)
    (case l10 => k_is)
    (case c10 => k_is)
    (case k10 => k_is)
    (case a11 => k_is)
    (case l11 => k_is)
    (case c11 => k_is)
    (case k11 => k_is)
    (case a12 => k_is)
    (case l12 => k_is)
    (case c12 => k_is)
    (case k12 => k_is)
    (case a13 => k_is)
    (case l13 => k_is)
    (case c13 => k_is)
    (case k13 => k_is)
    (case a14 => k_is)
    (case l14 => k_is)
    (case c14 => k_is)
    (case k14 => k_is)
    (case a15 => k_is)
    (case l15 => k_is)
    (case c15 => k_is)
    (case k15 => k_is)
    (case a16 => k_is)
    (case l16 => k_is)
    (case c16 => k_is)
    (case k16 => k_is)
    (case a17 => k_is)
    (case l17 => k_is)
    (case c17 => k_is)
    (case k17 => k_is)
    (case a18 => k_is)
    (case i18 => k_is)
    (case l18 => k_is)
    (case c18 => k_is)
    (case k18 => k_is)
    (case a19 => k_is)
    (case i19 => k_is)
    (case l19 => k_is)
    (case c19 => k_is)
    (case k19 => k_is)
    (case a20 => k_is)
    (case l20 => k_is)
    (case c20 => k_is)
    (case k20 => k_is)
    (case a21 => k_is)
    (case l21 => k_is)
    (case c21 => k_is)
    (case k21 => k_is)
    (case pg_Thing => k_is)
    (case hd_Thing => k_is)
    (case po_Thing => k_is)
    (case sa_Thing => k_is)
    (case pg_Net => k_is)
    (case hd_Net => k_is)
    (case po_Net => k_is)
    (case sa_Net => k_is)
    (case mk_Net => k_is)
    (case kc_Net => k_is)
    (case na_Net_name => k_is)
    (case na_Net_half => k_is)
    (case na_Net_room => k_is)
    (case na_Net_pins => k_is)
    (case pg_Bundle => k_is)
    (case hd_Bundle => k_is)
    (case po_Bundle => k_is)
    (case sa_Bundle => k_is)
    (case mk_Bundle => k_is)
    (case kc_Bundle => k_is)
    (case na_Bundle_name => k_is)
    (case na_Bundle_half => k_is)
    (case na_Bundle_room => k_is)
    (case na_Bundle_starts => k_is)
    (case na_Bundle_goals => k_is)
    (case n_WireError => k_is)
    (case n_BadSize => k_is)
    (case n_BadPrice => k_is)
    (case n_OutOfFloor => k_is)
    (case n_Twice => k_is)
    (case n_NoFit => k_is)
    (case n_Crowded => k_is)
    (case n_BadThing => k_is)
    (case x_BadThing => k_exc)
    (case ga_BadThing => k_is)
    (case gt_BadThing => k_is)
    (case cl_BadThing => k_is)
    (case gg_BadThing => k_is)
    (case tk_BadThing => k_is)
    (case ob_BadThing => k_is)
    (case be_BadThing => k_is)
    (case z_len => k_is)
    (case z_range => k_is)
    (case z_isinstance => k_is)
    (case z_int => k_is)
    (case z_bool => k_is)
    (case z_tuple => k_is)
    (case z_set => k_is)
    (case z_list => k_is)
    (case z_str => k_is)
    (case z_all => k_is)
    (case z_ValueError => k_is)
    (case q_LETTERS => k_is)
    (case q_FIGURES => k_is)
    (case q_MOST_SIGNS => k_is)
    (case q_MOST_HALF => k_is)
    (case q_MOST_ROOM => k_is)
    (case q_MOST_PINS => k_is)
    (case q_MOST_STARTS => k_is)
    (case q_MOST_GOALS => k_is)
    (case ii => kit_is)
    (case ib => kit_is)
    (case ll => kit_is)
    (case tt => kit_is)
    (case ss => kit_is)
    (case nT => kit_is)
    (case bT => kit_is)
    (case qN => k_is)
    (case qB => k_is)
    (case qg => k_is)
    (case qt => k_is)
    (case oN => k_is)
    (case oB => k_is)
    (case bb => kit_is)
    (case bv => kit_is)
    (case b1 => kit_is)
    (case b2 => kit_is)
    (case b3 => kit_is)
    (case b4 => kit_is)
    (case b5 => kit_is)
    (case b6 => kit_is)
    (case xw => kts_exm)
