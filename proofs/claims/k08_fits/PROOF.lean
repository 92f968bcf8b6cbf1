import PyProof.Rows.All
import Wide.All
import OpenK.AllK
import Wide.FinOn
import Lean
import PyProof.EqAt
import PyProof.EqKinds
import PyProof.TupleCall
import OpenK.KRaise
import OpenK.KOwn
import KE.KTryMore
import KE.RegKTryMore
import PyProof.ExcArgsOwn
import KE.KIntText
import KE.KSortTup
import KE.KDictOf
import KE.KRevIter
import KE.KEqDict
import PyProof.Rows.SetFrom
import PyProof.TupleKey
import PyProof.Rows.SetObj
import PyProof.SetRoads
import PyProof.IsiH_list
import PyProof.ZipIter
import PyProof.Rows.TupIter
import PyProof.DictValues
import PyProof.DictWalks
import PySem.Challenge.RW_wirefloor_k08_fits
set_option Elab.async false
set_option linter.all false
set_option maxRecDepth 100000
namespace L2
open PySem PySem.Spec PyProof.Rows
abbrev Key := Sum Int Str
def keyIs : Key → Value → Bool
  | .inl k, v => Value.isInt k v
  | .inr x, v => Value.isStrOf x v
def keyH (w : World) : Key → Int
  | .inl k => hashInt k
  | .inr x => hashStr w x
theorem keyIs_shape : ∀ {k : Key} {v : Value}, keyIs k v = true → (∃ i t, k = Sum.inl i ∧ v = Value.int i t) ∨ (∃ x t, k = Sum.inr x ∧ v = Value.str x t)
  | .inl i, v, h => by
    obtain ⟨t, e⟩ := Value.isInt_shape (k := i) (v := v) h
    exact .inl ⟨i, t, rfl, e⟩
  | .inr x, v, h => by
    obtain ⟨t, e⟩ := Value.isStrOf_shape (x := x) (v := v) h
    exact .inr ⟨x, t, rfl, e⟩
theorem keyIs_int (i : Int) (t : Tok) : keyIs (.inl i) (.int i t) = true := by simp [keyIs, Value.isInt]
theorem keyIs_str (x : Str) (t : Tok) : keyIs (.inr x) (.str x t) = true := by simp [keyIs, Value.isStrOf]
theorem key_ll (a b : Int) : decide ((Sum.inl a : Key) = Sum.inl b) = (a == b) := by
  by_cases e : a = b
  · subst e; simp
  · have h : ¬ (Sum.inl a : Key) = Sum.inl b := fun q => e (Sum.inl.inj q)
    rw [decide_eq_false h]
    exact (beq_eq_false_iff_ne.mpr e).symm
theorem key_rr (a b : Str) : decide ((Sum.inr a : Key) = Sum.inr b) = decide (a = b) := by
  by_cases e : a = b
  · subst e; simp
  · have h : ¬ (Sum.inr a : Key) = Sum.inr b := fun q => e (Sum.inr.inj q)
    rw [decide_eq_false h, decide_eq_false e]
theorem key_lr (a : Int) (b : Str) : decide ((Sum.inl a : Key) = Sum.inr b) = false := decide_eq_false (fun q => nomatch q)
theorem key_rl (a : Str) (b : Int) : decide ((Sum.inr a : Key) = Sum.inl b) = false := decide_eq_false (fun q => nomatch q)
def mixKind (prog : Program) (w : World) : PySem.KeyKind prog w Key where
  is := keyIs
  hash := keyH w
  inj := fun v a b ha hb => by
    rcases keyIs_shape ha with ⟨i, t, rfl, rfl⟩ | ⟨x, t, rfl, rfl⟩
    · rcases keyIs_shape hb with ⟨j, u, rfl, e⟩ | ⟨y, u, rfl, e⟩
      · injection e with e1 _; rw [e1]
      · exact nomatch e
    · rcases keyIs_shape hb with ⟨j, u, rfl, e⟩ | ⟨y, u, rfl, e⟩
      · exact nomatch e
      · injection e with e1 _; rw [e1]
  byValue := fun k v h => by
    rcases keyIs_shape h with ⟨i, t, rfl, rfl⟩ | ⟨x, t, rfl, rfl⟩ <;> rfl
  pyHash := fun hv h => by
    rcases keyIs_shape hv with ⟨i, t, rfl, rfl⟩ | ⟨x, t, rfl, rfl⟩
    · exact wpAny_pyHash_int h
    · exact wpAny_pyHash_str h
  eqBool := fun hu hv h => by
    rcases keyIs_shape hu with ⟨i, t, rfl, rfl⟩ | ⟨x, t, rfl, rfl⟩
    · rcases keyIs_shape hv with ⟨j, u, rfl, rfl⟩ | ⟨y, u, rfl, rfl⟩
      · rw [key_ll] at h; exact wpAny_eqBool_int h
      · rw [key_lr] at h; exact SeqAt.EqAt.int_str i t y u _ _ _ _ h
    · rcases keyIs_shape hv with ⟨j, u, rfl, rfl⟩ | ⟨y, u, rfl, rfl⟩
      · rw [key_rl] at h; exact SeqAt.EqAt.str_int x t j u _ _ _ _ h
      · rw [key_rr] at h; exact wpAny_eqBool_str h
  «strs» := fun k x t v h => by
    rcases keyIs_shape h with ⟨i, u, rfl, e⟩ | ⟨y, u, rfl, e⟩
    · exact nomatch e
    · injection e with e1 _
      subst e1
      cases v <;> rfl
theorem mixKind_int (prog : Program) (w : World) (i : Int) (t : Tok) : (mixKind prog w).is (.inl i) (.int i t) = true := keyIs_int i t
theorem mixKind_str (prog : Program) (w : World) (x : Str) (t : Tok) : (mixKind prog w).is (.inr x) (.str x t) = true := keyIs_str x t
end L2
namespace L2
open PySem PySem.Spec PyProof.Rows
inductive V where
  | non | bl (b : Bool) | int (i : Int) | str (x : Str) | byt (b : Array UInt8) | flt (b : UInt64) | ref (a : Addr) | ty (n : String)
  deriving DecidableEq
def RelV : V → Value → Prop
  | .non, u => u = Value.none
  | .bl b, u => u = Value.bool b
  | .int i, u => ∃ t, u = Value.int i t
  | .str x, u => ∃ t, u = Value.str x t
  | .byt b, u => ∃ t, u = Value.bytes b t
  | .flt b, u => ∃ t, u = Value.float b t
  | .ref a, u => u = Value.ref a
  | .ty n, u => u = Value.type n
abbrev Vals : List V → List Value → Prop := Paired RelV
theorem Vals.length {xs : List V} {us : List Value} (r : Vals xs us) : xs.length = us.length := Paired.length r
theorem Vals.get : ∀ {xs : List V} {us : List Value} {i : Nat} {x : V}, Vals xs us → xs[i]? = some x → ∃ u, us[i]? = some u ∧ RelV x u
  | _, _, _, _, .nil, e => by simp at e
  | _, _, 0, _, .cons r _, e => by simp at e; subst e; exact ⟨_, rfl, r⟩
  | _, _, i + 1, x, .cons _ t, e => by
    obtain ⟨u, h1, h2⟩ := Vals.get (i := i) (x := x) t (by simpa using e)
    exact ⟨u, by simpa using h1, h2⟩
theorem Vals.set {x : V} {u : Value} (r : RelV x u) : ∀ {xs : List V} {us : List Value} (i : Nat), Vals xs us → Vals (xs.set i x) (us.set i u)
  | _, _, _, .nil => .nil
  | _, _, 0, .cons _ t => .cons r t
  | _, _, i + 1, .cons q t => .cons q (Vals.set r i t)
theorem Vals.append : ∀ {xs ys : List V} {us ws : List Value}, Vals xs us → Vals ys ws → Vals (xs ++ ys) (us ++ ws)
  | _, _, _, _, .nil, s => s
  | _, _, _, _, .cons r t, s => .cons r (Vals.append t s)
theorem Vals.take : ∀ {xs : List V} {us : List Value} (n : Nat), Vals xs us → Vals (xs.take n) (us.take n)
  | _, _, 0, _ => .nil
  | _, _, _ + 1, .nil => .nil
  | _, _, n + 1, .cons r t => .cons r (Vals.take n t)
theorem Vals.drop : ∀ {xs : List V} {us : List Value} (n : Nat), Vals xs us → Vals (xs.drop n) (us.drop n)
  | _, _, 0, r => r
  | _, _, _ + 1, .nil => .nil
  | _, _, n + 1, .cons _ t => Vals.drop n t
theorem Vals.none_of : ∀ {xs : List V} {us : List Value} {i : Nat}, Vals xs us → xs[i]? = none → us[i]? = none := fun {xs us i} r e => by
  have h1 := r.length
  have h2 : xs.length ≤ i := List.getElem?_eq_none_iff.mp e
  exact List.getElem?_eq_none_iff.mpr (by omega)
def RelO : Option V → Option Value → Prop
  | some v, some u => RelV v u
  | none, none => True
  | _, _ => False
def KV {κ : Type} : List (κ × V) → List (κ × Value) → Prop := Paired fun (p : κ × V) (q : κ × Value) => p.1 = q.1 ∧ RelV p.2 q.2
def kV : Key → V
  | .inl i => .int i
  | .inr x => .str x
inductive HO where
  | lst (xs : List V)
  | tup (xs : List V)
  | dK (kvs : List (Key × V)) | dT (kvs : List (List Key × V))
  | set (S : Int → Bool) (n : Nat)
  | ins (C dx : Addr) (fs : List (Str × V))
  | own (x : Addr)
  | xd (fs : List (Str × V))
  | met (f x : Addr)
  | rng (lo hi : Int)
  | frz (o : Obj) (u : HO)
  | tbl (ps : Array Value)
  | ext (φ : Heap → Prop)
abbrev Hp := Addr → Option HO
def upd (H : Hp) (a : Addr) (o : HO) : Hp := fun b => if b = a then some o else H b
theorem upd_same {H : Hp} {a : Addr} {o : HO} : upd H a o a = some o := by unfold upd; rw [if_pos rfl]
theorem upd_ne {H : Hp} {a b : Addr} {o : HO} (h : b ≠ a) : upd H a o b = H b := by unfold upd; rw [if_neg h]
theorem upd_upd {H : Hp} {a : Addr} {o u : HO} : upd (upd H a o) a u = upd H a u := by
  funext b; unfold upd; split <;> rfl
theorem ne_of {H : Hp} {a b : Addr} {o u : HO} (h : H a = some o) (h' : H b = some u) (d : o ≠ u) : a ≠ b := by
  intro e; subst e; rw [h] at h'; exact d (Option.some.inj h')
theorem ne_of_none {H : Hp} {a b : Addr} {o : HO} (h : H a = some o) (h' : H b = none) : a ≠ b := by
  intro e; subst e; rw [h] at h'; cases h'
section
variable (P : Program) (w : World)
def ObjOk (H : Hp) (h : Heap) (a : Addr) : HO → Prop
  | .lst xs => xs.length ≤ sizeLine ∧ ∃ (its : List Value) (n : Nat), Vals xs its ∧ h.get? a = some { cls := .type "list", data := .seq its.toArray n }
  | .tup xs => xs.length ≤ sizeLine ∧ ∃ its : List Value, Vals xs its ∧ IsTup h a its.toArray
  | .dK kvs => kvs.length ≤ sizeLine ∧ (a == sysModules) = false ∧ ∃ vs, KV kvs vs ∧ h.DictOf (mixKind P w) a vs
  | .dT kvs => kvs.length ≤ sizeLine ∧ (a == sysModules) = false ∧ ∃ xs : List (List Key × Addr × Value),
      Paired (fun (p : List Key × V) (q : List Key × Addr × Value) => p.1 = q.1 ∧ H q.2.1 = some (.tup (p.1.map kV)) ∧ RelV p.2 q.2.2) kvs xs ∧
      ∃ o es ep, h.get? a = some o ∧ o.ExactDict ∧ o.data = .dict es ep ∧ es.toList = xs.map (entryOfKey (tupleKind (mixKind P w))) ∧ (xs.map (·.1)).Nodup
  | .set S n => h.SetOf (intKind P w) a S n
  | .ins C dx fs => H dx = some (.own a) ∧ fs.length ≤ 1000 ∧ dx ≠ a ∧ h.get? a = some (PySem.W.instObj C dx) ∧
      ∃ mA, h.Ns1 dx mA ∧ (∀ f, RelO (fs.lookup f) (mA f)) ∧ PySem.Within mA (fs.map (·.1))
  | .own _ => ∃ o, h.get? a = some o
  | .xd fs => ∃ mA, h.Ns1 a mA ∧ ∀ f, RelO (fs.lookup f) (mA f)
  | .rng lo hi => ∃ t u v, h.get? a = some { cls := .type "range", data := .fields #[.int lo t, .int hi u, .int 1 v] }
  | .frz o u => h.get? a = some o ∧ ObjOk H h a u
  | .tbl ps => h.get? a = some { cls := .none, data := .fields ps }
  | .met f x => h.get? a = some (PySem.W.methodObj (.ref f) (.ref x))
  | .ext φ => φ h ∧ (∃ o, h.get? a = some o) ∧ ∀ h1 h2 : Heap, φ h1 → (∀ o, h1.get? a = some o → h2.get? a = some o) → φ h2
def HOk (H : Hp) (h : Heap) : Prop := ∀ a o, H a = some o → ObjOk P w H h a o
end
section
variable {P : Program} {w : World} {H H' : Hp} {h h' : Heap} {a : Addr} {o : HO}
theorem ObjOk.lt (x : ObjOk P w H h a o) : a < h.objs.size := by
  cases o with
  | lst xs => obtain ⟨_, _, _, _, e⟩ := x; exact Heap.lt_size e
  | tup xs => obtain ⟨_, _, _, p⟩ := x; exact p.lt
  | dK kvs => obtain ⟨_, _, _, _, o, _, _, e, _⟩ := x; exact Heap.lt_size e
  | dT kvs => obtain ⟨_, _, _, _, o, _, _, e, _⟩ := x; exact Heap.lt_size e
  | set S n => obtain ⟨o, _, _, _, e, _⟩ := x; exact Heap.lt_size e
  | ins C dx fs => obtain ⟨_, _, _, e, _⟩ := x; exact Heap.lt_size e
  | own y => obtain ⟨_, e⟩ := x; exact Heap.lt_size e
  | xd fs => obtain ⟨_, ⟨_, _, _, e, _⟩, _⟩ := x; exact Heap.lt_size e
  | rng lo hi => obtain ⟨_, _, _, e⟩ := x; exact Heap.lt_size e
  | frz ob u => obtain ⟨e, _⟩ := x; exact Heap.lt_size e
  | tbl ps => exact Heap.lt_size (show h.get? a = some _ from x)
  | met f y => exact Heap.lt_size (show h.get? a = some _ from x)
  | ext φ => obtain ⟨_, ⟨_, e⟩, _⟩ := x; exact Heap.lt_size e
theorem Paired.mapP {α β : Type} {F G : α → β → Prop} : ∀ {l₁ : List α} {l₂ : List β}, Paired F l₁ l₂ → (∀ a b, F a b → G a b) → Paired G l₁ l₂
  | _, _, .nil, _ => .nil
  | _, _, .cons r t, f => .cons (f _ _ r) (Paired.mapP t f)
theorem ObjOk.stay (x : ObjOk P w H h a o) (k : ∀ b u, (b = a ∨ H b = some (.own a)) → h.get? b = some u → h'.get? b = some u)
    (ho : ∀ b, H b = some (.own a) → H' b = some (.own a)) (ht : ∀ b xs, H b = some (.tup xs) → H' b = some (.tup xs)) : ObjOk P w H' h' a o := by
  induction o with
  | lst xs => obtain ⟨z, its, n, r, e⟩ := x; exact ⟨z, its, n, r, k _ _ (.inl rfl) e⟩
  | tup xs => obtain ⟨z, its, r, ob, e, c⟩ := x; exact ⟨z, its, r, ob, k _ _ (.inl rfl) e, c⟩
  | dK kvs => obtain ⟨z, y, vs, r, ob, es, ep, e, c⟩ := x; exact ⟨z, y, vs, r, ob, es, ep, k _ _ (.inl rfl) e, c⟩
  | dT kvs =>
    obtain ⟨z, y, xs, r, ob, es, ep, e, c⟩ := x
    exact ⟨z, y, xs, Paired.mapP r fun p q z => ⟨z.1, ht _ _ z.2.1, z.2.2⟩, ob, es, ep, k _ _ (.inl rfl) e, c⟩
  | set S n => obtain ⟨ob, es, ep, t, e, c⟩ := x; exact ⟨ob, es, ep, t, k _ _ (.inl rfl) e, c⟩
  | ins C dx fs =>
    obtain ⟨d, z, ne, e, mA, ⟨od, es, ep, e2, c⟩, r⟩ := x
    exact ⟨ho _ d, z, ne, k _ _ (.inl rfl) e, mA, ⟨od, es, ep, k _ _ (.inr d) e2, c⟩, r⟩
  | own y => obtain ⟨ob, e⟩ := x; exact ⟨ob, k _ _ (.inl rfl) e⟩
  | xd fs => obtain ⟨mA, ⟨od, es, ep, e, c⟩, r⟩ := x; exact ⟨mA, ⟨od, es, ep, k _ _ (.inl rfl) e, c⟩, r⟩
  | rng lo hi => obtain ⟨t, u, v, e⟩ := x; exact ⟨t, u, v, k _ _ (.inl rfl) e⟩
  | frz ob u ih => obtain ⟨e, q⟩ := x; exact ⟨k _ _ (.inl rfl) e, ih q⟩
  | tbl ps =>
    have e : h.get? a = some { cls := .none, data := .fields ps } := x
    show h'.get? a = some { cls := .none, data := .fields ps }
    exact k a _ (.inl rfl) e
  | met f y =>
    have e : h.get? a = some (PySem.W.methodObj (.ref f) (.ref y)) := x
    show h'.get? a = some (PySem.W.methodObj (.ref f) (.ref y))
    exact k a _ (.inl rfl) e
  | ext φ => obtain ⟨p, ⟨o, e⟩, st⟩ := x; exact ⟨st _ _ p fun o q => k _ _ (.inl rfl) q, ⟨o, k _ _ (.inl rfl) e⟩, st⟩
theorem HOk.lt (x : HOk P w H h) (e : H a = some o) : a < h.objs.size := (x a o e).lt
theorem HOk.fresh (x : HOk P w H h) (e : h.objs.size ≤ a) : H a = none := by
  cases q : H a with
  | none => rfl
  | some u => exact absurd (Nat.lt_of_lt_of_le (x.lt q) e) (Nat.lt_irrefl _)
theorem HOk.kept (x : HOk P w H h) (k : ∀ b u, h.get? b = some u → h'.get? b = some u) : HOk P w H h' := fun a o e =>
  (x a o e).stay (fun b u _ q => k b u q) (fun _ q => q) fun _ _ q => q
theorem HOk.laid (x : HOk P w H h) (k : ∀ b u, h.get? b = some u → h'.get? b = some u) (hp : h.objs.size ≤ a) (new : ObjOk P w (upd H a o) h' a o) : HOk P w (upd H a o) h' := fun b u e => by
  have hn := x.fresh hp
  by_cases hb : b = a
  · subst hb; rw [upd_same] at e; cases e; exact new
  · rw [upd_ne hb] at e
    exact (x b u e).stay (fun c v _ q => k c v q) (fun c q => by rw [upd_ne (ne_of_none q hn)]; exact q) fun c xs q => by rw [upd_ne (ne_of_none q hn)]; exact q
end
def Rd (H : Hp) (a : Addr) (u : HO) : Prop := H a = some u ∨ ∃ o, H a = some (.frz o u)
theorem Rd.of {H : Hp} {a : Addr} {u : HO} (h : H a = some u) : Rd H a u := .inl h
theorem Rd.ok {P : Program} {w : World} {H : Hp} {h : Heap} {a : Addr} {u : HO} (r : Rd H a u) (x : HOk P w H h) : ObjOk P w H h a u := by
  rcases r with r | ⟨o, r⟩
  · exact x a u r
  · obtain ⟨_, q⟩ := x a _ r
    exact q
def Mut : Option HO → Prop
  | some (.lst _) => True
  | some (.dK _) => True
  | some (.dT _) => True
  | some (.set _ _) => True
  | some (.ins _ _ _) => True
  | some (.ext _) => True
  | _ => False
section
variable {P : Program} {w : World} {H : Hp} {h h' : Heap} {x e : Addr} {o' : HO}
theorem HOk.write (ok : HOk P w H h) (mu : Mut (H x)) (he : e = x ∨ H e = some (.own x)) (k : ∀ b u, b ≠ e → h.get? b = some u → h'.get? b = some u) (heo : ∃ u, h'.get? e = some u)
    (new : ObjOk P w (upd H x o') h' x o') : HOk P w (upd H x o') h' := fun b u q => by
  have nown : ∀ c y, H c = some (.own y) → c ≠ x := fun c y r z => by subst z; rw [r] at mu; exact mu
  have ntup : ∀ c xs, H c = some (.tup xs) → c ≠ x := fun c xs r z => by subst z; rw [r] at mu; exact mu
  by_cases hb : b = x
  · subst hb; rw [upd_same] at q; cases q; exact new
  · rw [upd_ne hb] at q
    by_cases hbe : b = e
    · have q' : H b = some (.own x) := by
        rcases he with z | z
        · exact absurd (hbe.trans z) hb
        · rw [hbe]; exact z
      rw [q] at q'; cases q'
      obtain ⟨v, hv⟩ := heo
      exact ⟨v, by rw [hbe]; exact hv⟩
    · refine (ok b u q).stay (fun c v hc r => k c v ?_ r) (fun c r => by rw [upd_ne (nown c b r)]; exact r) fun c xs r => by rw [upd_ne (ntup c xs r)]; exact r
      rcases hc with rfl | hc
      · exact hbe
      · rintro rfl
        rcases he with z | z
        · exact nown c b hc z
        · rw [hc] at z; cases z; exact hb rfl
end
structure Un (fs ex : List Addr) (H H' : Hp) (h h' : Heap) : Prop where
  keep : ∀ b o, h.get? b = some o → H b = none → b ∉ fs → b ∉ ex → h'.get? b = some o
  slot : ∀ b o, h.get? b = some o → H b = none → b ∈ fs → b ∉ ex → ∃ sl, h'.get? b = some { o with slots := sl }
  free : ∀ b o, h.get? b = some o → H b = none → b ∉ ex → H' b = none
  there : ∀ b o, h.get? b = some o → b ∉ ex → ∃ o', h'.get? b = some o'
  tups : ∀ b xs, H b = some (.tup xs) → H' b = some (.tup xs)
  frzs : ∀ b o u, H b = some (.frz o u) → H' b = some (.frz o u)
  tbls : ∀ b ps, H b = some (.tbl ps) → ∃ more, H' b = some (.tbl (ps ++ more))
section
variable {fs fs' ex ex' : List Addr} {H H1 H2 : Hp} {h h1 h2 h' : Heap} {a x e : Addr} {o : HO}
theorem Un.any (u : Un fs ex H H1 h h1) {b : Addr} {ob : Obj} (q : h.get? b = some ob) (n : H b = none) (hx : b ∉ ex) : ∃ sl, h1.get? b = some { ob with slots := sl } := by
  by_cases hb : b ∈ fs
  · exact u.slot b ob q n hb hx
  · exact ⟨ob.slots, u.keep b ob q n hb hx⟩
theorem Un.trans (a : Un fs ex H H1 h h1) (b : Un fs ex H1 H2 h1 h2) : Un fs ex H H2 h h2 where
  keep := fun c ob q n hc hx => b.keep c ob (a.keep c ob q n hc hx) (a.free c ob q n hx) hc hx
  slot := fun c ob q n hc hx => by
    obtain ⟨sl, e1⟩ := a.slot c ob q n hc hx
    obtain ⟨sl', e2⟩ := b.slot c _ e1 (a.free c ob q n hx) hc hx
    exact ⟨sl', e2⟩
  free := fun c ob q n hx => by
    obtain ⟨o', e1⟩ := a.there c ob q hx
    exact b.free c o' e1 (a.free c ob q n hx) hx
  there := fun c ob q hx => by
    obtain ⟨o', e1⟩ := a.there c ob q hx
    exact b.there c o' e1 hx
  tups := fun c xs q => b.tups c xs (a.tups c xs q)
  frzs := fun c ob xs q => b.frzs c ob xs (a.frzs c ob xs q)
  tbls := fun c ps q => by
    obtain ⟨m1, e1⟩ := a.tbls c ps q
    obtain ⟨m2, e2⟩ := b.tbls c _ e1
    exact ⟨m1 ++ m2, by rw [e2, Array.append_assoc]⟩
theorem Un.kept (k : ∀ b u, h.get? b = some u → h'.get? b = some u) : Un fs ex H H h h' :=
  ⟨fun b ob q _ _ _ => k b ob q, fun b ob q _ _ _ => ⟨ob.slots, k b ob q⟩, fun _ _ _ n _ => n, fun b ob q _ => ⟨ob, k b ob q⟩, fun _ _ q => q, fun _ _ _ q => q, fun _ ps q => ⟨#[], by rw [q]; simp⟩⟩
theorem Un.refl : Un fs ex H H h h := Un.kept fun _ _ q => q
theorem Un.laid (k : ∀ b u, h.get? b = some u → h'.get? b = some u) (hp : h.objs.size ≤ a) (hn : H a = none) : Un fs ex H (upd H a o) h h' where
  keep := fun b u q _ _ _ => k b u q
  slot := fun b u q _ _ _ => ⟨u.slots, k b u q⟩
  free := fun b u q n _ => by rw [upd_ne (Nat.ne_of_lt (Nat.lt_of_lt_of_le (Heap.lt_size q) hp))]; exact n
  there := fun b u q _ => ⟨u, k b u q⟩
  tups := fun b xs q => by rw [upd_ne (ne_of_none q hn)]; exact q
  frzs := fun b u xs q => by rw [upd_ne (ne_of_none q hn)]; exact q
  tbls := fun b ps q => ⟨#[], by rw [upd_ne (ne_of_none q hn), q]; simp⟩
theorem Un.write (mu : Mut (H x)) (he : e = x ∨ H e = some (.own x)) (k : ∀ b u, b ≠ e → h.get? b = some u → h'.get? b = some u) (heo : ∃ u, h'.get? e = some u) : Un fs ex H (upd H x o) h h' := by
  have hx : ∀ b, H b = none → b ≠ x := fun b n z => by subst z; rw [n] at mu; exact mu
  have hb : ∀ b, H b = none → b ≠ e := fun b n z => by
    subst z
    rcases he with r | r
    · exact hx b n r
    · rw [n] at r; cases r
  have hm : ∀ b u, H b = some u → ¬ Mut (some u) → b ≠ x := fun b u q nm z => by subst z; rw [q] at mu; exact nm mu
  refine ⟨fun b u q n _ _ => k b u (hb b n) q, fun b u q n _ _ => ⟨u.slots, k b u (hb b n) q⟩, fun b u q n _ => by rw [upd_ne (hx b n)]; exact n, fun b u q _ => ?_,
    fun b xs q => by rw [upd_ne (hm b _ q fun z => z)]; exact q, fun b u xs q => by rw [upd_ne (hm b _ q fun z => z)]; exact q, fun b ps q => ⟨#[], by rw [upd_ne (hm b _ q fun z => z), q]; simp⟩⟩
  by_cases hbe : b = e
  · subst hbe; exact heo
  · exact ⟨u, k b u hbe q⟩
theorem Un.mono (u : Un fs ex H H1 h h1) (hs : ∀ b ∈ fs, b ∈ fs') (hx : ∀ b ∈ ex, b ∈ ex') : Un fs' ex' H H1 h h1 :=
  ⟨fun b ob q n hb he => u.keep b ob q n (fun z => hb (hs b z)) fun z => he (hx b z), fun _ _ q n _ he => u.any q n fun z => he (hx _ z), fun b ob q n he => u.free b ob q n fun z => he (hx b z), fun b ob q he => u.there b ob q fun z => he (hx b z), u.tups, u.frzs, u.tbls⟩
end
def trk (h : Heap) (H : Hp) : List Addr := (List.range h.objs.size).filter fun a => (H a).isSome
def hidT (h : Heap) (H : Hp) : Heap := PySem.W.hideAll h (trk h H)
theorem hidT_size (h : Heap) (H : Hp) : (hidT h H).objs.size = h.objs.size := PySem.W.hideAll_size _ _
theorem hidT_get {h : Heap} {H : Hp} {b : Addr} {o : Obj} (e : h.get? b = some o) (n : H b = none) : (hidT h H).get? b = some o :=
  PySem.W.hideAll_get _ e fun hm => by
    have q : (H b).isSome = true := (List.mem_filter.mp hm).2
    rw [n] at q; simp at q
theorem of_hidT {h : Heap} {H : Hp} {b : Addr} {o : Obj} (e : (hidT h H).get? b = some o) : h.get? b = some o ∧ H b = none := by
  have e' : h.get? b = some o := PySem.W.of_hideAll (trk h H) e
  refine ⟨e', ?_⟩
  cases q : H b with
  | none => rfl
  | some x =>
    have hm : b ∈ trk h H := List.mem_filter.mpr ⟨List.mem_range.mpr (Heap.lt_size e'), by simp [q]⟩
    have z : (hidT h H).get? b = none := PySem.W.hideAll_none (trk h H) hm
    rw [z] at e; cases e
def allNews (g h : Heap) (L : Addr) : List (Addr × Obj) := (List.range h.objs.size).filterMap fun a => if a = L ∨ (g.get? a).isSome = true then none else (h.get? a).map fun o => (a, o)
def rest (g h : Heap) (L d : Addr) : List (Addr × Obj) := (allNews g h L).filter fun p => decide (p.1 ≠ d)
end L2
namespace L2
open PySem PySem.Spec PyProof.Rows
structure Mod (K : PySem.W.Frag) (mg : Str → Option Value) (base : Heap) : Prop where
  kin : K.In base
  glob : base.Ns mainGlobals mg
  blt : ∃ mb, base.Ns builtinsNs mb ∧ ∀ x : Str, x ≠ "__name__" → mb x = bootBuiltins x
  nolimit : base.NoLimit
structure Cx where
  prog : Program
  w : World
  K : PySem.W.Frag
  mg : Str → Option Value
  base : Heap
  A : Around
  N : List Str
  s₀ : Shared
  H₀ : Hp
  env : Env
  outer : List Env
  stack : List Env
  ex : List Addr
  fn : Str → Bool
  calm : Bool
  pn : List (Addr × Obj)
  xe : Value → Shared → Prop
def frs (l : List Env) : List Addr := l.filterMap (·.frame)
abbrev Cx.fs (X : Cx) : List Addr := frs X.outer
def Vis (sc : Scope) (x : Str) : Prop := sc.names.lookup x = some .local ∨ sc.names.lookup x = some .cell ∨ sc.names.lookup x = some .free
def Loc (sc : Scope) (x : Str) : Prop := sc.names.lookup x = some .local ∨ sc.names.lookup x = some .cell
def Look (env : Env) (h : Heap) (m : Str → Option Value) (x : Str) (u : Value) : Prop :=
  (env.kindOf x = some .local ∧ m x = some u) ∨ ((env.kindOf x = some .cell ∨ env.kindOf x = some .free) ∧ ∃ c, env.cells.lookup x = some c ∧ h.IsCell c (some u))
structure Cx.Ok (X : Cx) : Prop where
  mod : Mod X.K X.mg X.base
  kind : X.env.scope.kind = .function
  glob : X.env.globals = mainGlobals
  blt : X.env.builtins = builtinsNs
  above : X.s₀.heap.objs.size ≤ X.env.locals
  inj : ∀ x y c, X.env.cells.lookup x = some c → X.env.cells.lookup y = some c → x = y
  has : ∀ x, (X.env.kindOf x = some .cell ∨ X.env.kindOf x = some .free) → ∃ c, X.env.cells.lookup x = some c
  cab : ∀ x c, X.fn x = true → X.env.cells.lookup x = some c → X.s₀.heap.objs.size ≤ c
  hd : X.calm = true → X.A.handled = none
  frames : X.A.frames = some X.stack
  stk : X.stack = X.outer ∨ (X.stack = X.env :: X.outer ∧ X.env.frame = some X.env.locals)
  exf : ∀ b ∈ X.ex, b ≠ X.env.locals ∧ ∀ x c, X.env.cells.lookup x = some c → c ≠ b
  bs : ∀ b o, X.base.get? b = some o → X.s₀.heap.get? b = some o ∧ X.H₀ b = none
  bsz : X.base.objs.size ≤ X.s₀.heap.objs.size
  noex : ∀ b o, X.base.get? b = some o → b ∉ X.ex
  exfs : ∀ b ∈ X.ex, b ∉ X.fs
  funs : X.s₀.heap.FunFrames X.base X.outer
  frf : ∀ b ∈ X.fs, X.H₀ b = none
structure Inv (X : Cx) (pins : List (Addr × Obj)) (σ : List (Option V)) (H : Hp) (s : Shared) : Prop where
  ok : X.Ok
  os : s.os = X.s₀.os
  bare : AllBare s.gens
  base : Un X.fs X.ex X.H₀ H X.s₀.heap s.heap
  loc : ∃ m, s.heap.Ns X.env.locals m ∧ ∀ (i : Nat) (x : Str) (v : V), X.N[i]? = some x → σ[i]? = some (some v) → Vis X.env.scope x → ∃ u, RelV v u ∧ Look X.env s.heap m x u
  cell : ∀ x c, X.env.cells.lookup x = some c → ∃ v, s.heap.IsCell c v
  free : H X.env.locals = none
  freeC : ∀ x c, X.env.cells.lookup x = some c → H c = none
  pin : ∀ p ∈ X.pn ++ pins, s.heap.get? p.1 = some p.2 ∧ H p.1 = none ∧ p.1 ≠ X.env.locals ∧ p.1 ∉ X.fs ∧ ∀ v, p.2.data ≠ .cell v
  hok : HOk X.prog X.w H s.heap
  len : σ.length = X.N.length
section
variable {X : Cx} {pins : List (Addr × Obj)} {σ : List (Option V)} {H H' : Hp} {s : Shared} {h' : Heap}
theorem Cx.Ok.nofr (ok : X.Ok) {b : Addr} {o : Obj} (e : X.base.get? b = some o) : b ∉ X.fs := fun hb => by
  have := (ok.funs.mem hb).1
  rw [e] at this; cases this
theorem Inv.bs (I : Inv X pins σ H s) : ∀ b o, X.base.get? b = some o → s.heap.get? b = some o ∧ H b = none := fun b o e =>
  ⟨I.base.keep b o (I.ok.bs b o e).1 (I.ok.bs b o e).2 (I.ok.nofr e) (I.ok.noex b o e), I.base.free b o (I.ok.bs b o e).1 (I.ok.bs b o e).2 (I.ok.noex b o e)⟩
theorem Inv.bk (I : Inv X pins σ H s) : ∀ b o, X.base.get? b = some o → s.heap.get? b = some o := fun b o e => (I.bs b o e).1
theorem Inv.mod (I : Inv X pins σ H s) : Mod X.K X.mg X.base := I.ok.mod
theorem Inv.kIn (I : Inv X pins σ H s) : X.K.In s.heap := I.ok.mod.kin.keeps I.bk
theorem Inv.nolimit (I : Inv X pins σ H s) : s.heap.NoLimit := I.ok.mod.nolimit.keeps I.bk
theorem Inv.fr (I : Inv X pins σ H s) : ∃ m, Fr X.base X.env.locals s.heap m :=
  let ⟨m, hn, _⟩ := I.loc
  ⟨m, hn, I.bk, Nat.le_trans I.ok.bsz I.ok.above⟩
theorem Inv.lt (I : Inv X pins σ H s) : X.env.locals < s.heap.objs.size := let ⟨_, hn, _⟩ := I.loc; hn.lt
theorem Inv.sz (I : Inv X pins σ H s) : X.s₀.heap.objs.size ≤ s.heap.objs.size := Nat.le_trans I.ok.above (Nat.le_of_lt I.lt)
theorem Inv.nofs (I : Inv X pins σ H s) {a : Addr} (h : s.heap.objs.size ≤ a) : a ∉ X.fs := fun hb => by
  obtain ⟨_, o, ho, _⟩ := I.ok.funs.mem hb
  exact absurd (Nat.lt_of_lt_of_le (Heap.lt_size ho) (Nat.le_trans I.sz h)) (Nat.lt_irrefl _)
theorem Inv.cne (I : Inv X pins σ H s) : ∀ x c, X.env.cells.lookup x = some c → c ≠ X.env.locals := fun x c e z => by
  obtain ⟨v, o, ho, hd⟩ := I.cell x c e
  obtain ⟨m, ⟨o', es, ep, ho', hd', _⟩, _⟩ := I.loc
  rw [z, ho'] at ho; cases ho; rw [hd'] at hd; cases hd
theorem Inv.funs (I : Inv X pins σ H s) : s.heap.FunFrames X.base X.outer := by
  have all : ∀ (l : List Env), (∀ b ∈ frs l, b ∈ X.fs) → X.s₀.heap.FunFrames X.base l → s.heap.FunFrames X.base l := by
    intro l
    induction l with
    | nil => intro _ _; trivial
    | cons env r ih =>
      intro hs hl
      obtain ⟨hk, ⟨L, o, hf, hn, ho, hd⟩, hr⟩ := hl
      have hL : L ∈ X.fs := hs L (by unfold frs; rw [List.filterMap_cons, hf]; exact List.mem_cons_self)
      obtain ⟨sl, e⟩ := I.base.slot L o ho (I.ok.frf L hL) hL fun z => I.ok.exfs L z hL
      exact ⟨hk, ⟨L, _, hf, hn, e, hd⟩, ih (fun b hb => hs b (by unfold frs; rw [List.filterMap_cons, hf]; exact List.mem_cons_of_mem _ hb)) hr⟩
  exact all X.outer (fun _ hb => hb) I.ok.funs
theorem Inv.stack (I : Inv X pins σ H s) : s.heap.FunFrames X.base X.stack := by
  rcases I.ok.stk with e | ⟨e, hf⟩
  · rw [e]; exact I.funs
  · rw [e]
    obtain ⟨m, hn, _⟩ := I.loc
    refine .cons (by rw [I.ok.kind]; decide) hf hn ?_ I.funs
    exact Heap.get?_none_of_le (Nat.le_trans I.ok.bsz I.ok.above)
theorem Inv.stkSub (I : Inv X pins σ H s) : ∀ b ∈ frs X.stack, b ∈ X.env.locals :: X.fs := fun b hb => by
  rcases I.ok.stk with e | ⟨e, hf⟩
  · rw [e] at hb; exact List.mem_cons_of_mem _ hb
  · rw [e] at hb
    unfold frs at hb
    rw [List.filterMap_cons, hf] at hb
    exact hb
theorem Inv.stkFree (I : Inv X pins σ H s) : ∀ b ∈ frs X.stack, H b = none := fun b hb => by
  rcases List.mem_cons.mp (I.stkSub b hb) with e | hb
  · rw [e]; exact I.free
  · obtain ⟨_, o, ho, _⟩ := I.ok.funs.mem hb
    exact I.base.free b o ho (I.ok.frf b hb) fun z => I.ok.exfs b z hb
theorem Inv.step {g' : Array GenState} {t' : Nat} {d' : Drawn} {ch : List Addr} (I : Inv X pins σ H s)
    (hch : ∀ b ∈ ch, (b ∈ X.ex ∨ X.s₀.heap.objs.size ≤ b) ∧ b ≠ X.env.locals ∧ (∀ x c, X.env.cells.lookup x = some c → c ≠ b) ∧ ∀ p ∈ X.pn ++ pins, p.1 ≠ b)
    (keep : ∀ b o, b ≠ X.env.locals → b ∉ X.fs → b ∉ ch → s.heap.get? b = some o → H b = none → h'.get? b = some o)
    (slot : ∀ b o, b ≠ X.env.locals → b ∈ X.fs → b ∉ ch → s.heap.get? b = some o → H b = none → ∃ sl, h'.get? b = some { o with slots := sl }) (free : ∀ b o, b ∉ ch → s.heap.get? b = some o → H b = none → H' b = none)
    (there : ∀ b o, b ∉ ch → s.heap.get? b = some o → ∃ o', h'.get? b = some o')
    (tups : ∀ b xs, H b = some (.tup xs) → H' b = some (.tup xs)) (frzs : ∀ b o u, H b = some (.frz o u) → H' b = some (.frz o u)) (tbls : ∀ b ps, H b = some (.tbl ps) → ∃ more, H' b = some (.tbl (ps ++ more)))
    (ns : ∀ m, s.heap.Ns X.env.locals m → h'.Ns X.env.locals m) (hok : HOk X.prog X.w H' h') (hg : AllBare g') :
    Inv X pins σ H' { s with heap := h', gens := g', drawn := d', toks := t' } := by
  have neL : ∀ b o, X.s₀.heap.get? b = some o → b ≠ X.env.locals := fun b o e => Nat.ne_of_lt (Nat.lt_of_lt_of_le (Heap.lt_size e) I.ok.above)
  have neC : ∀ b o, X.s₀.heap.get? b = some o → b ∉ X.ex → b ∉ ch := fun b o e hx hb => by
    rcases (hch b hb).1 with z | z
    · exact hx z
    · exact absurd (Nat.lt_of_lt_of_le (Heap.lt_size e) z) (Nat.lt_irrefl _)
  have cellK : ∀ x c, X.env.cells.lookup x = some c → ∀ v, s.heap.IsCell c v → h'.IsCell c v := fun x c e v ⟨o, ho, hd⟩ => by
    have nch : c ∉ ch := fun z => (hch c z).2.2.1 x c e rfl
    by_cases hc : c ∈ X.fs
    · obtain ⟨sl, q⟩ := slot c o (I.cne x c e) hc nch ho (I.freeC x c e)
      exact ⟨_, q, hd⟩
    · exact ⟨o, keep c o (I.cne x c e) hc nch ho (I.freeC x c e), hd⟩
  refine ⟨I.ok, I.os, hg, ⟨fun b o e n hb hx => ?_, fun b o e n hb hx => ?_, fun b o e n hx => ?_, fun b o e hx => ?_, fun b xs e => tups b xs (I.base.tups b xs e), fun b o xs e => frzs b o xs (I.base.frzs b o xs e), fun b ps e => ?_⟩, ?_, fun x c e => ?_, ?_, fun x c e => ?_, fun p hp => ?_, hok, I.len⟩
  · exact keep b o (neL b o e) hb (neC b o e hx) (I.base.keep b o e n hb hx) (I.base.free b o e n hx)
  · obtain ⟨sl, e1⟩ := I.base.slot b o e n hb hx
    obtain ⟨sl', e2⟩ := slot b _ (neL b o e) hb (neC b o e hx) e1 (I.base.free b o e n hx)
    exact ⟨sl', e2⟩
  · obtain ⟨o', e1⟩ := I.base.there b o e hx
    exact free b o' (neC b o e hx) e1 (I.base.free b o e n hx)
  · obtain ⟨o', e1⟩ := I.base.there b o e hx
    exact there b o' (neC b o e hx) e1
  · obtain ⟨m1, e1⟩ := I.base.tbls b ps e
    obtain ⟨m2, e2⟩ := tbls b _ e1
    exact ⟨m1 ++ m2, by rw [e2, Array.append_assoc]⟩
  · obtain ⟨m, hn, hl⟩ := I.loc
    refine ⟨m, ns m hn, fun i x v e1 e2 e3 => ?_⟩
    obtain ⟨u, r, l⟩ := hl i x v e1 e2 e3
    refine ⟨u, r, ?_⟩
    rcases l with l | ⟨k, c, e, z⟩
    · exact .inl l
    · exact .inr ⟨k, c, e, cellK x c e _ z⟩
  · obtain ⟨v, z⟩ := I.cell x c e
    exact ⟨v, cellK x c e v z⟩
  · obtain ⟨m, ⟨o, _, _, ho, _⟩, _⟩ := I.loc
    exact free _ o (fun z => (hch _ z).2.1 rfl) ho I.free
  · obtain ⟨v, o, ho, hd⟩ := I.cell x c e
    exact free c o (fun z => (hch c z).2.2.1 x c e rfl) ho (I.freeC x c e)
  · obtain ⟨e, n, ne, nf, d⟩ := I.pin p hp
    have nch : p.1 ∉ ch := fun z => (hch p.1 z).2.2.2 p hp rfl
    exact ⟨keep p.1 p.2 ne nf nch e n, free p.1 p.2 nch e n, ne, nf, d⟩
theorem Inv.un {t' : Nat} (I : Inv X pins σ H s) (u : Un X.fs [] H H' s.heap h') (hok : HOk X.prog X.w H' h') : Inv X pins σ H' { s with heap := h', toks := t' } := by
  obtain ⟨m, ⟨o, es, ep, ho, r⟩, _⟩ := id I.loc
  obtain ⟨sl, hL⟩ := u.any ho I.free (by simp)
  exact I.step (g' := s.gens) (d' := s.drawn) (ch := []) (fun _ z => nomatch z) (fun b o _ hb _ e n => u.keep b o e n hb (by simp)) (fun b o _ hb _ e n => u.slot b o e n hb (by simp)) (fun b o _ e n => u.free b o e n (by simp)) (fun b o _ e => u.there b o e (by simp)) u.tups u.frzs u.tbls (fun m' hm => by
    obtain ⟨o', es', ep', ho', r'⟩ := hm
    rw [ho] at ho'; cases ho'
    exact ⟨_, es', ep', hL, r'⟩) hok I.bare
theorem Inv.call {g' : Array GenState} {t' : Nat} {d' : Drawn} {ch : List Addr} (I : Inv X pins σ H s) (u : Un (frs X.stack) ch H H' s.heap h') (hok : HOk X.prog X.w H' h') (hg : AllBare g')
    (hch : ∀ b ∈ ch, (b ∈ X.ex ∨ X.s₀.heap.objs.size ≤ b) ∧ b ≠ X.env.locals ∧ (∀ x c, X.env.cells.lookup x = some c → c ≠ b) ∧ ∀ p ∈ X.pn ++ pins, p.1 ≠ b) :
    Inv X pins σ H' { s with heap := h', gens := g', drawn := d', toks := t' } := by
  obtain ⟨m, ⟨o, es, ep, ho, r⟩, _⟩ := id I.loc
  obtain ⟨sl, hL⟩ := u.any ho I.free fun z => (hch _ z).2.1 rfl
  exact I.step (ch := ch) hch (fun b o hL hb hc e n => u.keep b o e n (fun z => (List.mem_cons.mp (I.stkSub b z)).elim hL hb) hc) (fun b o _ _ hc e n => u.any e n hc) (fun b o hc e n => u.free b o e n hc) (fun b o hc e => u.there b o e hc) u.tups u.frzs u.tbls (fun m' hm => by
    obtain ⟨o', es', ep', ho', r'⟩ := hm
    rw [ho] at ho'; cases ho'
    exact ⟨_, es', ep', hL, r'⟩) hok hg
theorem Inv.turned {t' : Nat} {it : Addr} (I : Inv X pins σ H s) (k : ∀ b o, b ≠ it → s.heap.get? b = some o → h'.get? b = some o) (hn : H it = none) (hL : it ≠ X.env.locals)
    (h1 : it ∈ X.ex ∨ X.s₀.heap.objs.size ≤ it) (h2 : ∀ x c, X.env.cells.lookup x = some c → c ≠ it) (h3 : ∀ p ∈ X.pn ++ pins, p.1 ≠ it) : Inv X pins σ H { s with heap := h', toks := t' } := by
  have nit : ∀ b u, H b = some u → b ≠ it := fun b u e z => by rw [z, hn] at e; cases e
  refine I.step (g' := s.gens) (d' := s.drawn) (ch := [it]) (fun b hb => ?_) (fun b o _ _ hc e _ => k b o (fun z => hc (by simp [z])) e) (fun b o _ _ hc e _ => ⟨o.slots, k b o (fun z => hc (by simp [z])) e⟩) (fun _ _ _ _ n => n)
    (fun b o hc e => ⟨o, k b o (fun z => hc (by simp [z])) e⟩) (fun _ _ e => e) (fun _ _ _ e => e) (fun b ps e => ⟨#[], by rw [e]; simp⟩) (fun m hm => ?_) (fun b u e => ?_) I.bare
  · have e : b = it := by simpa using hb
    subst e
    exact ⟨h1, hL, h2, h3⟩
  · obtain ⟨o, es, ep, ho, r⟩ := hm
    exact ⟨o, es, ep, k _ o (Ne.symm hL) ho, r⟩
  · refine (I.hok b u e).stay (fun c v hc q => k c v ?_ q) (fun _ q => q) fun _ _ q => q
    rcases hc with z | z
    · rw [z]; exact nit b u e
    · exact nit c _ z
theorem Inv.tok (I : Inv X pins σ H s) (t : Nat) : Inv X pins σ H { s with toks := t } := I.un (h' := s.heap) (t' := t) Un.refl I.hok
theorem Inv.kept {t' : Nat} (I : Inv X pins σ H s) (k : ∀ b u, s.heap.get? b = some u → h'.get? b = some u) : Inv X pins σ H { s with heap := h', toks := t' } := I.un (Un.kept k) (I.hok.kept k)
theorem Inv.laid {a : Addr} {o : HO} {t' : Nat} (I : Inv X pins σ H s) (k : ∀ b u, s.heap.get? b = some u → h'.get? b = some u) (hp : s.heap.objs.size ≤ a) (new : ObjOk X.prog X.w (upd H a o) h' a o) :
    Inv X pins σ (upd H a o) { s with heap := h', toks := t' } := I.un (Un.laid k hp (I.hok.fresh hp)) (I.hok.laid k hp new)
theorem Inv.write {x e : Addr} {o : HO} {t' : Nat} (I : Inv X pins σ H s) (mu : Mut (H x)) (he : e = x ∨ H e = some (.own x)) (k : ∀ b u, b ≠ e → s.heap.get? b = some u → h'.get? b = some u) (heo : ∃ u, h'.get? e = some u)
    (new : ObjOk X.prog X.w (upd H x o) h' x o) : Inv X pins σ (upd H x o) { s with heap := h', toks := t' } := I.un (Un.write mu he k heo) (I.hok.write mu he k heo new)
theorem Inv.pins_of {pins' : List (Addr × Obj)} (I : Inv X pins σ H s) (h : ∀ p ∈ pins', s.heap.get? p.1 = some p.2 ∧ H p.1 = none ∧ p.1 ≠ X.env.locals ∧ p.1 ∉ X.fs ∧ ∀ v, p.2.data ≠ .cell v) : Inv X pins' σ H s :=
  ⟨I.ok, I.os, I.bare, I.base, I.loc, I.cell, I.free, I.freeC, fun p hp => (List.mem_append.mp hp).elim (fun z => I.pin p (List.mem_append_left _ z)) (h p), I.hok, I.len⟩
theorem nodup_ix {N : List Str} (hN : N.Nodup) {i j : Nat} {x : Str} (a : N[i]? = some x) (b : N[j]? = some x) : i = j := by
  obtain ⟨h1, e1⟩ := List.getElem?_eq_some_iff.mp a
  obtain ⟨h2, e2⟩ := List.getElem?_eq_some_iff.mp b
  exact (List.getElem_inj hN).mp (e1.trans e2.symm)
theorem store_ok2 {M : Model} {A : Around} {E : Value → Shared → Prop} {i : Nat} {x : Str} {v : V} {u : Value} {Q : Unit → Shared → Prop} (I : Inv X pins σ H s) (hN : X.N.Nodup) (hi : X.N[i]? = some x) (hx : Loc X.env.scope x) (r : RelV v u)
    (h : ∀ s', Inv X pins (σ.set i (some v)) H s' → (∃ a, Heap.SameBut a s.heap s'.heap ∧ (a = X.env.locals ∨ X.env.cells.lookup x = some a)) → Q () s') (hf : X.fn x = true ∨ X.env.scope.names.lookup x = some .local := by first | exact .inl rfl | exact .inr rfl | assumption) : wpAny M A (storeName X.env x u) Q E s := by
  obtain ⟨m, hn, hl⟩ := id I.loc
  have hcls : (X.env.scope.kind == .class || (X.env.scope.kind == .module && X.env.locals != X.env.globals)) = false := by rw [I.ok.kind]; rfl
  have hiσ : i < σ.length := by rw [I.len]; exact (List.getElem?_eq_some_iff.mp hi).1
  have cne := I.cne
  have tracked : ∀ {a : Addr} {h' : Heap}, (∃ o, s.heap.get? a = some o ∧ H a = none) → Heap.SameBut a s.heap h' → HOk X.prog X.w H h' := fun {a h'} ha hs b ob e => by
    obtain ⟨_, _, hfree⟩ := ha
    refine (I.hok b ob e).stay (fun c w' hc q => (hs.2 c ?_).trans q) (fun _ q => q) fun _ _ q => q
    rintro rfl
    rcases hc with rfl | hc
    · rw [hfree] at e; cases e
    · rw [hfree] at hc; cases hc
  rcases hx with hk | hk
  · refine wpAny_storeName_local hk hn (fun h' hn' hs => ?_) hcls
    obtain ⟨oL, _, _, hoL, _⟩ := id hn
    refine h _ ⟨I.ok, I.os, I.bare, ⟨fun b o e n hb hx => ?_, fun b o e n hb hx => ?_, I.base.free, fun b o e hx => ?_, I.base.tups, I.base.frzs, I.base.tbls⟩, ⟨_, hn', fun j y v' e1 e2 e3 => ?_⟩, fun y c e => ?_, I.free, I.freeC, fun p hp => ?_, tracked ⟨oL, hoL, I.free⟩ hs, by simpa using I.len⟩ ⟨_, hs, .inl rfl⟩
    · exact (hs.2 b (Nat.ne_of_lt (Nat.lt_of_lt_of_le (Heap.lt_size e) I.ok.above))).trans (I.base.keep b o e n hb hx)
    · obtain ⟨sl, e1⟩ := I.base.slot b o e n hb hx
      exact ⟨sl, (hs.2 b (Nat.ne_of_lt (Nat.lt_of_lt_of_le (Heap.lt_size e) I.ok.above))).trans e1⟩
    · obtain ⟨o', e1⟩ := I.base.there b o e hx
      exact ⟨o', (hs.2 b (Nat.ne_of_lt (Nat.lt_of_lt_of_le (Heap.lt_size e) I.ok.above))).trans e1⟩
    · by_cases hj : j = i
      · subst hj
        rw [hi] at e1; cases e1
        rw [List.getElem?_set_self hiσ] at e2
        cases e2
        exact ⟨u, r, .inl ⟨hk, by simp⟩⟩
      · rw [List.getElem?_set_ne (Ne.symm hj)] at e2
        obtain ⟨u', r', q⟩ := hl j y v' e1 e2 e3
        refine ⟨u', r', ?_⟩
        rcases q with ⟨k, e⟩ | ⟨k, c, e, z⟩
        · refine .inl ⟨k, ?_⟩
          have : y ≠ x := fun e => hj (nodup_ix hN e1 (e ▸ hi))
          simp [this, e]
        · exact .inr ⟨k, c, e, z.sameBut hs (cne y c e)⟩
    · obtain ⟨w', z⟩ := I.cell y c e
      exact ⟨w', z.sameBut hs (cne y c e)⟩
    · obtain ⟨e, n, ne, nf, d⟩ := I.pin p hp
      exact ⟨(hs.2 p.1 ne).trans e, n, ne, nf, d⟩
  · have hfn : X.fn x = true := by
      rcases hf with z | z
      · exact z
      · rw [z] at hk; cases hk
    obtain ⟨c, hc⟩ := I.ok.has x (.inl hk)
    obtain ⟨w', z⟩ := I.cell x c hc
    refine wpAny_storeName_cell I.ok.kind hk hc z (fun h' hc' hs => ?_)
    obtain ⟨oc, hoc, hocd⟩ := id z
    refine h { s with heap := h' } ⟨I.ok, I.os, I.bare, ⟨fun b o e n hb hx => ?_, fun b o e n hb hx => ?_, I.base.free, fun b o e hx => ?_, I.base.tups, I.base.frzs, I.base.tbls⟩, ⟨m, hn.sameBut hs (Ne.symm (cne x c hc)), fun j y v' e1 e2 e3 => ?_⟩, fun y c' e => ?_, I.free, I.freeC, fun p hp => ?_, tracked ⟨oc, hoc, I.freeC x c hc⟩ hs, by simpa using I.len⟩ ⟨c, hs, .inr hc⟩
    · exact (hs.2 b (Nat.ne_of_lt (Nat.lt_of_lt_of_le (Heap.lt_size e) (I.ok.cab x c hfn hc)))).trans (I.base.keep b o e n hb hx)
    · obtain ⟨sl, e1⟩ := I.base.slot b o e n hb hx
      exact ⟨sl, (hs.2 b (Nat.ne_of_lt (Nat.lt_of_lt_of_le (Heap.lt_size e) (I.ok.cab x c hfn hc)))).trans e1⟩
    · obtain ⟨o', e1⟩ := I.base.there b o e hx
      exact ⟨o', (hs.2 b (Nat.ne_of_lt (Nat.lt_of_lt_of_le (Heap.lt_size e) (I.ok.cab x c hfn hc)))).trans e1⟩
    · by_cases hj : j = i
      · subst hj
        rw [hi] at e1; cases e1
        rw [List.getElem?_set_self hiσ] at e2
        cases e2
        exact ⟨u, r, .inr ⟨.inl hk, c, hc, hc'⟩⟩
      · rw [List.getElem?_set_ne (Ne.symm hj)] at e2
        obtain ⟨u', r', q⟩ := hl j y v' e1 e2 e3
        refine ⟨u', r', ?_⟩
        rcases q with q | ⟨k, c', e, z'⟩
        · exact .inl q
        · refine .inr ⟨k, c', e, z'.sameBut hs ?_⟩
          rintro rfl
          exact hj (nodup_ix hN e1 (I.ok.inj _ _ _ e hc ▸ hi))
    · by_cases hcc : c' = c
      · subst hcc; exact ⟨_, hc'⟩
      · obtain ⟨w2, z2⟩ := I.cell y c' e
        exact ⟨w2, z2.sameBut hs hcc⟩
    · obtain ⟨e, n, ne, nf, d⟩ := I.pin p hp
      refine ⟨(hs.2 p.1 ?_).trans e, n, ne, nf, d⟩
      intro q
      rw [q, hoc] at e
      have q' : oc = p.2 := Option.some.inj e
      exact d w' (by rw [← q']; exact hocd)
theorem store_ok {M : Model} {A : Around} {E : Value → Shared → Prop} {i : Nat} {x : Str} {v : V} {u : Value} {Q : Unit → Shared → Prop} (I : Inv X pins σ H s) (hN : X.N.Nodup) (hi : X.N[i]? = some x) (hx : Loc X.env.scope x) (r : RelV v u)
    (h : ∀ s', Inv X pins (σ.set i (some v)) H s' → Q () s') (hf : X.fn x = true ∨ X.env.scope.names.lookup x = some .local := by first | exact .inl rfl | exact .inr rfl | assumption) : wpAny M A (storeName X.env x u) Q E s :=
  store_ok2 I hN hi hx r (fun s' I' _ => h s' I') hf
theorem Inv.call' {s' : Shared} {ch : List Addr} (I : Inv X pins σ H s) (ho : s'.os = s.os) (u : Un (frs X.stack) ch H H' s.heap s'.heap) (hok : HOk X.prog X.w H' s'.heap) (hg : AllBare s'.gens)
    (hch : ∀ b ∈ ch, (b ∈ X.ex ∨ X.s₀.heap.objs.size ≤ b) ∧ b ≠ X.env.locals ∧ (∀ x c, X.env.cells.lookup x = some c → c ≠ b) ∧ ∀ p ∈ X.pn ++ pins, p.1 ≠ b) : Inv X pins σ H' s' := by
  obtain ⟨h', g', d', t', o'⟩ := s'
  have e : o' = s.os := ho
  subst e
  exact I.call (g' := g') (t' := t') (d' := d') u hok hg hch
end
abbrev XK := Value → Option Addr → Hp → Prop
abbrev St := List (Option V)
abbrev VK := V → Hp → Prop
abbrev TE := St → Hp → VK → Prop
abbrev TT := St → Hp → (Bool → Hp → Prop) → Prop
abbrev TA := St → Hp → (List V → Hp → Prop) → Prop
structure Ends where
  nx : St → Hp → Prop
  rt : VK
  bk : St → Hp → Prop := fun _ _ => False
  ct : St → Hp → Prop := fun _ _ => False
abbrev TS := Ends → St → Hp → Prop
def EP (X : Cx) (pins : List (Addr × Obj)) (σ : St) (Q : VK) (u : Value) (s' : Shared) : Prop := ∃ v H', Inv X pins σ H' s' ∧ RelV v u ∧ Q v H'
def TP (X : Cx) (pins : List (Addr × Obj)) (σ : St) (Q : Bool → Hp → Prop) (b : Bool) (s' : Shared) : Prop := ∃ H', Inv X pins σ H' s' ∧ Q b H'
def AP (X : Cx) (pins : List (Addr × Obj)) (σ : St) (Q : List V → Hp → Prop) (us : List Value) (s' : Shared) : Prop := ∃ vs H', Inv X pins σ H' s' ∧ Vals vs us ∧ Q vs H'
def SP (X : Cx) (pins : List (Addr × Obj)) (D : Ends) (f : Flow) (s' : Shared) : Prop :=
  match f with
  | .next => ∃ σ' H', Inv X pins σ' H' s' ∧ D.nx σ' H'
  | .brk => ∃ σ' H', Inv X pins σ' H' s' ∧ D.bk σ' H'
  | .cont => ∃ σ' H', Inv X pins σ' H' s' ∧ D.ct σ' H'
  | .ret u => ∃ v σ' H', Inv X pins σ' H' s' ∧ RelV v u ∧ D.rt v H'
def PE (X : Cx) (e : Expr) (t : TE) : Prop :=
  ∀ (pins : List (Addr × Obj)) (s : Shared) (σ : St) (H : Hp) (Q : VK), Inv X pins σ H s → t σ H Q → wpAny (model X.prog X.w) X.A (eval e X.env) (EP X pins σ Q) X.xe s
def PT (X : Cx) (e : Expr) (t : TT) : Prop :=
  ∀ (pins : List (Addr × Obj)) (s : Shared) (σ : St) (H : Hp) (Q : Bool → Hp → Prop), Inv X pins σ H s → t σ H Q → wpAny (model X.prog X.w) X.A (isTrue e X.env (eval e X.env)) (TP X pins σ Q) X.xe s
def PW (X : Cx) (e : Expr) (t : TT) : Prop :=
  ∀ (whole : Sem Value) (pins : List (Addr × Obj)) (s : Shared) (σ : St) (H : Hp) (Q : Bool → Hp → Prop), Inv X pins σ H s → t σ H Q → wpAny (model X.prog X.w) X.A (isTrue e X.env whole) (TP X pins σ Q) X.xe s
theorem PW.pt {X : Cx} {e : Expr} {t : TT} (h : PW X e t) : PT X e t := h _
def PA (X : Cx) (es : List Expr) (t : TA) : Prop :=
  ∀ (pos : Pos) (pins : List (Addr × Obj)) (s : Shared) (σ : St) (H : Hp) (Q : List V → Hp → Prop), Inv X pins σ H s → t σ H Q → wpAny (model X.prog X.w) X.A (spliced (backTo pos (starEach es X.env))) (AP X pins σ Q) X.xe s
def PS (X : Cx) (st : Stmt) (t : TS) : Prop :=
  ∀ (pins : List (Addr × Obj)) (s : Shared) (σ : St) (H : Hp) (D : Ends), Inv X pins σ H s → t D σ H → wpAny (model X.prog X.w) X.A (exec st X.env) (SP X pins D) X.xe s
def PSs (X : Cx) (st : List Stmt) (t : TS) : Prop :=
  ∀ (pins : List (Addr × Obj)) (s : Shared) (σ : St) (H : Hp) (D : Ends), Inv X pins σ H s → t D σ H → wpAny (model X.prog X.w) X.A (execs st X.env) (SP X pins D) X.xe s
theorem thn {α : Type} {t : Sem α} {Q Q' : α → Shared → Prop} {M : Model} {A : Around} {E : Value → Shared → Prop} {s : Shared} (h : wpAny M A t Q E s) (hQ : ∀ a s, Q a s → Q' a s) : wpAny M A t Q' E s := wpAny_mono h hQ fun _ _ x => x
end L2
namespace L2
open PySem PySem.Spec PyProof.Rows
section
variable {X : Cx}
def tVar (i : Nat) : TE := fun σ H Q => ∃ v, σ[i]? = some (some v) ∧ Q v H
def tC (v : V) : TE := fun _ H Q => Q v H
theorem pe_var {i : Nat} {x : Str} {pos : Pos} (hN : X.N[i]? = some x) (hv : Vis X.env.scope x) (hd : (x == ("__debug__" : Str)) = false := by decide) (hcd : (x == ("__classdict__" : Str)) = false := by decide) : PE X (.Name x pos) (tVar i) := by
  intro pins s σ H Q I h
  obtain ⟨v, e, h⟩ := h
  obtain ⟨m, hn, hl⟩ := I.loc
  obtain ⟨u, r, l⟩ := hl i x v hN e hv
  have fin : EP X pins σ Q u s := ⟨v, H, I, r, h⟩
  rcases l with ⟨hk, hm⟩ | ⟨hk, c, hc, hcell⟩
  · exact wpAny_Name (wpAny_loadName_local I.ok.kind hk hn hm fin) hd
  · rcases hk with hk | hk
    · exact wpAny_Name (wpAny_loadName_cell I.ok.kind hk hc hcell fin) hd
    · exact wpAny_Name (wpAny_loadName_free I.ok.kind hk hc hcell fin hcd) hd
theorem pe_int {i j pos} : PE X (.Constant (.int i) j pos) (tC (.int i)) := fun _ _ _ H _ I h => wpAny_Constant_int ⟨.int i, H, I.tok _, ⟨_, rfl⟩, h⟩
theorem pe_bl {b j pos} : PE X (.Constant (.bool b) j pos) (tC (.bl b)) := fun _ _ _ H _ I h => Constant_bool ⟨.bl b, H, I, rfl, h⟩
theorem pe_non {j pos} : PE X (.Constant .none j pos) (tC .non) := fun _ _ _ H _ I h => Constant_none ⟨.non, H, I, rfl, h⟩
theorem pe_str {x j pos} : PE X (.Constant (.str x) j pos) (tC (.str x)) := fun _ _ _ H _ I h => Calls.Constant_str ⟨.str x, H, I.tok _, ⟨_, rfl⟩, h⟩
def Gl (X : Cx) (x : Str) : Prop := X.env.kindOf x = some .globalImplicit
theorem ld_glob {E : Value → Shared → Prop} {pins : List (Addr × Obj)} {s : Shared} {σ : St} {H : Hp} {x : Str} {u : Value} {pos : Pos} {Q : Value → Shared → Prop} (I : Inv X pins σ H s) (hg : Gl X x) (hm : X.mg x = some u) (h : Q u s)
    (hd : (x == ("__debug__" : Str)) = false := by decide) : wpAny (model X.prog X.w) X.A (eval (.Name x pos) X.env) Q E s :=
  Calls.Name_function_global I.ok.kind hg (Calls.loadGlobal_global (by rw [I.ok.glob]; exact I.mod.glob.keeps I.bk) hm h) hd
theorem ld_blt {E : Value → Shared → Prop} {pins : List (Addr × Obj)} {s : Shared} {σ : St} {H : Hp} {x : Str} {u : Value} {pos : Pos} {Q : Value → Shared → Prop} (I : Inv X pins σ H s) (hg : Gl X x) (hm : X.mg x = none) (hv : bootBuiltins x = some u) (h : Q u s)
    (hn : x ≠ "__name__" := by decide) (hd : (x == ("__debug__" : Str)) = false := by decide) : wpAny (model X.prog X.w) X.A (eval (.Name x pos) X.env) Q E s := by
  obtain ⟨mb, h1, h2⟩ := I.mod.blt
  exact Calls.Name_function_global I.ok.kind hg (Calls.loadGlobal_builtin (by rw [I.ok.glob]; exact I.mod.glob.keeps I.bk) hm (by rw [I.ok.blt]; exact h1.keeps I.bk) ((h2 x hn).trans hv) h) hd
theorem pe_glob {x : Str} {v : V} {u : Value} {pos : Pos} (hg : Gl X x) (hm : X.mg x = some u) (r : RelV v u) (hd : (x == ("__debug__" : Str)) = false := by decide) : PE X (.Name x pos) (tC v) :=
  fun _ _ _ H _ I h => ld_glob I hg hm ⟨v, H, I, r, h⟩ hd
theorem pe_bltn {x : Str} {v : V} {u : Value} {pos : Pos} (hg : Gl X x) (hm : X.mg x = none) (hv : bootBuiltins x = some u) (r : RelV v u) (hn : x ≠ "__name__" := by decide) (hd : (x == ("__debug__" : Str)) = false := by decide) : PE X (.Name x pos) (tC v) :=
  fun _ _ _ H _ I h => ld_blt I hg hm hv ⟨v, H, I, r, h⟩ hn hd
variable {a b : Expr} {ta tb : TE} {pos : Pos}
def PC (X : Cx) (op : CmpOp) (a b : Expr) (t : TE) : Prop :=
  ∀ (pins : List (Addr × Obj)) (s : Shared) (σ : St) (H : Hp) (Q : VK), Inv X pins σ H s → t σ H Q →
    wpAny (model X.prog X.w) X.A (eval a X.env) (fun v s₁ => wpAny (model X.prog X.w) X.A (eval b X.env) (fun u s₂ => wpAny (model X.prog X.w) X.A (compareOp op v u) (EP X pins σ Q) X.xe s₂) X.xe s₁) X.xe s
theorem nobehind (b : Expr) {op : CmpOp} (h : op ≠ .In) (h2 : op ≠ .NotIn) : behindInMarks op b = false := by
  have e1 : (op == CmpOp.In) = false := by cases op <;> first | rfl | exact absurd rfl h
  have e2 : (op == CmpOp.NotIn) = false := by cases op <;> first | rfl | exact absurd rfl h2
  cases b <;> simp [behindInMarks, e1, e2]
def tB (t : TE) : TT := fun σ H Q => t σ H fun x H1 => ∃ c, x = .bl c ∧ Q c H1
theorem pe_cmp {op : CmpOp} {t : TE} (h : PC X op a b t) (h1 : behindInMarks op b = false := by first | exact nobehind _ (by decide) (by decide) | rfl) : PE X (.Compare a [op] [b] pos) t := fun pins s σ H Q I hw => wpAny_Compare1 (h pins s σ H Q I hw) h1
theorem pt_cmp {op : CmpOp} {t : TE} (h : PC X op a b t) (h1 : behindInMarks op b = false := by first | exact nobehind _ (by decide) (by decide) | rfl) : PT X (.Compare a [op] [b] pos) (tB t) := by
  intro pins s σ H Q I hw
  refine wpAny_isTrue_Compare1 (thn (h pins s σ H _ I hw) fun v s1 h1 => thn h1 fun u s2 h2 => thn h2 fun c s3 ⟨x, H1, I1, r1, q1⟩ => ?_) h1
  obtain ⟨d, rfl, q⟩ := q1
  cases r1
  exact wpAny_truthy_bool ⟨H1, I1, q⟩
theorem pt_val {e : Expr} {t : TE} (h : PE X e t) (he : ∀ whole, isTrue e X.env whole = (do let v ← whole; standAt e.pos; holding [v] (truthy v)) := by intro _; rfl) : PT X e (tB t) := by
  intro pins s σ H Q I hw
  refine isTrue_plain (thn (h pins s σ H _ I hw) fun v s1 ⟨x, H1, I1, r1, q1⟩ => ?_) (he _)
  obtain ⟨d, rfl, q⟩ := q1
  cases r1
  exact wpAny_truthy_bool ⟨H1, I1, q⟩
variable {tA tB' : TT} {rest : List Expr}
def tAnd (t u : TT) : TT := fun σ H Q => t σ H fun c H1 => if c = true then u σ H1 Q else Q false H1
def tOr (t u : TT) : TT := fun σ H Q => t σ H fun c H1 => if c = true then Q true H1 else u σ H1 Q
def tNot (t : TT) : TT := fun σ H Q => t σ H fun c H1 => Q (!c) H1
theorem pw_and1 (ha : PT X a tA) : PW X (.BoolOp .And [a] pos) tA := by
  intro wh pins s σ H Q I h
  refine isTrue_and (thn (ha pins s σ H Q I h) fun c s1 e => ?_)
  cases c with
  | true => exact isTrue_and_nil e
  | false => exact e
theorem pw_or1 (ha : PT X a tA) : PW X (.BoolOp .Or [a] pos) tA := by
  intro wh pins s σ H Q I h
  refine isTrue_or (thn (ha pins s σ H Q I h) fun c s1 e => ?_)
  cases c with
  | false => exact isTrue_or_nil e
  | true => exact e
theorem pw_and (ha : PT X a tA) (hb : PW X (.BoolOp .And (b :: rest) pos) tB') : PW X (.BoolOp .And (a :: b :: rest) pos) (tAnd tA tB') := by
  intro wh pins s σ H Q I h
  refine isTrue_and (thn (ha pins s σ H _ I h) fun c s1 ⟨H1, I1, q1⟩ => ?_)
  cases c with
  | true => exact hb wh pins s1 σ H1 Q I1 q1
  | false => exact ⟨H1, I1, q1⟩
theorem pw_or (ha : PT X a tA) (hb : PW X (.BoolOp .Or (b :: rest) pos) tB') : PW X (.BoolOp .Or (a :: b :: rest) pos) (tOr tA tB') := by
  intro wh pins s σ H Q I h
  refine isTrue_or (thn (ha pins s σ H _ I h) fun c s1 ⟨H1, I1, q1⟩ => ?_)
  cases c with
  | true => exact ⟨H1, I1, q1⟩
  | false => exact hb wh pins s1 σ H1 Q I1 q1
theorem pt_not (ha : PT X a tA) : PT X (.UnaryOp .Not a pos) (tNot tA) := by
  intro pins s σ H Q I h
  exact isTrue_not (ha pins s σ H (fun c H1 => Q (!c) H1) I h)
def tAndV (ta tb : TE) : TE := fun σ H Q => ta σ H fun x H1 => ∃ c, x = .bl c ∧ if c = true then tb σ H1 Q else Q (.bl false) H1
def tOrV (ta tb : TE) : TE := fun σ H Q => ta σ H fun x H1 => ∃ c, x = .bl c ∧ if c = true then Q (.bl true) H1 else tb σ H1 Q
def tNotV (ta : TE) : TE := fun σ H Q => ta σ H fun x H1 => ∃ c, x = .bl c ∧ Q (.bl (!c)) H1
theorem pe_one {op} {t : TE} (h : PE X a t) : PE X (.BoolOp op [a] pos) t := fun pins s σ H Q I hw => BoolOp_one (h pins s σ H Q I hw)
theorem pe_and (ha : PE X a ta) (hb : PE X (.BoolOp .And (b :: rest) pos) tb) : PE X (.BoolOp .And (a :: b :: rest) pos) (tAndV ta tb) := by
  intro pins s σ H Q I h
  refine BoolOp_and (thn (ha pins s σ H _ I h) fun v s1 ⟨x, H1, I1, r1, q1⟩ => ?_)
  obtain ⟨c, rfl, q1⟩ := q1
  cases r1
  refine wpAny_truthy_bool ?_
  cases c with
  | true => exact hb pins s1 σ H1 Q I1 q1
  | false => exact ⟨.bl false, H1, I1, rfl, q1⟩
theorem pe_or (ha : PE X a ta) (hb : PE X (.BoolOp .Or (b :: rest) pos) tb) : PE X (.BoolOp .Or (a :: b :: rest) pos) (tOrV ta tb) := by
  intro pins s σ H Q I h
  refine BoolOp_or (thn (ha pins s σ H _ I h) fun v s1 ⟨x, H1, I1, r1, q1⟩ => ?_)
  obtain ⟨c, rfl, q1⟩ := q1
  cases r1
  refine wpAny_truthy_bool ?_
  cases c with
  | false => exact hb pins s1 σ H1 Q I1 q1
  | true => exact ⟨.bl true, H1, I1, rfl, q1⟩
theorem pe_not (ha : PE X a ta) : PE X (.UnaryOp .Not a pos) (tNotV ta) := by
  intro pins s σ H Q I h
  refine UnaryOp_ (thn (ha pins s σ H _ I h) fun v s1 ⟨x, H1, I1, r1, q1⟩ => ?_)
  obtain ⟨c, rfl, q1⟩ := q1
  cases r1
  exact not_of (wpAny_truthy_bool ⟨.bl (!c), H1, I1, rfl, q1⟩)
def tIf (t : TT) (ta tb : TE) : TE := fun σ H Q => t σ H fun c H1 => if c = true then ta σ H1 Q else tb σ H1 Q
theorem pe_ifExp {c : Expr} (hc : PT X c tA) (ha : PE X a ta) (hb : PE X b tb) : PE X (.IfExp c a b pos) (tIf tA ta tb) := by
  intro pins s σ H Q I h
  refine wpAny_IfExp (thn (hc pins s σ H _ I h) fun d s1 ⟨H1, I1, q1⟩ => ?_)
  cases d with
  | true => exact ha pins s1 σ H1 Q I1 q1
  | false => exact hb pins s1 σ H1 Q I1 q1
end
end L2
namespace L2
open PySem PySem.Spec PyProof.Rows
def SqL (K : PySem.W.Frag) (H : Hp) (a : Addr) (xs : List V) : Prop :=
  Rd H a (.lst xs) ∨
    ∃ (o : Obj) (its : Array Value) (n : Nat), K.lookup a = some o ∧ o.cls = .type "list" ∧ o.dict = none ∧ o.data = .seq its n ∧ its.size ≤ sizeLine ∧ Vals xs its.toList
def SqT (K : PySem.W.Frag) (H : Hp) (a : Addr) (xs : List V) : Prop :=
  Rd H a (.tup xs) ∨
    ∃ (o : Obj) (its : Array Value) (n : Nat), K.lookup a = some o ∧ o.cls = .type "tuple" ∧ o.data = .seq its n ∧ its.size ≤ sizeLine ∧ Vals xs its.toList
def absV : Value → Option V
  | .none => some .non
  | .bool b => some (.bl b)
  | .int i _ => some (.int i)
  | .str x _ => some (.str x)
  | .bytes b _ => some (.byt b)
  | .float b _ => some (.flt b)
  | .ref a => some (.ref a)
  | .type n => some (.ty n)
  | _ => none
theorem RelV.abs {x : V} {u : Value} (r : RelV x u) : absV u = some x := by
  cases x with
  | non => cases r; rfl
  | bl _ => cases r; rfl
  | int _ => obtain ⟨t, rfl⟩ := r; rfl
  | str _ => obtain ⟨t, rfl⟩ := r; rfl
  | byt _ => obtain ⟨t, rfl⟩ := r; rfl
  | flt _ => obtain ⟨t, rfl⟩ := r; rfl
  | ref _ => cases r; rfl
  | ty _ => cases r; rfl
theorem RelV.inj {x y : V} {u : Value} (r : RelV x u) (q : RelV y u) : x = y := Option.some.inj (r.abs.symm.trans q.abs)
theorem Vals.inj : ∀ {xs ys : List V} {us : List Value}, Vals xs us → Vals ys us → xs = ys
  | _, _, _, .nil, .nil => rfl
  | _, _, _, .cons r t, .cons r' t' => by rw [r.inj r', Vals.inj t t']
section
variable {X : Cx} {pins : List (Addr × Obj)} {σ : St} {H : Hp} {s : Shared} {a : Addr} {xs ys : List V}
theorem SqL.of {K : PySem.W.Frag} (h : H a = some (.lst xs)) : SqL K H a xs := .inl (.inl h)
theorem SqT.of {K : PySem.W.Frag} (h : H a = some (.tup xs)) : SqT K H a xs := .inl (.inl h)
theorem Inv.list (I : Inv X pins σ H s) (h : SqL X.K H a xs) : ∃ its : List Value, Vals xs its ∧ PlainL s.heap a its.toArray ∧ xs.length ≤ sizeLine := by
  rcases h with h | ⟨o, its, n, hk, hc, hd, hs, hz, r⟩
  · obtain ⟨z, its, n, r, e⟩ := h.ok I.hok
    exact ⟨its, r, ⟨_, n, e, rfl, rfl, rfl⟩, z⟩
  · refine ⟨its.toList, r, ⟨o, n, I.kIn a o hk, hc, hd, by simpa using hs⟩, ?_⟩
    have e := r.length
    simp only [Array.length_toList] at e
    omega
theorem Inv.tuple (I : Inv X pins σ H s) (h : SqT X.K H a xs) : ∃ its : List Value, Vals xs its ∧ IsTup s.heap a its.toArray ∧ xs.length ≤ sizeLine := by
  rcases h with h | ⟨o, its, n, hk, hc, hs, hz, r⟩
  · obtain ⟨z, its, r, p⟩ := h.ok I.hok
    exact ⟨its, r, p, z⟩
  · refine ⟨its.toList, r, ⟨o, I.kIn a o hk, hc, n, by simpa using hs⟩, ?_⟩
    have e := r.length
    simp only [Array.length_toList] at e
    omega
theorem Inv.list_inj (I : Inv X pins σ H s) (h : SqL X.K H a xs) (h' : SqL X.K H a ys) : xs = ys := by
  obtain ⟨its, r, ⟨o, n, e, _, _, d⟩, _⟩ := I.list h
  obtain ⟨its', r', ⟨o', n', e', _, _, d'⟩, _⟩ := I.list h'
  rw [e] at e'; cases e'
  rw [d] at d'
  injection d' with d1 _
  have : its = its' := by simpa using congrArg Array.toList d1
  subst this
  exact r.inj r'
theorem Inv.tuple_inj (I : Inv X pins σ H s) (h : SqT X.K H a xs) (h' : SqT X.K H a ys) : xs = ys := by
  obtain ⟨its, r, ⟨o, e, _, n, d⟩, _⟩ := I.tuple h
  obtain ⟨its', r', ⟨o', e', _, n', d'⟩, _⟩ := I.tuple h'
  rw [e] at e'; cases e'
  rw [d] at d'
  injection d' with d1 _
  have : its = its' := by simpa using congrArg Array.toList d1
  subst this
  exact r.inj r'
end
abbrev Cx.wish (X : Cx) (E : Value → Shared → Prop) : Cx := { X with xe := E }
abbrev Cx.nox (X : Cx) : Cx := X.wish fun _ _ => False
theorem Cx.Ok.wish {X : Cx} (ok : X.Ok) (E : Value → Shared → Prop) : (X.wish E).Ok :=
  ⟨ok.mod, ok.kind, ok.glob, ok.blt, ok.above, ok.inj, ok.has, ok.cab, ok.hd, ok.frames, ok.stk, ok.exf, ok.bs, ok.bsz, ok.noex, ok.exfs, ok.funs, ok.frf⟩
theorem Cx.Ok.unwish {X : Cx} {E : Value → Shared → Prop} (ok : (X.wish E).Ok) : X.Ok :=
  ⟨ok.mod, ok.kind, ok.glob, ok.blt, ok.above, ok.inj, ok.has, ok.cab, ok.hd, ok.frames, ok.stk, ok.exf, ok.bs, ok.bsz, ok.noex, ok.exfs, ok.funs, ok.frf⟩
section
variable {X : Cx} {pins : List (Addr × Obj)} {σ : St} {H : Hp} {s : Shared} {E : Value → Shared → Prop}
theorem Inv.wish (I : Inv X pins σ H s) (E : Value → Shared → Prop) : Inv (X.wish E) pins σ H s := ⟨I.ok.wish E, I.os, I.bare, I.base, I.loc, I.cell, I.free, I.freeC, I.pin, I.hok, I.len⟩
theorem Inv.unwish (I : Inv (X.wish E) pins σ H s) : Inv X pins σ H s := ⟨I.ok.unwish, I.os, I.bare, I.base, I.loc, I.cell, I.free, I.freeC, I.pin, I.hok, I.len⟩
theorem SP.unwish {D : Ends} {f : Flow} {s' : Shared} (h : SP (X.wish E) pins D f s') : SP X pins D f s' := by
  cases f with
  | next => obtain ⟨σ', H', I, q⟩ := h; exact ⟨σ', H', I.unwish, q⟩
  | brk => obtain ⟨σ', H', I, q⟩ := h; exact ⟨σ', H', I.unwish, q⟩
  | cont => obtain ⟨σ', H', I, q⟩ := h; exact ⟨σ', H', I.unwish, q⟩
  | ret u => obtain ⟨v, σ', H', I, r, q⟩ := h; exact ⟨v, σ', H', I.unwish, r, q⟩
theorem PE.nox {e : Expr} {t : TE} (h : PE X.nox e t) : PE X e t := fun pins s σ H Q I hw =>
  wpAny_mono (h pins s σ H Q (I.wish _) hw) (fun _ _ ⟨v, H', I', r, q⟩ => ⟨v, H', I'.unwish, r, q⟩) fun _ _ z => False.elim z
theorem PT.nox {e : Expr} {t : TT} (h : PT X.nox e t) : PT X e t := fun pins s σ H Q I hw =>
  wpAny_mono (h pins s σ H Q (I.wish _) hw) (fun _ _ ⟨H', I', q⟩ => ⟨H', I'.unwish, q⟩) fun _ _ z => False.elim z
theorem PSs.nox {st : List Stmt} {t : TS} (h : PSs X.nox st t) : PSs X st t := fun pins s σ H D I hw =>
  wpAny_mono (h pins s σ H D (I.wish _) hw) (fun _ _ q => q.unwish) fun _ _ z => False.elim z
end
section
variable {X : Cx} {st : Stmt} {rest : List Stmt} {t u : TS} {e : Expr} {te : TE} {pos : Pos}
def tNext : TS := fun D σ H => D.nx σ H
def tSeq (t u : TS) : TS := fun D σ H => t { D with nx := u D } σ H
theorem pss_nil : PSs X [] tNext := fun _ _ σ H _ I h => wpAny_execs_nil ⟨σ, H, I, h⟩
theorem pss_cons (h1 : PS X st t) (h2 : PSs X rest u) : PSs X (st :: rest) (tSeq t u) := by
  intro pins s σ H D I h
  refine wpAny_execs_cons (thn (h1 pins s σ H { D with nx := u D } I h) fun f s1 q => ?_)
  cases f with
  | next =>
    obtain ⟨σ', H', I', q⟩ := q
    exact h2 pins s1 σ' H' D I' q
  | ret v => exact q
  | brk => exact q
  | cont => exact q
theorem pss_one (h1 : PS X st t) : PSs X [st] t := by
  intro pins s σ H D I h
  refine wpAny_execs_cons (thn (h1 pins s σ H D I h) fun f s1 q => ?_)
  cases f with
  | next => exact wpAny_execs_nil q
  | ret v => exact q
  | brk => exact q
  | cont => exact q
theorem Inv.quiet {pins : List (Addr × Obj)} {σ : St} {H : Hp} {s : Shared} (I : Inv X pins σ H s) : interactive X.env = false := by simp [interactive, I.ok.kind]
def tDrop (te : TE) : TS := fun D σ H => te σ H fun _ H1 => D.nx σ H1
theorem ps_expr (he : PE X e te) (hs : swapsWith e none pos.line X.env = pure false := by rfl) : PS X (.Expr e pos) (tDrop te) := by
  intro pins s σ H D I h
  exact wpAny_Expr_any (thn (he pins s σ H _ I h) fun v s1 ⟨x, H1, I1, r1, q1⟩ => ⟨σ, H1, I1, q1⟩) I.quiet hs
def tRet (te : TE) : TS := fun D σ H => te σ H D.rt
theorem ps_ret (he : PE X e te) : PS X (.Return (some e) pos) (tRet te) := by
  intro pins s σ H D I h
  exact wpAny_Return_some (thn (he pins s σ H _ I h) fun v s1 ⟨x, H1, I1, r1, q1⟩ => ⟨x, σ, H1, I1, r1, q1⟩)
def tIfS (c : TT) (t u : TS) : TS := fun D σ H => c σ H fun b H1 => if b = true then t D σ H1 else u D σ H1
theorem ps_if {c : Expr} {a b : List Stmt} {tc : TT} (hc : PT X c tc) (ha : PSs X a t) (hb : PSs X b u) : PS X (.If c a b pos) (tIfS tc t u) := by
  intro pins s σ H D I h
  refine wpAny_If (thn (hc pins s σ H _ I h) fun d s1 ⟨H1, I1, q1⟩ => ?_)
  cases d with
  | true => exact ha pins s1 σ H1 D I1 q1
  | false => exact hb pins s1 σ H1 D I1 q1
def tNever : TS := fun _ _ _ => False
theorem ps_never : PS X st tNever := fun _ _ _ _ _ _ h => h.elim
end
abbrev TG := V → St → Hp → (St → Hp → Prop) → Prop
abbrev TGs := List V → St → Hp → (St → Hp → Prop) → Prop
def PG (X : Cx) (target : Expr) (t : TG) : Prop :=
  ∀ (pins : List (Addr × Obj)) (s : Shared) (σ : St) (H : Hp) (v : V) (u : Value) (Q : St → Hp → Prop), Inv X pins σ H s → RelV v u → t v σ H Q →
    wpAny (model X.prog X.w) X.A (assign target X.env u) (fun _ s' => ∃ σ' H', Inv X pins σ' H' s' ∧ Q σ' H') X.xe s
def PGs (X : Cx) (ts : List Expr) (t : TGs) : Prop :=
  ∀ (pins : List (Addr × Obj)) (s : Shared) (σ : St) (H : Hp) (vs : List V) (us : List Value) (Q : St → Hp → Prop), Inv X pins σ H s → Vals vs us → t vs σ H Q →
    wpAny (model X.prog X.w) X.A (assignInOrder ((assignEach ts X.env).map (·.2)) us) (fun _ s' => ∃ σ' H', Inv X pins σ' H' s' ∧ Q σ' H') X.xe s
section
variable {X : Cx} {pos : Pos}
def gName (i : Nat) : TG := fun v σ H Q => Q (σ.set i (some v)) H
theorem pg_name {i : Nat} {x : Str} (hN : X.N.Nodup) (hi : X.N[i]? = some x) (hx : Loc X.env.scope x) (hf : X.fn x = true ∨ X.env.scope.names.lookup x = some .local := by first | exact .inl rfl | exact .inr rfl | assumption) : PG X (.Name x pos) (gName i) := by
  intro pins s σ H v u Q I r h
  exact wpAny_assign_Name (store_ok I hN hi hx r (fun s' I' => ⟨_, H, I', h⟩) hf)
def gNil : TGs := fun vs σ H Q => vs = [] ∧ Q σ H
def gCons (t : TG) (u : TGs) : TGs := fun vs σ H Q => ∃ v r, vs = v :: r ∧ t v σ H fun σ' H' => u r σ' H' Q
theorem pgs_nil : PGs X [] gNil := by
  intro pins s σ H vs us Q I r h
  obtain ⟨e, h⟩ := h
  subst e
  cases r
  exact assignInOrder_nil ⟨σ, H, I, h⟩
theorem pgs_cons {e : Expr} {es : List Expr} {t : TG} {u : TGs} (h1 : PG X e t) (h2 : PGs X es u)
    (hs : (assignEach (e :: es) X.env).map (·.2) = assign e X.env :: (assignEach es X.env).map (·.2) := by rfl) : PGs X (e :: es) (gCons t u) := by
  intro pins s σ H vs us Q I r h
  obtain ⟨v, vr, e1, h⟩ := h
  subst e1
  cases r with
  | cons r rr =>
    rw [hs]
    refine assignInOrder_cons (thn (h1 pins s σ H _ _ _ I r h) fun _ s1 ⟨σ1, H1, I1, q1⟩ => ?_)
    exact h2 pins s1 σ1 H1 _ _ Q I1 rr q1
def gTup (K : PySem.W.Frag) (n : Nat) (t : TGs) : TG := fun v σ H Q => ∃ a xs, v = .ref a ∧ SqT K H a xs ∧ xs.length = n ∧ t xs σ H Q
theorem pg_tup {es : List Expr} {k : Nat} {t : TGs} {n : Nat} (hc : X.calm = true) (h : PGs X es t)
    (hn : (assignEach es X.env).length = n := by rfl) (hst : (assignEach es X.env).findIdx? (·.1) = none := by rfl) : PG X (.Tuple es k pos) (gTup X.K n t) := by
  intro pins s σ H v u Q I r hw
  obtain ⟨a, xs, e1, hq, hl, hw⟩ := hw
  subst e1
  cases r
  obtain ⟨its, rv, ht, hz⟩ := I.tuple hq
  refine assign_Tuple_tuple (I.ok.hd hc) ht (by simp [hn, ← hl, rv.length]) hst fun h' hx => ?_
  have I1 : Inv X pins σ H { s with heap := h' } := I.kept (t' := s.toks) fun b o e => hx b o (Nat.ne_of_lt (Heap.lt_size e)) e
  exact h pins _ σ H xs _ Q I1 (by simpa using rv) hw
def tAsg (te : TE) (g : TG) : TS := fun D σ H => te σ H fun x H1 => g x σ H1 D.nx
theorem ps_asg {tg e : Expr} {te : TE} {g : TG} (he : PE X e te) (hg : PG X tg g) (hs : swapsWithSole [tg] e pos.line X.env = pure false := by rfl) (hw : swappedStores [tg] e X.env = pure none := by rfl)
    (h1 : (assignEach [tg] X.env).map (·.2) = [assign tg X.env] := by rfl) : PS X (.Assign [tg] e pos) (tAsg te g) := by
  intro pins s σ H D I h
  refine wpAny_Assign_stores (thn (he pins s σ H _ I h) fun v s1 ⟨x, H1, I1, r1, q1⟩ => ?_) hs hw
  rw [h1]
  exact thn (hg pins s1 σ H1 x v _ I1 r1 q1) fun _ s2 q => q
theorem ps_set {i : Nat} {x : Str} {e : Expr} {te : TE} {pos' : Pos} (hN : X.N.Nodup) (hi : X.N[i]? = some x) (hx : Loc X.env.scope x) (he : PE X e te) (hs : swapsWith e (some (.Name x pos')) pos.line X.env = pure false := by rfl) (hf : X.fn x = true ∨ X.env.scope.names.lookup x = some .local := by first | exact .inl rfl | exact .inr rfl | assumption) :
    PS X (.Assign [.Name x pos'] e pos) (tAsg te (gName i)) := by
  intro pins s σ H D I h
  refine wpAny_Assign_Name (thn (he pins s σ H _ I h) fun v s1 ⟨y, H1, I1, r1, q1⟩ => ?_) hs
  exact store_ok I1 hN hi hx r1 (fun s2 I2 => ⟨_, H1, I2, q1⟩) hf
end
section
variable {X : Cx} {pos : Pos}
end
structure It where
  go : Nat → Hp → Prop
  yld : Nat → Hp → V → Hp → Prop
  stop : Nat → Hp → Prop
def FpOk (X : Cx) (pins : List (Addr × Obj)) (H : Hp) (b : Addr) : Prop :=
  H b = none ∧ b ≠ X.env.locals ∧ b ∉ X.fs ∧ (b ∈ X.ex ∨ X.s₀.heap.objs.size ≤ b) ∧ (∀ x c, X.env.cells.lookup x = some c → c ≠ b) ∧ ∀ p ∈ X.pn ++ pins, p.1 ≠ b
theorem Inv.fpOk {X : Cx} {pins : List (Addr × Obj)} {σ : St} {H H' : Hp} {s : Shared} {b : Addr} (I : Inv X pins σ H s) (hb : s.heap.objs.size ≤ b) (hn : H' b = none) : FpOk X pins H' b := by
  refine ⟨hn, Nat.ne_of_gt (Nat.lt_of_lt_of_le I.lt hb), I.nofs hb, .inr (Nat.le_trans I.sz hb), fun x c e z => ?_, fun p hp z => ?_⟩
  · obtain ⟨v, q⟩ := I.cell x c e
    exact absurd (Nat.lt_of_lt_of_le q.lt (by rw [z]; exact hb)) (Nat.lt_irrefl _)
  · exact absurd (Nat.lt_of_lt_of_le (Heap.lt_size (I.pin p hp).1) (by rw [z]; exact hb)) (Nat.lt_irrefl _)
structure Turn (P : Program) (w : World) (K : PySem.W.Frag) (tg : Expr) (J : It) (fp : List Addr) (it : Addr) (tn : Nat → Heap → Prop) : Prop where
  mem : it ∈ fp
  obj : ∀ i h, tn i h → ∀ b ∈ fp, ∃ o, h.get? b = some o ∧ ∀ v, o.data ≠ .cell v
  keep : ∀ i h h', tn i h → (∀ b ∈ fp, ∀ o, h.get? b = some o → h'.get? b = some o) → tn i h'
  item : ∀ (X : Cx), X.prog = P → X.w = w → X.K = K → X.calm = true → ∀ (i : Nat) (pins : List (Addr × Obj)) (s : Shared) (σ : St) (H : Hp) (E : Value → Shared → Prop), Inv X pins σ H s → (∀ b ∈ fp, FpOk X pins H b) → tn i s.heap → J.go i H →
    wpAny (model P w) X.A (pyNext (.ref it)) (fun r s1 => ∃ u, r = some u ∧
      wpAny (model P w) X.A (letOwnedTupleGo tg (.ref it) u) (fun _ s2 => ∃ x H', Inv X pins σ H' s2 ∧ RelV x u ∧ J.yld i H x H' ∧ tn (i + 1) s2.heap ∧ ∀ b ∈ fp, H' b = none) E s1) E s
  done : ∀ (X : Cx), X.prog = P → X.w = w → X.K = K → X.calm = true → ∀ (i : Nat) (pins : List (Addr × Obj)) (s : Shared) (σ : St) (H : Hp) (E : Value → Shared → Prop), Inv X pins σ H s → (∀ b ∈ fp, FpOk X pins H b) → tn i s.heap → J.stop i H →
    wpAny (model P w) X.A (pyNext (.ref it)) (fun r s1 => r = none ∧ Inv X pins σ H s1) E s
  self : ∀ (A : Around) (i : Nat) (s : Shared) (Q : Value → Shared → Prop) (E : Value → Shared → Prop), tn i s.heap → Q (.ref it) s → wpAny (model P w) A (pyIter (.ref it)) Q E s
abbrev TI := St → Hp → (It → Hp → Prop) → Prop
def PIE (X : Cx) (pins : List (Addr × Obj)) (σ : St) (tg : Expr) (R : It → Hp → Prop) (itv : Value) (s2 : Shared) : Prop :=
  ∃ (it : Addr) (fp : List Addr) (tn : Nat → Heap → Prop) (J : It) (H' : Hp), itv = .ref it ∧ Inv X pins σ H' s2 ∧ Turn X.prog X.w X.K tg J fp it tn ∧ tn 0 s2.heap ∧ (∀ b ∈ fp, FpOk X pins H' b) ∧ R J H'
def PI (X : Cx) (tg iter : Expr) (wi : TI) : Prop :=
  ∀ (pins : List (Addr × Obj)) (s : Shared) (σ : St) (H : Hp) (R : It → Hp → Prop), Inv X pins σ H s → wi σ H R →
    wpAny (model X.prog X.w) X.A (eval iter X.env) (fun v s1 => wpAny (model X.prog X.w) X.A (pyIter v) (PIE X pins σ tg R) X.xe s1) X.xe s
theorem go_of {M : Model} {A : Around} {E : Value → Shared → Prop} {s : Shared} {tg : Expr} {it : Addr} {u : Value} {o : Obj} {n : String} {vs : Array Value} {Q : Unit → Shared → Prop} (ho : s.heap.get? it = some o) (hc : o.cls = .type n) (hd : o.data = .fields vs)
    (hn : ["enumerate", "zip", "dict_itemiterator", "dict_reverseitemiterator", "odict_iterator", "itertools.zip_longest", "itertools.pairwise"].contains n = false) (hQ : Q () s) : wpAny M A (letOwnedTupleGo tg (.ref it) u) Q E s := by
  unfold letOwnedTupleGo
  cases tg <;> first
    | exact wpAny_pure hQ
    | (cases u <;> first
        | exact wpAny_pure hQ
        | (refine wpAny_bind (wpAny_load ho ?_)
           rw [hc, hd]
           show wpAny M A (if (["enumerate", "zip", "dict_itemiterator", "dict_reverseitemiterator", "odict_iterator", "itertools.zip_longest", "itertools.pairwise"].contains n && vs[0]? == some (rawInt _)) = true then _ else _) Q E s
           rw [if_neg (by intro h; rw [hn, Bool.false_and] at h; cases h)]
           exact wpAny_pure hQ))
def Itl (K : PySem.W.Frag) (a : Addr) : It :=
  ⟨fun i H => ∃ xs x, SqL K H a xs ∧ xs[i]? = some x, fun i H x H' => H' = H ∧ ∀ xs, SqL K H a xs → xs[i]? = some x, fun i H => ∃ xs, SqL K H a xs ∧ xs.length ≤ i⟩
def Itt (K : PySem.W.Frag) (a : Addr) : It :=
  ⟨fun i H => ∃ xs x, SqT K H a xs ∧ xs[i]? = some x, fun i H x H' => H' = H ∧ ∀ xs, SqT K H a xs → xs[i]? = some x, fun i H => ∃ xs, SqT K H a xs ∧ xs.length ≤ i⟩
def Itr (lo : Int) (n : Nat) : It := ⟨fun i _ => i < n, fun i H x H' => H' = H ∧ x = .int (lo + i), fun i _ => n ≤ i⟩
theorem turn_list {P : Program} {w : World} {K : PySem.W.Frag} {tg : Expr} (a it : Addr) : Turn P w K tg (Itl K a) [it] it (fun i h => h.IsListIter it a i) where
  mem := by simp
  obj := fun i h st b hb => by
    have e : b = it := by simpa using hb
    subst e
    obtain ⟨o, e, c, d⟩ := st
    exact ⟨o, e, fun v z => by rw [d] at z; cases z⟩
  keep := fun i h h' st k => st.at fun o e => k it (by simp) o e
  item := by
    intro X hP hw hK hc i pins s σ H E I hf st hg
    subst hP hw hK
    obtain ⟨xs, x, hq, hx⟩ := hg
    obtain ⟨its, rv, p, hz⟩ := I.list hq
    obtain ⟨u, hu, ru⟩ := rv.get hx
    obtain ⟨f0, f1, f2, f3, f4, f5⟩ := hf it (by simp)
    refine wpAny_pyNext_list_item st p.isList (x := u) (by simpa using hu) fun h' st' sb => ?_
    have I1 : Inv X pins σ H { s with heap := h' } := I.turned (t' := s.toks) (fun b o hb e => (sb.2 b hb).trans e) f0 f1 f3 f4 f5
    obtain ⟨o, e, c, d⟩ := id st'
    exact ⟨u, rfl, go_of (s := { s with heap := h' }) e c d (by decide) ⟨x, H, I1, ru, ⟨rfl, fun ys hy => by rw [I.list_inj hy hq]; exact hx⟩, st', fun b hb => (hf b hb).1⟩⟩
  done := by
    intro X hP hw hK hc i pins s σ H E I hf st hg
    subst hP hw hK
    obtain ⟨xs, hq, hx⟩ := hg
    obtain ⟨its, rv, p, hz⟩ := I.list hq
    obtain ⟨f0, f1, f2, f3, f4, f5⟩ := hf it (by simp)
    have hl := rv.length
    exact wpAny_pyNext_list_end (I.ok.hd hc) st p.isList (by simp; omega) fun h' eb => ⟨rfl, I.turned (t' := s.toks) (fun b o hb e => eb b o hb e) f0 f1 f3 f4 f5⟩
  self := fun _ _ _ _ _ st h => wpAny_pyIter_listiter st h
theorem turn_tuple {P : Program} {w : World} {K : PySem.W.Frag} {tg : Expr} (a it : Addr) : Turn P w K tg (Itt K a) [it] it (fun i h => h.IsTupleIter it a i) where
  mem := by simp
  obj := fun i h st b hb => by
    have e : b = it := by simpa using hb
    subst e
    obtain ⟨o, e, c, d⟩ := st
    exact ⟨o, e, fun v z => by rw [d] at z; cases z⟩
  keep := fun i h h' st k => st.at fun o e => k it (by simp) o e
  item := by
    intro X hP hw hK hc i pins s σ H E I hf st hg
    subst hP hw hK
    obtain ⟨xs, x, hq, hx⟩ := hg
    obtain ⟨its, rv, p, hz⟩ := I.tuple hq
    obtain ⟨u, hu, ru⟩ := rv.get hx
    obtain ⟨f0, f1, f2, f3, f4, f5⟩ := hf it (by simp)
    refine wpAny_pyNext_tuple_item st (show s.heap.IsTuple a its.toArray from p) (x := u) (by simpa using hu) fun h' st' sb => ?_
    have I1 : Inv X pins σ H { s with heap := h' } := I.turned (t' := s.toks) (fun b o hb e => (sb.2 b hb).trans e) f0 f1 f3 f4 f5
    obtain ⟨o, e, c, d⟩ := id st'
    exact ⟨u, rfl, go_of (s := { s with heap := h' }) e c d (by decide) ⟨x, H, I1, ru, ⟨rfl, fun ys hy => by rw [I.tuple_inj hy hq]; exact hx⟩, st', fun b hb => (hf b hb).1⟩⟩
  done := by
    intro X hP hw hK hc i pins s σ H E I hf st hg
    subst hP hw hK
    obtain ⟨xs, hq, hx⟩ := hg
    obtain ⟨its, rv, p, hz⟩ := I.tuple hq
    obtain ⟨f0, f1, f2, f3, f4, f5⟩ := hf it (by simp)
    have hl := rv.length
    exact wpAny_pyNext_tuple_end (I.ok.hd hc) st (show s.heap.IsTuple a its.toArray from p) (by simp; omega) fun h' eb => ⟨rfl, I.turned (t' := s.toks) (fun b o hb e => eb b o hb e) f0 f1 f3 f4 f5⟩
  self := fun _ _ _ _ _ st h => wpAny_pyIter_tupleiter st h
theorem turn_range {P : Program} {w : World} {K : PySem.W.Frag} {tg : Expr} (it : Addr) (lo : Int) (n : Nat) : Turn P w K tg (Itr lo n) [it] it (fun i h => IsRangeIter h it (lo + (i : Nat) * 1) ((n : Int) - (i : Nat)) 1) where
  mem := by simp
  obj := fun i h st b hb => by
    have e : b = it := by simpa using hb
    subst e
    exact ⟨_, st, fun v z => by
      have z' : Data.fields _ = Data.cell v := z
      cases z'⟩
  keep := fun i h h' st k => k it (by simp) _ st
  item := by
    intro X hP hw hK hc i pins s σ H E I hf st hg
    subst hP hw hK
    obtain ⟨f0, f1, f2, f3, f4, f5⟩ := hf it (by simp)
    have W := Walks.range (prog := X.prog) (w := X.w) (I.ok.hd hc) it lo 1 n
    refine W.item i s _ _ hg st fun v h' tk hv st' kk => ?_
    obtain ⟨t, rfl⟩ := hv
    have I1 : Inv X pins σ H { s with heap := h', toks := tk } := I.turned (fun b o hb e => kk b o (by simpa using hb) e) f0 f1 f3 f4 f5
    refine ⟨_, rfl, go_of (s := { s with heap := h', toks := tk }) (n := "range_iterator") st' rfl rfl (by decide) ⟨.int (lo + i), H, I1, ⟨t, ?_⟩, ⟨rfl, rfl⟩, st', fun b hb => (hf b hb).1⟩⟩
    rw [Int.mul_one]
  done := by
    intro X hP hw hK hc i pins s σ H E I hf st hg
    subst hP hw hK
    obtain ⟨f0, f1, f2, f3, f4, f5⟩ := hf it (by simp)
    exact wpAny_pyNext_range_end (I.ok.hd hc) st (by have : n ≤ i := hg; omega) fun h' eb => ⟨rfl, I.turned (t' := s.toks) (fun b o hb e => eb b o hb e) f0 f1 f3 f4 f5⟩
  self := fun _ _ _ _ _ st h => wpAny_pyIter_rangeiter st h
end L2
namespace L2
open PySem PySem.Spec PyProof.Rows
section
variable {X : Cx} {tg : Expr}
def iList (K : PySem.W.Frag) (tl : TE) : TI := fun σ H R => tl σ H fun x H1 => ∃ a, x = .ref a ∧ (∃ xs, SqL K H1 a xs) ∧ R (Itl K a) H1
def iTup (K : PySem.W.Frag) (tl : TE) : TI := fun σ H R => tl σ H fun x H1 => ∃ a, x = .ref a ∧ (∃ xs, SqT K H1 a xs) ∧ R (Itt K a) H1
theorem pi_list {l : Expr} {tl : TE} (hl : PE X l tl) : PI X tg l (iList X.K tl) := by
  intro pins s σ H R I h
  refine thn (hl pins s σ H _ I h) fun v s1 ⟨x, H1, I1, r1, q1⟩ => ?_
  obtain ⟨a, e, ⟨xs, hq⟩, q⟩ := q1
  subst e
  cases r1
  obtain ⟨its, rv, p, hz⟩ := I1.list hq
  refine wpAny_pyIter_list p.isList ?_
  refine ⟨s1.heap.objs.size, [s1.heap.objs.size], _, _, H1, rfl, I1.kept (t' := s1.toks) fun b o e => Heap.get?_push_of_some _ e, turn_list a _, ⟨_, Heap.get?_push_size _ rfl, rfl, rfl⟩, fun b hb => ?_, q⟩
  have e : b = s1.heap.objs.size := by simpa using hb
  subst e
  exact I1.fpOk (Nat.le_refl _) (I1.hok.fresh (Nat.le_refl _))
theorem pi_tup {l : Expr} {tl : TE} (hl : PE X l tl) : PI X tg l (iTup X.K tl) := by
  intro pins s σ H R I h
  refine thn (hl pins s σ H _ I h) fun v s1 ⟨x, H1, I1, r1, q1⟩ => ?_
  obtain ⟨a, e, ⟨xs, hq⟩, q⟩ := q1
  subst e
  cases r1
  obtain ⟨its, rv, p, hz⟩ := I1.tuple hq
  refine wpAny_pyIter_tuple (show s1.heap.IsTuple a its.toArray from p) ?_
  refine ⟨s1.heap.objs.size, [s1.heap.objs.size], _, _, H1, rfl, I1.kept (t' := s1.toks) fun b o e => Heap.get?_push_of_some _ e, turn_tuple a _, ⟨_, Heap.get?_push_size _ rfl, rfl, rfl⟩, fun b hb => ?_, q⟩
  have e : b = s1.heap.objs.size := by simpa using hb
  subst e
  exact I1.fpOk (Nat.le_refl _) (I1.hok.fresh (Nat.le_refl _))
theorem range_it {pins : List (Addr × Obj)} {σ : St} {H : Hp} {s : Shared} {R : It → Hp → Prop} {E : Value → Shared → Prop} {lo hi : Int} {t u v : Tok} {tk : Nat} (I : Inv X pins σ H s) (h1 : -(2 ^ 62) ≤ lo) (h2 : lo < 2 ^ 62) (h3 : -(2 ^ 62) ≤ hi) (h4 : hi < 2 ^ 62)
    (q : R (Itr lo (hi - lo).toNat) H) : wpAny (model X.prog X.w) X.A (pyIter (.ref s.heap.objs.size)) (PIE X pins σ tg R) E { s with heap := s.heap.push { cls := .type "range", data := .fields #[.int lo t, .int hi u, .int 1 v] }, toks := tk } := by
  refine wpAny_pyIter_range (IsRange.new ..) (small_one h1 h2 h3 h4) ?_
  have I1 : Inv X pins σ H { s with heap := s.heap.push { cls := .type "range", data := .fields #[.int lo t, .int hi u, .int 1 v] }, toks := tk } := I.kept fun b o e => Heap.get?_push_of_some _ e
  refine ⟨(s.heap.push { cls := .type "range", data := .fields #[.int lo t, .int hi u, .int 1 v] }).objs.size, [(s.heap.push { cls := .type "range", data := .fields #[.int lo t, .int hi u, .int 1 v] }).objs.size], _, _, H, rfl,
    I1.kept (t' := tk) fun b o e => Heap.get?_push_of_some _ e, turn_range _ lo (hi - lo).toNat, ?_, fun b hb => ?_, q⟩
  · have e1 : lo + ((0 : Nat) : Int) * 1 = lo := by simp
    have e2 : (((hi - lo).toNat : Nat) : Int) - ((0 : Nat) : Int) = Builtin.Range.rangeSize lo hi 1 := by rw [rangeSize_one]; split <;> omega
    show IsRangeIter _ _ (lo + ((0 : Nat) : Int) * 1) ((((hi - lo).toNat : Nat) : Int) - ((0 : Nat) : Int)) 1
    rw [e1, e2]
    exact Heap.get?_push_size _ rfl
  · have e : b = (s.heap.push { cls := .type "range", data := .fields #[.int lo t, .int hi u, .int 1 v] }).objs.size := by simpa using hb
    subst e
    exact I1.fpOk (Nat.le_refl _) (I1.hok.fresh (Nat.le_refl _))
def iRng1 (ta : TA) : TI := fun σ H R => ta σ H fun vs H1 => ∃ j : Int, vs = [.int j] ∧ -(2 ^ 62) ≤ j ∧ j < 2 ^ 62 ∧ R (Itr 0 j.toNat) H1
def iRng2 (ta : TA) : TI := fun σ H R => ta σ H fun vs H1 => ∃ i j : Int, vs = [.int i, .int j] ∧ (-(2 ^ 62) ≤ i ∧ i < 2 ^ 62 ∧ -(2 ^ 62) ≤ j ∧ j < 2 ^ 62) ∧ R (Itr i (j - i).toNat) H1
theorem pi_range1 {a : Expr} {ta : TA} {p pos : Pos} (hg : Gl X "range") (hm : X.mg "range" = none) (ha : PA X [a] ta) (hs : starEach [a] X.env = [(false, eval a X.env)] := by rfl) : PI X tg (.Call (.Name "range" p) [a] [] pos) (iRng1 ta) := by
  intro pins s σ H R I h
  refine Call_ (ld_blt I hg hm boot_range (PyProof.Rows.callWith_type1 (thn (ha pos pins s σ H _ I h) fun us s1 ⟨vs, H1, I1, r1, q1⟩ => ?_) hs rfl))
  obtain ⟨j, e, q1, q2, q⟩ := q1
  subst e
  cases r1 with
  | cons r rr =>
    cases rr
    obtain ⟨t, rfl⟩ := r
    exact call_range_1 (range_it I1 (by omega) (by omega) q1 q2 (by simpa using q))
theorem pi_range2 {a b : Expr} {ta : TA} {p pos : Pos} (hg : Gl X "range") (hm : X.mg "range" = none) (ha : PA X [a, b] ta) (hs : starEach [a, b] X.env = [(false, eval a X.env), (false, eval b X.env)] := by rfl) (hs2 : starEach [b] X.env = [(false, eval b X.env)] := by rfl) :
    PI X tg (.Call (.Name "range" p) [a, b] [] pos) (iRng2 ta) := by
  intro pins s σ H R I h
  refine Call_ (ld_blt I hg hm boot_range (PyProof.Rows.callWith_type1 (thn (ha pos pins s σ H _ I h) fun us s1 ⟨vs, H1, I1, r1, q1⟩ => ?_) (by rw [hs, hs2]) (by rw [hs2]; rfl)))
  obtain ⟨i, j, e, ⟨q1, q2, q3, q4⟩, q⟩ := q1
  subst e
  cases r1 with
  | cons r rr =>
    cases rr with
    | cons r' rr =>
      cases rr
      obtain ⟨t, rfl⟩ := r
      obtain ⟨t', rfl⟩ := r'
      exact call_range_2 (range_it I1 q1 q2 q3 q4 q)
def tFor (wi : TI) (g : TG) (tb : TS) : TS := fun D σ H => wi σ H fun J H1 => ∃ W : Nat → Nat → St → Hp → Prop, (∃ m, W 0 m σ H1) ∧ ∀ i m σ H, W i m σ H →
  (J.stop i H ∧ D.nx σ H) ∨ (J.go i H ∧ ∃ N : St → Hp → Prop, (∀ σ' H', N σ' H' → ∃ m', m' < m ∧ W (i + 1) m' σ' H') ∧ ∀ x H', J.yld i H x H' → g x σ H' fun σ2 H2 => tb { D with nx := N, ct := N, bk := D.nx } σ2 H2)
def pinsAt (fp : List Addr) (h : Heap) : List (Addr × Obj) := fp.filterMap fun b => (h.get? b).map fun o => (b, o)
theorem mem_pinsAt {fp : List Addr} {h : Heap} {b : Addr} {o : Obj} (hb : b ∈ fp) (e : h.get? b = some o) : (b, o) ∈ pinsAt fp h := List.mem_filterMap.mpr ⟨b, hb, by rw [e]; rfl⟩
theorem of_pinsAt {fp : List Addr} {h : Heap} {p : Addr × Obj} (hp : p ∈ pinsAt fp h) : p.1 ∈ fp ∧ h.get? p.1 = some p.2 := by
  obtain ⟨b, hb, e⟩ := List.mem_filterMap.mp hp
  cases q : h.get? b with
  | none => rw [q] at e; cases e
  | some o =>
    rw [q] at e
    have e' : (b, o) = p := Option.some.inj e
    subst e'
    exact ⟨hb, q⟩
theorem Inv.pinned {pins : List (Addr × Obj)} {σ : St} {H : Hp} {s : Shared} {fp : List Addr} (I : Inv X pins σ H s) (hf : ∀ b ∈ fp, FpOk X pins H b) (ho : ∀ b ∈ fp, ∃ o, s.heap.get? b = some o ∧ ∀ v, o.data ≠ .cell v) : Inv X (pins ++ pinsAt fp s.heap) σ H s :=
  I.pins_of fun p hp => (List.mem_append.mp hp).elim (fun z => I.pin p (List.mem_append_right _ z)) fun z => by
    obtain ⟨hb, e⟩ := of_pinsAt z
    obtain ⟨f0, f1, f2, _⟩ := hf p.1 hb
    obtain ⟨o, e', d⟩ := ho p.1 hb
    rw [e] at e'; cases e'
    exact ⟨e, f0, f1, f2, d⟩
theorem Inv.unpinned {pins pl : List (Addr × Obj)} {σ : St} {H : Hp} {s : Shared} (I : Inv X (pins ++ pl) σ H s) : Inv X pins σ H s := I.pins_of fun p hp => I.pin p (List.mem_append_right _ (List.mem_append_left _ hp))
theorem ps_for {iter : Expr} {body : List Stmt} {wi : TI} {g : TG} {tb : TS} {pos : Pos} (hp : PassesOwn (model X.prog X.w) X.A X.env X.xe) (hc : X.calm = true) (hi : PI X tg iter wi) (hg : PG X tg g) (hb : PSs X body tb)
    (hs : ∀ x, foldedSetIterable iter X.env x = pure x := by intro _; rfl) : PS X (.For tg iter body [] pos) (tFor wi g tb) := by
  intro pins s σ H D I h
  refine wpAny_For (thn (hi pins s σ H _ I h) fun v s1 h1 => thn h1 fun itv s2 h2 => ?_) hs
  obtain ⟨it, fp, tn, J, H2, e, I2, T, st2, f2, W, ⟨m0, w0⟩, turn⟩ := h2
  subst e
  have stat : ∀ {H' : Hp}, (∀ b ∈ fp, H' b = none) → ∀ b ∈ fp, FpOk X pins H' b := fun hn b hb => ⟨hn b hb, (f2 b hb).2⟩
  refine codeAny_forLoop_any (fun n s' => ∃ i σ' H', Inv X pins σ' H' s' ∧ tn i s'.heap ∧ (∀ b ∈ fp, H' b = none) ∧ W i n σ' H') ?_ m0 ⟨0, σ, H2, I2, st2, fun b hb => (f2 b hb).1, w0⟩
  rintro n s3 ⟨i, σ3, H3, I3, st3, fr3, w3⟩
  rcases turn i n σ3 H3 w3 with ⟨stop, qn⟩ | ⟨go, N, hN, step⟩
  · refine wpAny_passesOwn hp (thn (T.done X rfl rfl rfl hc i pins s3 σ3 H3 X.xe I3 (stat fr3) st3 stop) fun r s4 ⟨hr, I4⟩ => ?_)
    subst hr
    exact wpAny_execs_nil ⟨σ3, H3, I4, qn⟩
  · refine wpAny_passesOwn hp (thn (T.item X rfl rfl rfl hc i pins s3 σ3 H3 X.xe I3 (stat fr3) st3 go) fun r s4 ⟨u, hr, h4⟩ => ?_)
    subst hr
    refine wpAny_passesOwn hp (thn h4 fun _ s5 ⟨x, H5, I5, r5, y5, st5, fr5⟩ => ?_)
    have I5' := I5.pinned (stat fr5) (T.obj _ _ st5)
    refine wpAny_passesOwn hp (thn (hg _ s5 σ3 H5 x u _ I5' r5 (step x H5 y5)) fun _ s6 ⟨σ6, H6, I6, q6⟩ => ?_)
    refine wpAny_passesOwn hp (thn (hb _ s6 σ6 H6 _ I6 q6) fun f s7 q7 => ?_)
    have again : ∀ {σ7 : St} {H7 : Hp}, Inv X (pins ++ pinsAt fp s5.heap) σ7 H7 s7 → N σ7 H7 → ∃ m, m < n ∧ ∃ i σ' H', Inv X pins σ' H' s7 ∧ tn i s7.heap ∧ (∀ b ∈ fp, H' b = none) ∧ W i m σ' H' := fun {σ7 H7} I7 n7 => by
      obtain ⟨m', hm, w7⟩ := hN σ7 H7 n7
      refine ⟨m', hm, i + 1, σ7, H7, I7.unpinned, T.keep _ _ _ st5 fun b hb o e => (I7.pin (b, o) (List.mem_append_right _ (List.mem_append_right _ (mem_pinsAt hb e)))).1, fun b hb => ?_, w7⟩
      obtain ⟨o, e, d⟩ := T.obj _ _ st5 b hb
      exact (I7.pin (b, o) (List.mem_append_right _ (List.mem_append_right _ (mem_pinsAt hb e)))).2.1
    cases f with
    | next => obtain ⟨σ7, H7, I7, n7⟩ := q7; exact again I7 n7
    | cont => obtain ⟨σ7, H7, I7, n7⟩ := q7; exact again I7 n7
    | brk => obtain ⟨σ7, H7, I7, q7⟩ := q7; exact ⟨σ7, H7, I7.unpinned, q7⟩
    | ret v => obtain ⟨x7, σ7, H7, I7, r7, q7⟩ := q7; exact ⟨x7, σ7, H7, I7.unpinned, r7, q7⟩
end
theorem for_list {K : PySem.W.Frag} {a : Addr} {xs : List V} {g : TG} {tb : TS} {D : Ends} {σ : St} {H : Hp} (Pv : Nat → St → Hp → Prop) (h0 : Pv 0 σ H) (hl : ∀ i σ H, i ≤ xs.length → Pv i σ H → SqL K H a xs)
    (hs : ∀ i x σ H, xs[i]? = some x → Pv i σ H → g x σ H fun σ2 H2 => tb { D with nx := Pv (i + 1), ct := Pv (i + 1), bk := D.nx } σ2 H2) (hd : ∀ σ H, Pv xs.length σ H → D.nx σ H) :
    ∃ W : Nat → Nat → St → Hp → Prop, (∃ m, W 0 m σ H) ∧ ∀ i m σ H, W i m σ H →
      ((Itl K a).stop i H ∧ D.nx σ H) ∨ ((Itl K a).go i H ∧ ∃ N : St → Hp → Prop, (∀ σ' H', N σ' H' → ∃ m', m' < m ∧ W (i + 1) m' σ' H') ∧ ∀ x H', (Itl K a).yld i H x H' → g x σ H' fun σ2 H2 => tb { D with nx := N, ct := N, bk := D.nx } σ2 H2) := by
  refine ⟨fun i m σ H => m = xs.length - i ∧ i ≤ xs.length ∧ Pv i σ H, ⟨xs.length, by simp, Nat.zero_le _, h0⟩, ?_⟩
  rintro i m σ H ⟨rfl, hi, p⟩
  have q := hl i σ H hi p
  by_cases hlt : i < xs.length
  · refine .inr ⟨⟨xs, xs[i], q, by simp [hlt]⟩, Pv (i + 1), fun σ' H' p' => ⟨xs.length - (i + 1), by omega, rfl, hlt, p'⟩, fun x H' y => ?_⟩
    obtain ⟨e, y⟩ := y
    subst e
    exact hs i x σ _ (y xs q) p
  · have e : i = xs.length := by omega
    subst e
    exact .inl ⟨⟨xs, q, Nat.le_refl _⟩, hd σ H p⟩
theorem for_tup {K : PySem.W.Frag} {a : Addr} {xs : List V} {g : TG} {tb : TS} {D : Ends} {σ : St} {H : Hp} (Pv : Nat → St → Hp → Prop) (h0 : Pv 0 σ H) (hl : ∀ i σ H, i ≤ xs.length → Pv i σ H → SqT K H a xs)
    (hs : ∀ i x σ H, xs[i]? = some x → Pv i σ H → g x σ H fun σ2 H2 => tb { D with nx := Pv (i + 1), ct := Pv (i + 1), bk := D.nx } σ2 H2) (hd : ∀ σ H, Pv xs.length σ H → D.nx σ H) :
    ∃ W : Nat → Nat → St → Hp → Prop, (∃ m, W 0 m σ H) ∧ ∀ i m σ H, W i m σ H →
      ((Itt K a).stop i H ∧ D.nx σ H) ∨ ((Itt K a).go i H ∧ ∃ N : St → Hp → Prop, (∀ σ' H', N σ' H' → ∃ m', m' < m ∧ W (i + 1) m' σ' H') ∧ ∀ x H', (Itt K a).yld i H x H' → g x σ H' fun σ2 H2 => tb { D with nx := N, ct := N, bk := D.nx } σ2 H2) := by
  refine ⟨fun i m σ H => m = xs.length - i ∧ i ≤ xs.length ∧ Pv i σ H, ⟨xs.length, by simp, Nat.zero_le _, h0⟩, ?_⟩
  rintro i m σ H ⟨rfl, hi, p⟩
  have q := hl i σ H hi p
  by_cases hlt : i < xs.length
  · refine .inr ⟨⟨xs, xs[i], q, by simp [hlt]⟩, Pv (i + 1), fun σ' H' p' => ⟨xs.length - (i + 1), by omega, rfl, hlt, p'⟩, fun x H' y => ?_⟩
    obtain ⟨e, y⟩ := y
    subst e
    exact hs i x σ _ (y xs q) p
  · have e : i = xs.length := by omega
    subst e
    exact .inl ⟨⟨xs, q, Nat.le_refl _⟩, hd σ H p⟩
theorem for_range {lo : Int} {n : Nat} {g : TG} {tb : TS} {D : Ends} {σ : St} {H : Hp} (Pv : Nat → St → Hp → Prop) (h0 : Pv 0 σ H)
    (hs : ∀ i σ H, i < n → Pv i σ H → g (.int (lo + i)) σ H fun σ2 H2 => tb { D with nx := Pv (i + 1), ct := Pv (i + 1), bk := D.nx } σ2 H2) (hd : ∀ σ H, Pv n σ H → D.nx σ H) :
    ∃ W : Nat → Nat → St → Hp → Prop, (∃ m, W 0 m σ H) ∧ ∀ i m σ H, W i m σ H →
      ((Itr lo n).stop i H ∧ D.nx σ H) ∨ ((Itr lo n).go i H ∧ ∃ N : St → Hp → Prop, (∀ σ' H', N σ' H' → ∃ m', m' < m ∧ W (i + 1) m' σ' H') ∧ ∀ x H', (Itr lo n).yld i H x H' → g x σ H' fun σ2 H2 => tb { D with nx := N, ct := N, bk := D.nx } σ2 H2) := by
  refine ⟨fun i m σ H => m = n - i ∧ i ≤ n ∧ Pv i σ H, ⟨n, by simp, Nat.zero_le _, h0⟩, ?_⟩
  rintro i m σ H ⟨rfl, hi, p⟩
  by_cases hlt : i < n
  · refine .inr ⟨hlt, Pv (i + 1), fun σ' H' p' => ⟨n - (i + 1), by omega, rfl, hlt, p'⟩, fun x H' y => ?_⟩
    obtain ⟨e, y⟩ := y
    subst e y
    exact hs i σ _ hlt p
  · have e : i = n := by omega
    subst e
    exact .inl ⟨Nat.le_refl _, hd σ H p⟩
end L2
namespace L2
open PySem PySem.Spec PyProof.Rows
abbrev R2 := V → V → Hp → VK → Prop
def OpR (X : Cx) (f : Value → Value → Sem Value) (r : R2) : Prop :=
  ∀ (pins : List (Addr × Obj)) (s : Shared) (σ : St) (H : Hp) (x y : V) (v u : Value) (Q : VK), Inv X pins σ H s → RelV x v → RelV y u → r x y H Q →
    wpAny (model X.prog X.w) X.A (f v u) (EP X pins σ Q) X.xe s
def CallR (X : Cx) (f : Value) (r : List V → Hp → VK → Prop) : Prop :=
  ∀ (pins : List (Addr × Obj)) (s : Shared) (σ : St) (H : Hp) (xs : List V) (us : List Value) (Q : VK), Inv X pins σ H s → Vals xs us → r xs H Q →
    wpAny (model X.prog X.w) X.A (call f us) (EP X pins σ Q) X.xe s
def tOp (r : R2) (ta tb : TE) : TE := fun σ H Q => ta σ H fun x H1 => tb σ H1 fun y H2 => r x y H2 Q
def rI (C : Int → Int → Prop) (g : Int → Int → V) : R2 := fun x y H Q => ∃ i j, x = .int i ∧ y = .int j ∧ C i j ∧ Q (g i j) H
def rI0 (g : Int → Int → V) : R2 := fun x y H Q => ∃ i j, x = .int i ∧ y = .int j ∧ Q (g i j) H
section
variable {X : Cx} {a b c : Expr} {ta tb tc : TE} {pos : Pos}
theorem binT (ha : PE X a ta) (hb : PE X b tb) {pins : List (Addr × Obj)} {s : Shared} {σ : St} {H : Hp} {R : V → V → Hp → Prop} (I : Inv X pins σ H s)
    (h : ta σ H fun x H1 => tb σ H1 fun y H2 => R x y H2) {Q : Value → Shared → Prop} {f : Value → Value → Sem Value}
    (hf : ∀ v u s2 x y H2, Inv X pins σ H2 s2 → RelV x v → RelV y u → R x y H2 → wpAny (model X.prog X.w) X.A (f v u) Q X.xe s2) :
    wpAny (model X.prog X.w) X.A (eval a X.env) (fun v s₁ => wpAny (model X.prog X.w) X.A (eval b X.env) (fun u s₂ => wpAny (model X.prog X.w) X.A (f v u) Q X.xe s₂) X.xe s₁) X.xe s := by
  refine thn (ha pins s σ H _ I h) fun v s1 ⟨x, H1, I1, r1, q1⟩ => ?_
  refine thn (hb pins s1 σ H1 _ I1 q1) fun u s2 ⟨y, H2, I2, r2, q2⟩ => ?_
  exact hf v u s2 x y H2 I2 r1 r2 q2
theorem pe_op {op : Operator} {r : R2} (ho : OpR X (binaryOp op) r) (ha : PE X a ta) (hb : PE X b tb) : PE X (.BinOp a op b pos) (tOp r ta tb) := by
  intro pins s σ H Q I h
  exact wpAny_BinOp (binT ha hb I h fun v u s2 x y H2 I2 rx ry q => ho pins s2 σ H2 x y v u Q I2 rx ry q)
theorem opI {f : Value → Value → Sem Value} {C : Int → Int → Prop} {g : Int → Int → Int}
    (rule : ∀ (i j : Int) (t u : Tok) (s : Shared) (Q : Value → Shared → Prop) (E : Value → Shared → Prop), C i j → Q (.int (g i j) s.toks) { s with toks := s.toks + 1 } → wpAny (model X.prog X.w) X.A (f (.int i t) (.int j u)) Q E s) :
    OpR X f (rI C fun i j => .int (g i j)) := by
  intro pins s σ H x y v u Q I rx ry h
  obtain ⟨i, j, rfl, rfl, hc, q⟩ := h
  obtain ⟨t, rfl⟩ := rx
  obtain ⟨t', rfl⟩ := ry
  exact rule i j t t' s _ _ hc ⟨.int (g i j), H, I.tok _, ⟨_, rfl⟩, q⟩
theorem opI0 {f : Value → Value → Sem Value} {g : Int → Int → Int}
    (rule : ∀ (i j : Int) (t u : Tok) (s : Shared) (Q : Value → Shared → Prop) (E : Value → Shared → Prop), Q (.int (g i j) s.toks) { s with toks := s.toks + 1 } → wpAny (model X.prog X.w) X.A (f (.int i t) (.int j u)) Q E s) :
    OpR X f (rI0 fun i j => .int (g i j)) := by
  intro pins s σ H x y v u Q I rx ry h
  obtain ⟨i, j, rfl, rfl, q⟩ := h
  obtain ⟨t, rfl⟩ := rx
  obtain ⟨t', rfl⟩ := ry
  exact rule i j t t' s _ _ ⟨.int (g i j), H, I.tok _, ⟨_, rfl⟩, q⟩
theorem opB0 {f : Value → Value → Sem Value} {g : Int → Int → Bool}
    (rule : ∀ (i j : Int) (t u : Tok) (s : Shared) (Q : Value → Shared → Prop) (E : Value → Shared → Prop), Q (.bool (g i j)) s → wpAny (model X.prog X.w) X.A (f (.int i t) (.int j u)) Q E s) :
    OpR X f (rI0 fun i j => .bl (g i j)) := by
  intro pins s σ H x y v u Q I rx ry h
  obtain ⟨i, j, rfl, rfl, q⟩ := h
  obtain ⟨t, rfl⟩ := rx
  obtain ⟨t', rfl⟩ := ry
  exact rule i j t t' s _ _ ⟨.bl (g i j), H, I, rfl, q⟩
def CMul (i j : Int) : Prop := (-(2 ^ 64) < i ∧ i < 2 ^ 64) ∨ (-(2 ^ 64) < j ∧ j < 2 ^ 64)
theorem CMul.ok {i j : Int} (h : CMul i j) : IntMulOk i j := by
  rcases h with ⟨h1, h2⟩ | ⟨h1, h2⟩
  · exact .of_left (intBits_le_64 h1 h2)
  · exact .of_right (intBits_le_64 h1 h2)
theorem op_add : OpR X (binaryOp .Add) (rI0 fun i j => .int (i + j)) := opI0 fun _ _ _ _ _ _ _ q => add_int q
theorem op_sub : OpR X (binaryOp .Sub) (rI0 fun i j => .int (i - j)) := opI0 fun _ _ _ _ _ _ _ q => sub_int q
theorem op_mul : OpR X (binaryOp .Mult) (rI CMul fun i j => .int (i * j)) := opI fun _ _ _ _ _ _ _ hc q => mul_int q hc.ok
theorem op_mod : OpR X (binaryOp .Mod) (rI (fun _ j => 0 < j) fun i j => .int (i % j)) := opI fun i j _ _ _ _ _ hc q => by
  have h1 : (0 : Int) < j := hc
  exact mod_int' (by omega) (by rw [Int.fmod_eq_emod_of_nonneg i (by omega)]; exact q)
end
def scal : V → V → Bool
  | .non, .non => true | .non, .int _ => true | .int _, .non => true | .non, .bl _ => true | .bl _, .non => true | .non, .str _ => true | .str _, .non => true
  | .int _, .int _ => true | .bl _, .bl _ => true | .str _, .str _ => true | .byt _, .byt _ => true
  | .int _, .str _ => true | .str _, .int _ => true | .bl _, .str _ => true | .str _, .bl _ => true
  | _, _ => false
def rEq : R2 := fun x y H Q => scal x y = true ∧ Q (.bl (decide (x = y))) H
def rNe : R2 := fun x y H Q => scal x y = true ∧ Q (.bl (!decide (x = y))) H
theorem dec_int {i j : Int} : decide (V.int i = V.int j) = (i == j) := by
  rw [Bool.eq_iff_iff]
  simp
theorem dec_bl {i j : Bool} : decide (V.bl i = V.bl j) = (i == j) := by
  rw [Bool.eq_iff_iff]
  simp
theorem dec_str {i j : Str} : decide (V.str i = V.str j) = (i == j) := by
  rw [Bool.eq_iff_iff]
  simp
theorem dec_byt {i j : Array UInt8} : decide (V.byt i = V.byt j) = (i.toList == j.toList) := by
  rw [Bool.eq_iff_iff]
  cases i
  cases j
  simp
section
variable {X : Cx} {a b c : Expr} {ta tb tc : TE} {pos : Pos}
theorem fin_bl {pins : List (Addr × Obj)} {σ : St} {H : Hp} {s : Shared} {Q : VK} {k k' : Bool} (I : Inv X pins σ H s) (q : Q (.bl k) H) (e : k = k') : EP X pins σ Q (.bool k') s := by
  subst e
  exact ⟨.bl k, H, I, rfl, q⟩
theorem op_eq : OpR X (compareOp .Eq) rEq := by
  intro pins s σ H x y v u Q I rx ry h
  obtain ⟨hs, q⟩ := h
  cases x with
  | non =>
    cases rx
    cases y with
    | non => cases ry; exact PySem.EqNone.eq_none_none (fin_bl I q (by simp))
    | bl j => cases ry; exact PySem.EqNone.eq_none_bool (fin_bl I q (by simp))
    | int j => obtain ⟨t', rfl⟩ := ry; exact PySem.EqNone.eq_none_int (fin_bl I q (by simp))
    | str j => obtain ⟨t', rfl⟩ := ry; exact PySem.EqNone.eq_none_str (fin_bl I q (by simp))
    | _ => exact absurd (show false = true from hs) Bool.false_ne_true
  | bl i =>
    cases rx
    cases y with
    | non => cases ry; exact PySem.EqNone.eq_bool_none (fin_bl I q (by simp))
    | bl j => cases ry; exact eq_bool (fin_bl I q dec_bl)
    | str j => obtain ⟨t', rfl⟩ := ry; exact PySem.EqMixed.eq_bool_str (fin_bl I q (by simp))
    | _ => exact absurd (show false = true from hs) Bool.false_ne_true
  | int i =>
    obtain ⟨t, rfl⟩ := rx
    cases y with
    | non => cases ry; exact PySem.EqNone.eq_int_none (fin_bl I q (by simp))
    | int j => obtain ⟨t', rfl⟩ := ry; exact eq_int (fin_bl I q dec_int)
    | str j => obtain ⟨t', rfl⟩ := ry; exact PySem.EqMixed.eq_int_str (fin_bl I q (by simp))
    | _ => exact absurd (show false = true from hs) Bool.false_ne_true
  | str i =>
    obtain ⟨t, rfl⟩ := rx
    cases y with
    | non => cases ry; exact PySem.EqNone.eq_str_none (fin_bl I q (by simp))
    | bl j => cases ry; exact PySem.EqMixed.eq_str_bool (fin_bl I q (by simp))
    | int j => obtain ⟨t', rfl⟩ := ry; exact PySem.EqMixed.eq_str_int (fin_bl I q (by simp))
    | str j => obtain ⟨t', rfl⟩ := ry; exact eq_str (fin_bl I q dec_str)
    | _ => exact absurd (show false = true from hs) Bool.false_ne_true
  | byt i =>
    obtain ⟨t, rfl⟩ := rx
    cases y with
    | byt j => obtain ⟨t', rfl⟩ := ry; exact PySem.W.eq_bytes (fin_bl I q dec_byt)
    | _ => exact absurd (show false = true from hs) Bool.false_ne_true
  | _ => cases y <;> exact absurd (show false = true from hs) Bool.false_ne_true
theorem op_ne : OpR X (compareOp .NotEq) rNe := by
  intro pins s σ H x y v u Q I rx ry h
  obtain ⟨hs, q⟩ := h
  cases x with
  | non =>
    cases rx
    cases y with
    | non => cases ry; exact PySem.EqNone.ne_none_none (fin_bl I q (by simp))
    | bl j => cases ry; exact PySem.EqNone.ne_none_bool (fin_bl I q (by simp))
    | int j => obtain ⟨t', rfl⟩ := ry; exact PySem.EqNone.ne_none_int (fin_bl I q (by simp))
    | str j => obtain ⟨t', rfl⟩ := ry; exact PySem.EqNone.ne_none_str (fin_bl I q (by simp))
    | _ => exact absurd (show false = true from hs) Bool.false_ne_true
  | bl i =>
    cases rx
    cases y with
    | non => cases ry; exact PySem.EqNone.ne_bool_none (fin_bl I q (by simp))
    | bl j => cases ry; exact ne_bool (fin_bl I q (congrArg not dec_bl))
    | str j => obtain ⟨t', rfl⟩ := ry; exact PySem.EqMixed.ne_bool_str (fin_bl I q (by simp))
    | _ => exact absurd (show false = true from hs) Bool.false_ne_true
  | int i =>
    obtain ⟨t, rfl⟩ := rx
    cases y with
    | non => cases ry; exact PySem.EqNone.ne_int_none (fin_bl I q (by simp))
    | int j => obtain ⟨t', rfl⟩ := ry; exact ne_int (fin_bl I q (congrArg not dec_int))
    | str j => obtain ⟨t', rfl⟩ := ry; exact PySem.EqMixed.ne_int_str (fin_bl I q (by simp))
    | _ => exact absurd (show false = true from hs) Bool.false_ne_true
  | str i =>
    obtain ⟨t, rfl⟩ := rx
    cases y with
    | non => cases ry; exact PySem.EqNone.ne_str_none (fin_bl I q (by simp))
    | bl j => cases ry; exact PySem.EqMixed.ne_str_bool (fin_bl I q (by simp))
    | int j => obtain ⟨t', rfl⟩ := ry; exact PySem.EqMixed.ne_str_int (fin_bl I q (by simp))
    | str j => obtain ⟨t', rfl⟩ := ry; exact ne_str (fin_bl I q (congrArg not dec_str))
    | _ => exact absurd (show false = true from hs) Bool.false_ne_true
  | byt i =>
    obtain ⟨t, rfl⟩ := rx
    cases y with
    | byt j => obtain ⟨t', rfl⟩ := ry; exact PySem.W.ne_bytes (fin_bl I q (congrArg not dec_byt))
    | _ => exact absurd (show false = true from hs) Bool.false_ne_true
  | _ => cases y <;> exact absurd (show false = true from hs) Bool.false_ne_true
theorem op_lt : OpR X (compareOp .Lt) (rI0 fun i j => .bl (decide (i < j))) := opB0 fun _ _ _ _ _ _ _ q => lt_int q
theorem op_le : OpR X (compareOp .LtE) (rI0 fun i j => .bl (decide (i ≤ j))) := opB0 fun _ _ _ _ _ _ _ q => le_int q
theorem op_gt : OpR X (compareOp .Gt) (rI0 fun i j => .bl (decide (j < i))) := opB0 fun _ _ _ _ _ _ _ q => gt_int q
theorem op_ge : OpR X (compareOp .GtE) (rI0 fun i j => .bl (decide (j ≤ i))) := opB0 fun _ _ _ _ _ _ _ q => ge_int q
theorem op_in_str : OpR X (compareOp .In) (fun x y H Q => ∃ i j, x = .str i ∧ y = .str j ∧ Q (.bl (!(Builtin.Str.occurrences j i 0 j.length 1).isEmpty)) H) := by
  intro pins s σ H x y v u Q I rx ry h
  obtain ⟨i, j, rfl, rfl, q⟩ := h
  obtain ⟨t, rfl⟩ := rx
  obtain ⟨t', rfl⟩ := ry
  exact in_str (fin_bl I q rfl)
theorem op_isN : OpR X (compareOp .Is) (fun x y H Q => y = .non ∧ Q (.bl (decide (x = .non))) H) := by
  intro pins s σ H x y v u Q I rx ry h
  obtain ⟨rfl, q⟩ := h
  cases ry
  refine is_none_gen (fin_bl I q ?_)
  cases x <;> first
    | (cases rx; rfl)
    | (obtain ⟨t, rfl⟩ := rx; rfl)
theorem op_notin_str : OpR X (compareOp .NotIn) (fun x y H Q => ∃ i j, x = .str i ∧ y = .str j ∧ Q (.bl (!(!(Builtin.Str.occurrences j i 0 j.length 1).isEmpty))) H) := by
  intro pins s σ H x y v u Q I rx ry h
  obtain ⟨i, j, rfl, rfl, q⟩ := h
  obtain ⟨t, rfl⟩ := rx
  obtain ⟨t', rfl⟩ := ry
  exact notIn_str (fin_bl I q rfl)
theorem nomark (b : Expr) {op : CmpOp} (h : op ≠ .In := by decide) (h2 : op ≠ .NotIn := by decide) : behindInMarks op b = false := by
  have e1 : (op == CmpOp.In) = false := by cases op <;> first | rfl | exact absurd rfl h
  have e2 : (op == CmpOp.NotIn) = false := by cases op <;> first | rfl | exact absurd rfl h2
  cases b <;> simp [behindInMarks, e1, e2]
theorem pe_cmpR {op : CmpOp} {r : R2} (ho : OpR X (compareOp op) r) (ha : PE X a ta) (hb : PE X b tb) (hm : behindInMarks op b = false) : PE X (.Compare a [op] [b] pos) (tOp r ta tb) := by
  intro pins s σ H Q I h
  exact wpAny_Compare1 (binT ha hb I h fun v u s2 x y H2 I2 rx ry q => ho pins s2 σ H2 x y v u Q I2 rx ry q) hm
def tTest (t : TE) : TT := fun σ H Q => t σ H fun x H' => ∃ k, x = .bl k ∧ Q k H'
theorem pt_cmpR {op : CmpOp} {r : R2} (ho : OpR X (compareOp op) r) (ha : PE X a ta) (hb : PE X b tb) (hm : behindInMarks op b = false) : PT X (.Compare a [op] [b] pos) (tTest (tOp r ta tb)) := by
  intro pins s σ H Q I h
  refine wpAny_isTrue_Compare1 (thn (ha pins s σ H _ I h) fun v s1 ⟨x, H1, I1, r1, q1⟩ => thn (hb pins s1 σ H1 _ I1 q1) fun u s2 ⟨y, H2, I2, r2, q2⟩ =>
    thn (ho pins s2 σ H2 x y v u _ I2 r1 r2 q2) fun c s3 ⟨z, H3, I3, r3, k, e, q3⟩ => ?_) hm
  subst e
  cases r3
  exact wpAny_truthy_bool ⟨H3, I3, q3⟩
def tChain (r r' : R2) (ta tb tc : TE) : TE := fun σ H Q => ta σ H fun x H1 => tb σ H1 fun y H2 => r x y H2 fun z H3 => ∃ k, z = .bl k ∧
  (if k = true then tc σ H3 fun w' H4 => r' y w' H4 Q else Q (.bl false) H3)
theorem pe_chain {op op' : CmpOp} {r r' : R2} (ho : OpR X (compareOp op) r) (ho' : OpR X (compareOp op') r') (ha : PE X a ta) (hb : PE X b tb) (hc : PE X c tc)
    (hm : lastMarks [op, op'] [b, c] = false := by with_unfolding_all rfl) : PE X (.Compare a [op, op'] [b, c] pos) (tChain r r' ta tb tc) := by
  intro pins s σ H Q I h
  refine Compare_chain (thn (ha pins s σ H _ I h) fun v s1 ⟨x, H1, I1, r1, q1⟩ => chain_link (thn (hb pins s1 σ H1 _ I1 q1) fun u s2 ⟨y, H2, I2, r2, q2⟩ =>
    thn (ho pins s2 σ H2 x y v u _ I2 r1 r2 q2) fun d s3 ⟨z, H3, I3, r3, k, e, q3⟩ => ?_)) hm
  subst e
  cases r3
  refine wpAny_truthy_bool ?_
  cases k with
  | false => exact ite_ff ⟨.bl false, H3, I3, rfl, q3⟩
  | true => exact ite_tt (chain_last (thn (hc pins s3 σ H3 _ I3 q3) fun w' s4 ⟨z', H4, I4, r4, q4⟩ => ho' pins s4 σ H4 y z' u w' Q I4 r2 r4 q4))
theorem pt_chain {op op' : CmpOp} {r r' : R2} (ho : OpR X (compareOp op) r) (ho' : OpR X (compareOp op') r') (ha : PE X a ta) (hb : PE X b tb) (hc : PE X c tc)
    (hm : lastMarks [op, op'] [b, c] = false := by with_unfolding_all rfl) : PT X (.Compare a [op, op'] [b, c] pos) (tTest (tChain r r' ta tb tc)) := by
  intro pins s σ H Q I h
  refine isTrue_chain (thn (ha pins s σ H _ I h) fun v s1 ⟨x, H1, I1, r1, q1⟩ => test_link (thn (hb pins s1 σ H1 _ I1 q1) fun u s2 ⟨y, H2, I2, r2, q2⟩ =>
    thn (ho pins s2 σ H2 x y v u _ I2 r1 r2 q2) fun d s3 ⟨z, H3, I3, r3, k, e, q3⟩ => ?_)) hm
  subst e
  cases r3
  refine wpAny_truthy_bool ?_
  cases k with
  | false =>
    obtain ⟨k', e', q'⟩ := q3
    cases e'
    exact ite_ff ⟨H3, I3, q'⟩
  | true =>
    refine ite_tt (test_last (thn (hc pins s3 σ H3 _ I3 q3) fun w' s4 ⟨z', H4, I4, r4, q4⟩ => thn (ho' pins s4 σ H4 y z' u w' _ I4 r2 r4 q4) fun d' s5 ⟨z2, H5, I5, r5, k2, e2, q5⟩ => ?_))
    subst e2
    cases r5
    exact wpAny_truthy_bool ⟨H5, I5, q5⟩
theorem line63 : (sizeLine : Nat) < 2 ^ 63 := by rw [sizeLine_eq]; decide
theorem vals1 {x : V} {us : List Value} (r : Vals [x] us) : ∃ u, us = [u] ∧ RelV x u := by
  cases r with
  | cons r1 r2 => cases r2; exact ⟨_, rfl, r1⟩
theorem vals2 {x y : V} {us : List Value} (r : Vals [x, y] us) : ∃ u w', us = [u, w'] ∧ RelV x u ∧ RelV y w' := by
  cases r with
  | cons r1 r2 =>
    cases r2 with
    | cons r3 r4 => cases r4; exact ⟨_, _, rfl, r1, r3⟩
theorem call_max2 (hc : X.calm = true) : CallR X (.builtin "max") (fun xs H Q => ∃ i j, xs = [.int i, .int j] ∧ Q (.int (if j > i then j else i)) H) := by
  intro pins s σ H xs us Q I r h
  obtain ⟨i, j, rfl, q⟩ := h
  obtain ⟨u, w', rfl, ⟨t, rfl⟩, ⟨t', rfl⟩⟩ := vals2 r
  refine max_two_ints (I.ok.hd hc) fun h' tk k => ⟨_, H, I.kept k, ?_, q⟩
  by_cases hj : j > i
  · rw [if_pos hj, if_pos hj]; exact ⟨_, rfl⟩
  · rw [if_neg hj, if_neg hj]; exact ⟨_, rfl⟩
theorem call_min2 (hc : X.calm = true) : CallR X (.builtin "min") (fun xs H Q => ∃ i j, xs = [.int i, .int j] ∧ Q (.int (if j < i then j else i)) H) := by
  intro pins s σ H xs us Q I r h
  obtain ⟨i, j, rfl, q⟩ := h
  obtain ⟨u, w', rfl, ⟨t, rfl⟩, ⟨t', rfl⟩⟩ := vals2 r
  refine min_two_ints (I.ok.hd hc) fun h' tk k => ⟨_, H, I.kept k, ?_, q⟩
  by_cases hj : j < i
  · rw [if_pos hj, if_pos hj]; exact ⟨_, rfl⟩
  · rw [if_neg hj, if_neg hj]; exact ⟨_, rfl⟩
def LenV (K : PySem.W.Frag) (x : V) (H : Hp) (n : Nat) : Prop :=
  match x with
  | .str y => y.length ≤ sizeLine ∧ n = y.length
  | .byt y => y.size ≤ sizeLine ∧ n = y.size
  | .ref p => (∃ xs, SqL K H p xs ∧ n = xs.length) ∨ ∃ xs, SqT K H p xs ∧ n = xs.length
  | _ => False
theorem call_len : CallR X (.builtin "len") (fun xs H Q => ∃ x n, xs = [x] ∧ LenV X.K x H n ∧ Q (.int n) H) := by
  intro pins s σ H xs us Q I r h
  obtain ⟨x, n, rfl, e, q⟩ := h
  obtain ⟨u, rfl, rx⟩ := vals1 r
  have hl := line63
  have hs : sizeLine = 16777216 := sizeLine_eq
  cases x with
  | str y =>
    obtain ⟨t, rfl⟩ := rx
    obtain ⟨hy, e'⟩ : y.length ≤ sizeLine ∧ n = y.length := e
    subst e'
    exact len_str (by omega) ⟨.int _, H, I.tok _, ⟨_, rfl⟩, q⟩
  | byt y =>
    obtain ⟨t, rfl⟩ := rx
    obtain ⟨hy, e'⟩ : y.size ≤ sizeLine ∧ n = y.size := e
    subst e'
    exact PySem.W.len_bytes (by omega) ⟨.int _, H, I.tok _, ⟨_, rfl⟩, q⟩
  | ref p =>
    cases rx
    have e' : (∃ xs, SqL X.K H p xs ∧ n = xs.length) ∨ ∃ xs, SqT X.K H p xs ∧ n = xs.length := e
    rcases e' with ⟨xs, hx, e'⟩ | ⟨xs, hx, e'⟩
    · subst e'
      obtain ⟨its, r', pl, hz⟩ := I.list hx
      have hlen := r'.length
      exact Calls.call_len_list pl.isList (by simp only [List.size_toArray]; omega) ⟨.int xs.length, H, I.tok _, ⟨_, by simp only [List.size_toArray]; rw [hlen]⟩, q⟩
    · subst e'
      obtain ⟨its, r', pl, hz⟩ := I.tuple hx
      have hlen := r'.length
      exact len_tuple pl (by simp only [List.size_toArray]; omega) ⟨.int xs.length, H, I.tok _, ⟨_, by simp only [List.size_toArray]; rw [hlen]⟩, q⟩
  | _ => exact (show False from e).elim
end
end L2
namespace L2
open PySem PySem.Spec PyProof.Rows
structure ObjM (h : Heap) (x dx C : Addr) (mA : Str → Option Value) : Prop where
  obj : h.get? x = some (PySem.W.instObj C dx)
  ns : h.Ns1 dx mA
  ne : dx ≠ x
theorem lookIn_ns {h : Heap} {dx : Addr} {mA : Str → Option Value} (n : h.Ns1 dx mA) : ∃ od, h.get? dx = some od ∧ ∀ name, PySem.W.lookIn name od = some (mA name) := by
  obtain ⟨o, es, ep, ho, hd, hk, _, hm⟩ := n
  refine ⟨o, ho, fun name => ?_⟩
  have e := hm name
  unfold nsFind findBy at e
  rw [← Array.find?_toList] at e
  unfold PySem.W.lookIn
  rw [hd]
  dsimp only
  split
  · rename_i y q
    rw [q] at e
    exact congrArg some e
  · rename_i q
    rw [q] at e
    have a : es.toList.any (·.refKey) = false := by
      rw [List.any_eq_false]
      intro y hy
      obtain ⟨z, t, hkey⟩ := hk y (Array.mem_toList_iff.mp hy)
      simp [DictEntry.refKey, hkey]
    have a' : ¬ es.toList.any (·.refKey) = true := by rw [a]; exact Bool.false_ne_true
    rw [if_neg a']
    exact congrArg some e
theorem ObjM.look {h : Heap} {x dx C : Addr} {mA : Str → Option Value} (I : ObjM h x dx C mA) : ∃ od, PySem.W.InstAt h x (PySem.W.instObj C dx) C (some od) ∧ ∀ name, PySem.W.lookIn name od = some (mA name) :=
  let ⟨od, ho, hl⟩ := lookIn_ns I.ns
  ⟨od, ⟨I.obj, rfl, rfl, ho⟩, hl⟩
section
variable {prog : Program} {w : World} {A : Around} {E : Value → Shared → Prop} {s : Shared} {K : PySem.W.Frag} {x dx C f : Addr} {mA : Str → Option Value} {name : Str} {v : Value}
theorem get_map {expr : Bool} {Q : Value → Shared → Prop} (X : K.In s.heap) (I : ObjM s.heap x dx C mA) (hg : PySem.W.plainGet K C name = true) (hh : PySem.W.hasDictIn K C = true)
    (ha : PySem.W.findIn K (.ref C) name = some none) (hv : mA name = some v) (hv' : PySem.W.handedIn v = true) (h : Q v { s with toks := s.toks + 1 }) :
    wpAny (model prog w) A (getAttr (.ref x) name expr) Q E s := by
  obtain ⟨od, J, hl⟩ := I.look
  exact PySem.W.get_value X J (PySem.W.plainGet_of hg).1 (PySem.W.findObj_own hh ha rfl (by rw [hl, hv])) hv' h
theorem get_meth {pl : Sem Bool} {Q : Value × List Value → Shared → Prop} (X : K.In s.heap) (I : ObjM s.heap x dx C mA) (hg : PySem.W.plainGet K C name = true)
    (hf : PySem.W.findIn K (.ref C) name = some (some (.ref f))) (ht : PySem.W.isFn K (.ref f) = true) (hv : mA name = none) (h : Q (.ref f, [.ref x]) s) :
    wpAny (model prog w) A (getMethod (.ref x) name pl) Q E s := by
  obtain ⟨od, J, hl⟩ := I.look
  exact PySem.W.method_fn X J (PySem.W.plainGet_of hg).1 (PySem.W.plainGet_of hg).2 hf (beq_iff_eq.mp ht) (by show (PySem.W.lookIn name od).map (·.isSome) = some false; rw [hl, hv]; rfl) h
theorem set_map {ns : List Str} {Q : Unit → Shared → Prop} (X : K.In s.heap) (I : ObjM s.heap x dx C mA)
    (hs : PySem.W.findIn K (.ref C) "__setattr__" = some (some (.builtin "object.__setattr__"))) (hp : PySem.W.plainOver K C = true) (ht : PySem.W.takerIn K C name = some none) (hh : PySem.W.hasDictIn K C = true)
    (hw : PySem.Within mA ns) (hsz : ns.length ≤ sizeLine)
    (h : ∀ h', ObjM h' x dx C (fun y => if y = name then some v else mA y) → Heap.SameBut dx s.heap h' → Q () { s with heap := h', toks := s.toks + 2 }) :
    wpAny (model prog w) A (setAttr (.ref x) name v) Q E s := by
  obtain ⟨od, J, hl⟩ := I.look
  refine PySem.W.set_plain X J hs (PySem.W.osa_open (s := { s with toks := s.toks + 1 }) (r := none) X J hp ht fun b => ?_)
  obtain ⟨cd, hc, hd'⟩ := PySem.W.any_some hh
  have hx : s.heap.get? x = some ⟨.ref C, some dx, .plain, #[]⟩ := I.obj
  refine wpAny_bind (wpAny_pure (wpAny_bind (wpAny_bind (wpAny_loadPart hx (wpAny_bind (PySem.W.Looks.here (s := { s with toks := s.toks + 1 }) (PySem.W.looks_clsIn X hc) ?_))))))
  rw [hd']
  refine wpAny_pure (a := some dx) (wpAny_bind (wpAny_pure (wpAny_bind ?_)))
  refine wpAny_nsSet1 (s := { s with toks := s.toks + 1 }) I.ns fun h' hn2 hs2 => ?_
  obtain ⟨oD, esD, epD, hoD, hdD, hcD⟩ := hn2.count (PySem.Within.cons name v hw)
  refine wpAny_bind (wpAny_lookBehind hoD (by rw [hdD]; exact pastItsLine_dict (Nat.le_trans hcD (by rw [List.length_cons]; omega))) ?_)
  exact wpAny_pure (h _ ⟨(hs2.2 _ (Ne.symm I.ne)).trans I.obj, hn2, I.ne⟩ hs2)
theorem make_map {R : Result → Shared → Prop} {vs : List Value} {kw : List (Str × Value)} (X : K.In s.heap) (hm : PySem.W.makesIn K C = true)
    (hi : PySem.W.findIn K (.ref C) "__init__" = some (some (.ref f))) (hf : PySem.W.typeIn K (.ref f) = some (.type "function"))
    (h : codeAny (model prog w) (A.under (.builtin "type.__call__" ⟨.ref C :: vs, kw⟩)) (.call (.ref f) ⟨.ref (s.heap.objs.size + 1) :: vs, kw⟩) (PySem.W.InitBack (s.heap.objs.size + 1) R)
      { s with heap := (s.heap.push PySem.W.emptyDict).push (PySem.W.instObj C s.heap.objs.size) }) :
    codeAny (model prog w) A (.call (.ref C) ⟨vs, kw⟩) R s := by
  obtain ⟨hh, g, d, t, os⟩ := s
  exact PySem.W.make_core (PySem.W.makes_of X hm) (PySem.W.looks_findIn X hi) (fun self => PySem.W.bind_fn X self hf) (.inl rfl) h
end
def putF (f : Str) (v : V) : List (Str × V) → List (Str × V)
  | [] => [(f, v)]
  | (g, x) :: r => if g = f then (g, v) :: r else (g, x) :: putF f v r
theorem lookup_putF (f g : Str) (v : V) : ∀ fs : List (Str × V), (putF f v fs).lookup g = if g = f then some v else fs.lookup g
  | [] => by
    show List.lookup g [(f, v)] = _
    by_cases h : g = f
    · have hb : (g == f) = true := beq_iff_eq.mpr h
      simp only [List.lookup, hb, if_pos h]
    · have hb : (g == f) = false := beq_eq_false_iff_ne.mpr h
      simp only [List.lookup, hb, if_neg h]
  | (k, x) :: r => by
    have ih := lookup_putF f g v r
    rw [show putF f v ((k, x) :: r) = (if k = f then (k, v) :: r else (k, x) :: putF f v r) from rfl]
    by_cases hk : k = f
    · rw [if_pos hk]
      by_cases h : g = k
      · have hb : (g == k) = true := beq_iff_eq.mpr h
        simp only [List.lookup, hb, if_pos (h.trans hk)]
      · have hb : (g == k) = false := beq_eq_false_iff_ne.mpr h
        simp only [List.lookup, hb, if_neg (fun e : g = f => h (e.trans hk.symm))]
    · rw [if_neg hk]
      by_cases h : g = k
      · have hb : (g == k) = true := beq_iff_eq.mpr h
        simp only [List.lookup, hb, if_neg (fun e : g = f => hk (h.symm.trans e))]
      · have hb : (g == k) = false := beq_eq_false_iff_ne.mpr h
        simp only [List.lookup, hb]
        exact ih
theorem keys_putF (f : Str) (v : V) : ∀ fs : List (Str × V), f ∈ (putF f v fs).map (·.1) ∧ ∀ g, g ∈ fs.map (·.1) → g ∈ (putF f v fs).map (·.1)
  | [] => ⟨by simp [putF], fun g h => by simp at h⟩
  | (k, x) :: r => by
    obtain ⟨i1, i2⟩ := keys_putF f v r
    rw [show putF f v ((k, x) :: r) = (if k = f then (k, v) :: r else (k, x) :: putF f v r) from rfl]
    by_cases hk : k = f
    · rw [if_pos hk]
      subst hk
      exact ⟨by simp, fun g h => by simpa using h⟩
    · rw [if_neg hk]
      refine ⟨?_, fun g h => ?_⟩
      · rw [List.map_cons]
        exact List.mem_cons_of_mem _ i1
      · rw [List.map_cons] at h ⊢
        rcases List.mem_cons.mp h with e | e
        · exact List.mem_cons.mpr (.inl e)
        · exact List.mem_cons_of_mem _ (i2 g e)
theorem length_putF (f : Str) (v : V) : ∀ fs : List (Str × V), (putF f v fs).length ≤ fs.length + 1
  | [] => by simp [putF]
  | (k, x) :: r => by
    have ih := length_putF f v r
    rw [show putF f v ((k, x) :: r) = (if k = f then (k, v) :: r else (k, x) :: putF f v r) from rfl]
    by_cases hk : k = f
    · rw [if_pos hk, List.length_cons, List.length_cons]; omega
    · rw [if_neg hk, List.length_cons, List.length_cons]; omega
theorem RelO.some_of {v : V} {o : Option Value} (r : RelO (some v) o) : ∃ u, o = some u ∧ RelV v u := by
  cases o with
  | none => exact (show False from r).elim
  | some u => exact ⟨u, rfl, r⟩
theorem RelO.none_of {o : Option Value} (r : RelO none o) : o = none := by
  cases o with
  | none => rfl
  | some u => exact (show False from r).elim
theorem handed_of {v : V} {u : Value} (r : RelV v u) : PySem.W.handedIn u = true := by
  cases v with
  | non => cases (show u = Value.none from r); rfl
  | bl b => cases (show u = Value.bool b from r); rfl
  | int i => obtain ⟨t, e⟩ := (show ∃ t, u = Value.int i t from r); cases e; rfl
  | str x => obtain ⟨t, e⟩ := (show ∃ t, u = Value.str x t from r); cases e; rfl
  | byt b => obtain ⟨t, e⟩ := (show ∃ t, u = Value.bytes b t from r); cases e; rfl
  | flt b => obtain ⟨t, e⟩ := (show ∃ t, u = Value.float b t from r); cases e; rfl
  | ref a => cases (show u = Value.ref a from r); rfl
  | ty n => cases (show u = Value.type n from r); rfl
section
variable {P : Program} {w : World} {H H' : Hp} {h h' : Heap} {a C dx : Addr} {fs fs' : List (Str × V)}
theorem ins_get (hok : HOk P w H h) (e : H a = some (.ins C dx fs)) : ∃ mA, ObjM h a dx C mA ∧ (∀ f, RelO (fs.lookup f) (mA f)) ∧ PySem.Within mA (fs.map (·.1)) ∧ fs.length ≤ 1000 ∧ H dx = some (.own a) := by
  obtain ⟨d, z, ne, ob, mA, n, r, q⟩ := (show ObjOk P w H h a (.ins C dx fs) from hok a _ e)
  exact ⟨mA, ⟨ob, n, ne⟩, r, q, z, d⟩
end
structure Cls (K : PySem.W.Frag) (C : Addr) : Prop where
  pg : PySem.W.plainGet K C Str.empty = true
  hd : PySem.W.hasDictIn K C = true
  po : PySem.W.plainOver K C = true
  sa : PySem.W.findIn K (.ref C) "__setattr__" = some (some (.builtin "object.__setattr__"))
theorem Cls.get {K : PySem.W.Frag} {C : Addr} (c : Cls K C) (f : Str) : PySem.W.plainGet K C f = true := c.pg
def NoAttr (K : PySem.W.Frag) (C : Addr) (f : Str) : Prop := PySem.W.findIn K (.ref C) f = some none
theorem NoAttr.taker {K : PySem.W.Frag} {C : Addr} {f : Str} (n : NoAttr K C f) : PySem.W.takerIn K C f = some none := by
  unfold PySem.W.takerIn
  rw [show PySem.W.findIn K (.ref C) f = some none from n]
  rfl
structure Con (K : PySem.W.Frag) (C : Addr) (f : Str) (v : V) (u : Value) : Prop where
  at_ : PySem.W.findIn K (.ref C) f = some (some u)
  rel : RelV v u
  get : PySem.W.specialIn K u "__get__" = some none
  cp : PySem.W.copiedNames.contains f = false
structure Meth (K : PySem.W.Frag) (C : Addr) (m : Str) (f : Addr) : Prop where
  at_ : PySem.W.findIn K (.ref C) m = some (some (.ref f))
  fn : PySem.W.isFn K (.ref f) = true
  kp : PySem.W.keepIn K (.ref f) = true
section
variable {X : Cx} {pins : List (Addr × Obj)} {σ : St} {H : Hp} {s : Shared} {a C dx : Addr} {fs : List (Str × V)} {f : Str} {v : V} {A : Around} {E : Value → Shared → Prop}
theorem getattr_ok {b : Bool} {Q : Value → Shared → Prop} (I : Inv X pins σ H s) (e : H a = some (.ins C dx fs)) (c : Cls X.K C) (n : NoAttr X.K C f) (l : fs.lookup f = some v)
    (h : ∀ u s', Inv X pins σ H s' → RelV v u → Q u s') : wpAny (model X.prog X.w) A (getAttr (.ref a) f b) Q E s := by
  obtain ⟨mA, O, r, _, _, _⟩ := ins_get I.hok e
  obtain ⟨u, hu, ru⟩ := RelO.some_of (v := v) (o := mA f) (by rw [← l]; exact r f)
  exact get_map I.kIn O (c.get f) c.hd n hu (handed_of ru) (h u _ (I.tok _) ru)
theorem getmeth_ok {m : Str} {g : Addr} {pl : Sem Bool} {Q : Value × List Value → Shared → Prop} (I : Inv X pins σ H s) (e : H a = some (.ins C dx fs)) (c : Cls X.K C) (k : Meth X.K C m g) (l : fs.lookup m = none)
    (h : Q (.ref g, [.ref a]) s) : wpAny (model X.prog X.w) A (getMethod (.ref a) m pl) Q E s := by
  obtain ⟨mA, O, r, _, _, _⟩ := ins_get I.hok e
  have hn : mA m = none := RelO.none_of (by rw [← l]; exact r m)
  exact get_meth I.kIn O (c.get m) k.at_ k.fn hn h
theorem setattr_ok {y : V} {u : Value} {Q : Unit → Shared → Prop} (I : Inv X pins σ H s) (e : H a = some (.ins C dx fs)) (c : Cls X.K C) (n : NoAttr X.K C f) (hl : fs.length < 1000) (ry : RelV y u)
    (h : ∀ s', Inv X pins σ (upd H a (.ins C dx (putF f y fs))) s' → Q () s') : wpAny (model X.prog X.w) A (setAttr (.ref a) f u) Q E s := by
  obtain ⟨mA, O, r, wi, _, ho⟩ := ins_get I.hok e
  have hz : (fs.map (·.1)).length ≤ sizeLine := by rw [List.length_map, sizeLine_eq]; omega
  refine set_map I.kIn O c.sa c.po n.taker c.hd wi hz fun h' O' sb => h _ ?_
  have hd : ∃ o, h'.get? dx = some o := let ⟨o, _, _, e', _⟩ := O'.ns; ⟨o, e'⟩
  refine I.write (x := a) (e := dx) (by rw [e]; exact True.intro) (.inr ho) (fun b q hb z => (sb.2 b hb).trans z) hd ?_
  refine ⟨by rw [upd_ne O.ne]; exact ho, ?_, O.ne, O'.obj, _, O'.ns, fun g => ?_, fun g hg => ?_⟩
  · have := length_putF f y fs; omega
  · show RelO ((putF f y fs).lookup g) (if g = f then some u else mA g)
    rw [lookup_putF]
    by_cases q : g = f
    · rw [if_pos q, if_pos q]; exact ry
    · rw [if_neg q, if_neg q]; exact r g
  · by_cases q : g = f
    · rw [q]; exact (keys_putF f y fs).1
    · refine (keys_putF f y fs).2 g (wi g fun z => hg ?_)
      show (if g = f then some u else mA g) = none
      rw [if_neg q]; exact z
theorem Inv.made (I : Inv X pins σ H s) : Inv X pins σ (upd (upd H s.heap.objs.size (.own (s.heap.objs.size + 1))) (s.heap.objs.size + 1) (.ins C s.heap.objs.size []))
    { s with heap := (s.heap.push PySem.W.emptyDict).push (PySem.W.instObj C s.heap.objs.size) } := by
  have e1 : (s.heap.push PySem.W.emptyDict).get? s.heap.objs.size = some PySem.W.emptyDict := Heap.get?_push_size s.heap rfl
  have e2 : ((s.heap.push PySem.W.emptyDict).push (PySem.W.instObj C s.heap.objs.size)).get? (s.heap.objs.size + 1) = some (PySem.W.instObj C s.heap.objs.size) := by
    have := Heap.get?_push_size (s.heap.push PySem.W.emptyDict) (o := PySem.W.instObj C s.heap.objs.size) rfl
    rwa [Heap.size_push] at this
  have e3 : (s.heap.push PySem.W.emptyDict).Ns s.heap.objs.size (fun _ => none) := ⟨PySem.W.emptyDict, #[], _, e1, rfl, (fun e he => absurd he (by simp)), fun _ => rfl⟩
  have I1 := I.laid (a := s.heap.objs.size) (o := .own (s.heap.objs.size + 1)) (h' := s.heap.push PySem.W.emptyDict) (t' := s.toks) (fun b u q => Heap.get?_push_of_some _ q) (Nat.le_refl _) ⟨_, e1⟩
  refine I1.laid (a := s.heap.objs.size + 1) (o := .ins C s.heap.objs.size []) (t' := s.toks) (fun b u q => Heap.get?_push_of_some _ q) (Nat.le_of_eq (Heap.size_push _ _)) ?_
  have ne : s.heap.objs.size ≠ s.heap.objs.size + 1 := Nat.ne_of_lt (Nat.lt_succ_self _)
  refine ⟨by rw [upd_ne ne, upd_same], Nat.zero_le _, ne, e2, fun _ => none, (Heap.Ns1.of_empty e3).at fun o q => Heap.get?_push_of_some _ q, fun _ => True.intro, fun y hy => absurd rfl hy⟩
theorem attr_of {prog : Program} {w : World} {env : Env} {e : Expr} {f : Str} {pos : Pos} {s : Shared} {Q : Value → Shared → Prop} (hb : attributeBase e f env (eval e env) = eval e env)
    (h : wpAny (model prog w) A (eval e env) (fun o s₁ => wpAny (model prog w) A (getAttr o f true) Q E s₁) E s) : wpAny (model prog w) A (eval (.Attribute e f pos) env) Q E s :=
  Attribute_any_ h (by rw [arm_eval_Attribute, hb])
end
def tFld (K : PySem.W.Frag) (ta : TE) (f : Str) : TE := fun σ H Q => ta σ H fun x H1 => ∃ a C dx fs v, x = .ref a ∧ H1 a = some (.ins C dx fs) ∧ Cls K C ∧ NoAttr K C f ∧ fs.lookup f = some v ∧ Q v H1
def sFld (K : PySem.W.Frag) (ta tv : TE) (f : Str) : TS := fun D σ H => tv σ H fun y H1 => ta σ H1 fun x H2 => ∃ a C dx fs, x = .ref a ∧ H2 a = some (.ins C dx fs) ∧ Cls K C ∧ NoAttr K C f ∧ fs.length < 1000 ∧
  D.nx σ (upd H2 a (.ins C dx (putF f y fs)))
section
variable {X : Cx} {o e value : Expr} {f : Str} {pos pos' tpos : Pos} {ta tv : TE}
theorem pe_fld (he : PE X e ta) (hb : attributeBase e f X.env (eval e X.env) = eval e X.env) : PE X (.Attribute e f pos) (tFld X.K ta f) := by
  intro pins s σ H Q I h
  refine attr_of hb (thn (he pins s σ H _ I h) fun u s1 ⟨x, H1, I1, rx, a, C, dx, fs, v, ex, ea, c, n, l, q⟩ => ?_)
  subst ex
  obtain rfl : u = Value.ref a := rx
  exact getattr_ok I1 ea c n l fun u' s2 I2 ru => ⟨v, H1, I2, ru, q⟩
theorem ps_fld (ha : PE X o ta) (hv : PE X value tv) (hs : swapsWith value (some (.Attribute o f pos')) pos.line X.env = pure false) : PS X (.Assign [.Attribute o f pos'] value pos) (sFld X.K ta tv f) := by
  intro pins s σ H D I h
  refine plainObj_wpAny_Assign_Attribute (thn (hv pins s σ H _ I h) fun u s1 ⟨y, H1, I1, ry, q⟩ => thn (ha pins s1 σ H1 _ I1 q) fun ov s2 ⟨x, H2, I2, rx, a, C, dx, fs, ex, ea, c, n, l, q2⟩ => ?_) hs
  subst ex
  obtain rfl : ov = Value.ref a := rx
  exact setattr_ok I2 ea c n l ry fun s3 I3 => ⟨σ, _, I3, q2⟩
end
section
variable {X : Cx} {pins : List (Addr × Obj)} {σ : St} {H : Hp} {s : Shared} {A : Around} {E : Value → Shared → Prop} {Q : Value → Shared → Prop} {c : Value} {b : Bool}
inductive TyOf (K : PySem.W.Frag) (H : Hp) : V → Value → Prop where
  | non : TyOf K H .non (.type "NoneType")
  | bl (x : Bool) : TyOf K H (.bl x) (.type "bool")
  | int (i : Int) : TyOf K H (.int i) (.type "int")
  | str (x : Str) : TyOf K H (.str x) (.type "str")
  | flt (x : UInt64) : TyOf K H (.flt x) (.type "float")
  | lst {a : Addr} {xs : List V} (e : H a = some (.lst xs)) : TyOf K H (.ref a) (.type "list")
  | frz {a : Addr} {o : Obj} {xs : List V} (e : H a = some (.frz o (.lst xs))) : TyOf K H (.ref a) (.type "list")
  | tup {a : Addr} {xs : List V} (e : H a = some (.tup xs)) : TyOf K H (.ref a) (.type "tuple")
  | dK {a : Addr} {kvs : List (Key × V)} (e : H a = some (.dK kvs)) : TyOf K H (.ref a) (.type "dict")
  | dT {a : Addr} {kvs : List (List Key × V)} (e : H a = some (.dT kvs)) : TyOf K H (.ref a) (.type "dict")
  | ins {a C dx : Addr} {fs : List (Str × V)} (e : H a = some (.ins C dx fs)) (cl : Cls K C) (ha : PySem.W.findIn K (.ref C) "__class__" = some (some (.builtin "object.__class__")))
      (hn : PySem.W.specialIn K (.builtin "object.__class__") "__get__" = some (some (.builtin "getset_descriptor.__get__"))) (htk : PySem.W.takesIn K (.builtin "object.__class__") = some true)
      (hm : PySem.W.mroIn K C (.type "object") = some true) : TyOf K H (.ref a) (.ref C)
theorem isinst_ok {x : V} {u t : Value} (I : Inv X pins σ H s) (rx : RelV x u) (ty : TyOf X.K H x t) (e : PySem.W.kitOne X.K t c = some b) (h : ∀ tk, Q (.bool b) { s with toks := tk }) :
    wpAny (model X.prog X.w) A (call (.builtin "isinstance") [u, c]) Q E s := by
  cases ty with
  | non => cases (show u = Value.none from rx); exact PySem.W.kia_one PySem.W.kitx_none I.kIn True.intro e (fun z => nomatch z) h
  | bl y => cases (show u = Value.bool y from rx); exact PySem.W.kia_one PySem.W.kitx_bool I.kIn True.intro e (fun z => nomatch z) h
  | int i => obtain ⟨t, q⟩ := (show ∃ t, u = Value.int i t from rx); cases q; exact PySem.W.kia_one PySem.W.kitx_int I.kIn True.intro e (fun z => nomatch z) h
  | str y => obtain ⟨t, q⟩ := (show ∃ t, u = Value.str y t from rx); cases q; exact PySem.W.kia_one PySem.W.kitx_str I.kIn True.intro e (fun z => nomatch z) h
  | flt y => obtain ⟨t, q⟩ := (show ∃ t, u = Value.float y t from rx); cases q; exact PySem.W.kia_one PySem.W.kitx_float I.kIn True.intro e (fun z => nomatch z) h
  | @lst a xs ea =>
    cases (show u = Value.ref a from rx)
    obtain ⟨_, _, n, _, h1⟩ := (show ObjOk X.prog X.w H s.heap a (.lst xs) from I.hok a _ ea)
    exact PySem.W.kia_one PySem.W.kitx_list I.kIn ⟨_, h1, rfl⟩ e (fun z => nomatch z) h
  | @frz a ob xs ea =>
    cases (show u = Value.ref a from rx)
    obtain ⟨_, _, _, n, _, h1⟩ := (show ObjOk X.prog X.w H s.heap a (.frz ob (.lst xs)) from I.hok a _ ea)
    exact PySem.W.kia_one PySem.W.kitx_list I.kIn ⟨_, h1, rfl⟩ e (fun z => nomatch z) h
  | @tup a xs ea =>
    cases (show u = Value.ref a from rx)
    obtain ⟨_, _, _, p⟩ := (show ObjOk X.prog X.w H s.heap a (.tup xs) from I.hok a _ ea)
    obtain ⟨o, h1, h2, _⟩ := p
    exact PySem.W.kia_one PySem.W.kitx_tuple I.kIn ⟨o, h1, h2⟩ e (fun z => nomatch z) h
  | @dK a kvs ea =>
    cases (show u = Value.ref a from rx)
    obtain ⟨_, _, vs, _, p⟩ := (show ObjOk X.prog X.w H s.heap a (.dK kvs) from I.hok a _ ea)
    obtain ⟨o, es, ep, h1, h2, _⟩ := p
    exact PySem.W.kia_one PySem.W.kitx_dict I.kIn ⟨o, h1, h2.1⟩ e (fun z => nomatch z) h
  | @dT a kvs ea =>
    cases (show u = Value.ref a from rx)
    obtain ⟨_, _, xs, _, o, es, ep, h1, h2, _⟩ := (show ObjOk X.prog X.w H s.heap a (.dT kvs) from I.hok a _ ea)
    exact PySem.W.kia_one PySem.W.kitx_dict I.kIn ⟨o, h1, h2.1⟩ e (fun z => nomatch z) h
  | @ins a C dx fs ea cl ha hn htk hm =>
    cases (show u = Value.ref a from rx)
    obtain ⟨mA, O, _⟩ := ins_get I.hok ea
    obtain ⟨od, J, _⟩ := O.look
    exact PySem.W.kia_one (PySem.W.kitx_own (cl.get _) cl.hd ha hn htk hm) I.kIn J e (fun z => nomatch z) h
end
end L2
namespace L2
open PySem PySem.Spec PyProof.Rows
structure Room (k : Nat) (A : Around) : Prop where
  hd : A.handled = none
  dp : A.depth + 3 * k + 5 < recursionLimit
  un : A.units + 16 * k + 200 < cLine
  gd : A.guards = some []
theorem Room.mono {j k : Nat} {A : Around} (r : Room k A) (h : j ≤ k) : Room j A := ⟨r.hd, by have := r.dp; omega, by have := r.un; omega, r.gd⟩
theorem Room.deeper {k : Nat} {A : Around} (r : Room (k + 1) A) (env : Env) : Room k (A.deeper env) :=
  ⟨r.hd, by have := r.dp; show A.depth + 1 + 3 * k + 5 < _; omega, by have := r.un; show A.units + 3 + 16 * k + 200 < _; omega, r.gd⟩
theorem Room.in1 {k : Nat} {A : Around} (r : Room (k + 1) A) : Room k A.in1 :=
  ⟨r.hd, by have := r.dp; show A.depth + 3 * k + 5 < _; omega, by have := r.un; show A.units + 1 + 16 * k + 200 < _; omega, r.gd⟩
theorem make_depth {A : Around} {C : Addr} {us : List Value} {kw : List (Str × Value)} : (A.under (.builtin "type.__call__" ⟨.ref C :: us, kw⟩)).depth = A.depth + 1 := by
  first | rfl | simp [Around.under, Code.weight, Code.isCreation, Code.isGuard, Code.isCaller, Code.frames, Code.isFrame, guardIds]
theorem make_units {A : Around} {C : Addr} {us : List Value} {kw : List (Str × Value)} : (A.under (.builtin "type.__call__" ⟨.ref C :: us, kw⟩)).units = A.units + 1 := by
  first | rfl | simp [Around.under, Code.cUnits, Code.frames, Code.isFrame]
theorem make_guards {A : Around} {C : Addr} {us : List Value} {kw : List (Str × Value)} : (A.under (.builtin "type.__call__" ⟨.ref C :: us, kw⟩)).guards = A.guards := by
  first | rfl | simp [Around.under, Code.isGuard, Code.guards, guardIds]
theorem Room.make {k : Nat} {A : Around} (r : Room (k + 1) A) (C : Addr) (us : List Value) (kw : List (Str × Value)) : Room k (A.under (.builtin "type.__call__" ⟨.ref C :: us, kw⟩)) :=
  ⟨r.hd, by have := r.dp; rw [make_depth]; omega, by have := r.un; rw [make_units]; omega, by rw [make_guards]; exact r.gd⟩
theorem Room.depth {k : Nat} {A : Around} (r : Room k A) : A.depth < recursionLimit := by have := r.dp; omega
theorem Room.units {k : Nat} {A : Around} (r : Room k A) : A.units + 64 < cLine := by have := r.un; omega
def tNil : TA := fun _ H Q => Q [] H
def tCons (ta : TE) (tr : TA) : TA := fun σ H Q => ta σ H fun x H1 => tr σ H1 fun xs H2 => Q (x :: xs) H2
section
variable {X : Cx} {e : Expr} {es : List Expr} {te : TE} {t : TA} {pos : Pos}
theorem pa_nil : PA X [] tNil := fun _ _ _ _ H Q I h => Calls.spliced_nil ⟨[], H, I, .nil, h⟩
theorem pa_cons (ha : PE X e te) (hr : PA X es t) (hs : starEach (e :: es) X.env = (false, eval e X.env) :: starEach es X.env := by rfl) : PA X (e :: es) (tCons te t) := by
  intro pos pins s σ H Q I h
  rw [hs]
  show wpAny _ _ (spliced ((false, eval e X.env) :: backTo pos (starEach es X.env))) _ _ s
  refine Calls.spliced_cons (thn (ha pins s σ H _ I h) fun u s1 ⟨x, H1, I1, r1, q1⟩ => ?_)
  exact thn (hr pos pins s1 σ H1 _ I1 q1) fun us s2 ⟨xs, H2, I2, r2, q2⟩ => ⟨x :: xs, H2, I2, .cons r1 r2, q2⟩
def tTup (t : TA) : TE := fun σ H Q => t σ H fun xs H1 => xs.length ≤ sizeLine ∧ ∀ p, H1 p = none → Q (.ref p) (upd H1 p (.tup xs))
def tLst (t : TA) : TE := fun σ H Q => t σ H fun xs H1 => xs.length ≤ sizeLine ∧ ∀ p, H1 p = none → Q (.ref p) (upd H1 p (.lst xs))
theorem pe_tup {x1} (h : PA X es t) : PE X (.Tuple es x1 pos) (tTup t) := by
  intro pins s σ H Q I hq
  refine wpAny_Tuple_spliced (thn (h pos pins s σ H _ I hq) fun us s1 ⟨xs, H1, I1, r, z, q⟩ => ⟨by rw [← r.length]; exact z, ?_⟩)
  have hf : H1 s1.heap.objs.size = none := I1.hok.fresh (Nat.le_refl _)
  refine ⟨.ref s1.heap.objs.size, upd H1 s1.heap.objs.size (.tup xs), I1.laid (t' := s1.toks) (fun b u e => Heap.get?_push_of_some _ e) (Nat.le_refl _) ?_, rfl, q _ hf⟩
  exact ⟨z, us, r, ⟨_, Heap.get?_push_size _ rfl, rfl, _, rfl⟩⟩
theorem pe_lst (h : PA X es t) : PE X (.List es pos) (tLst t) := by
  intro pins s σ H Q I hq
  refine wpAny_List_spliced (thn (h pos pins s σ H _ I hq) fun us s1 ⟨xs, H1, I1, r, z, q⟩ => ⟨by rw [← r.length]; exact z, ?_⟩)
  have hf : H1 s1.heap.objs.size = none := I1.hok.fresh (Nat.le_refl _)
  refine ⟨.ref s1.heap.objs.size, upd H1 s1.heap.objs.size (.lst xs), I1.laid (t' := s1.toks) (fun b u e => Heap.get?_push_of_some _ e) (Nat.le_refl _) ?_, rfl, q _ hf⟩
  exact ⟨z, us, 0, r, Heap.get?_push_size _ rfl⟩
end
abbrev Sp := List V → Hp → VK → XK → Prop
abbrev CXT := List Env → Hp → Shared → XK → Value → Shared → Prop
structure Env0 (P : Program) (w : World) (K : PySem.W.Frag) (mg : Str → Option Value) (base : Heap) (A : Around) (outer : List Env) (s : Shared) (H : Hp) : Prop where
  frames : A.frames = some outer
  mod : Mod K mg base
  bs : ∀ b o, base.get? b = some o → s.heap.get? b = some o ∧ H b = none
  bsz : base.objs.size ≤ s.heap.objs.size
  funs : s.heap.FunFrames base outer
  frf : ∀ b ∈ frs outer, H b = none
  hok : HOk P w H s.heap
  bare : AllBare s.gens
def CE (outer : List Env) (P : Program) (w : World) (H : Hp) (s : Shared) (Q : VK) (u : Value) (s' : Shared) : Prop :=
  ∃ v H', s'.os = s.os ∧ AllBare s'.gens ∧ Un (frs outer) [] H H' s.heap s'.heap ∧ HOk P w H' s'.heap ∧ RelV v u ∧ Q v H'
def CR (CX : CXT) (outer : List Env) (P : Program) (w : World) (H : Hp) (s : Shared) (Q : VK) (E : XK) (r : Result) (s' : Shared) : Prop :=
  match r with
  | .ok (.ret u) => CE outer P w H s Q u s'
  | .ok _ => False
  | .error e => CX outer H s E e s'
structure FnOk (P : Program) (w : World) (K : PySem.W.Frag) (mg : Str → Option Value) (base : Heap) (CX : CXT) (k : Nat) (f : Addr) (fd : FuncData) (ps : List Str) (sp : Sp) : Prop where
  len : ∀ vs H Q E, sp vs H Q E → vs.length = ps.length
  run : ∀ (A : Around) (outer : List Env) (s : Shared) (H : Hp) (args : Args) (us : List Value) (vs : List V) (Q : VK) (E : XK), Room k A → Env0 P w K mg base A outer s H → BindsTo s fd args (ps.zip us) → Vals vs us → sp vs H Q E →
    codeAny (model P w) A (.call (.ref f) args) (CR CX outer P w H s Q E) s
theorem FnOk.mono {P : Program} {w : World} {K : PySem.W.Frag} {mg : Str → Option Value} {base : Heap} {CX : CXT} {j k : Nat} {f : Addr} {fd : FuncData} {ps : List Str} {sp : Sp} (F : FnOk P w K mg base CX j f fd ps sp) (h : j ≤ k) :
    FnOk P w K mg base CX k f fd ps sp := ⟨F.len, fun A outer s H args us vs Q E hr => F.run A outer s H args us vs Q E (hr.mono h)⟩
theorem Env0.make {P : Program} {w : World} {K : PySem.W.Frag} {mg : Str → Option Value} {base : Heap} {A : Around} {outer : List Env} {s : Shared} {H : Hp} (e : Env0 P w K mg base A outer s H) (C : Addr) (us : List Value) (kw : List (Str × Value)) :
    Env0 P w K mg base (A.under (.builtin "type.__call__" ⟨.ref C :: us, kw⟩)) outer s H := ⟨by first | exact e.frames | (simpa [Around.under, Code.envs, Code.isFrame, pushEnvs] using e.frames), e.mod, e.bs, e.bsz, e.funs, e.frf, e.hok, e.bare⟩
theorem Env0.in1 {P : Program} {w : World} {K : PySem.W.Frag} {mg : Str → Option Value} {base : Heap} {A : Around} {outer : List Env} {s : Shared} {H : Hp} (e : Env0 P w K mg base A outer s H) :
    Env0 P w K mg base A.in1 outer s H := ⟨e.frames, e.mod, e.bs, e.bsz, e.funs, e.frf, e.hok, e.bare⟩
section
variable {X : Cx} {pins : List (Addr × Obj)} {σ : St} {H : Hp} {s s' : Shared}
theorem Inv.env0 (I : Inv X pins σ H s) : Env0 X.prog X.w X.K X.mg X.base X.A X.stack s H :=
  ⟨I.ok.frames, I.ok.mod, I.bs, Nat.le_trans I.ok.bsz I.sz, I.stack, I.stkFree, I.hok, I.bare⟩
theorem Inv.after {Q : VK} {u : Value} (I : Inv X pins σ H s) (h : CE X.stack X.prog X.w H s Q u s') : EP X pins σ Q u s' := by
  obtain ⟨v, H', os, bare, un, hok, r, q⟩ := h
  obtain ⟨hh, g, d, t, os'⟩ := s'
  obtain rfl : os' = s.os := os
  exact ⟨v, H', I.call (h' := hh) (g' := g) (d' := d) (t' := t) (ch := []) un hok bare (fun b z => absurd z (by simp)), r, q⟩
end
def tCall (sp : Sp) (dvs : List V) (E : XK) (t : TA) : TE := fun σ H Q => t σ H fun vs H1 => sp (vs ++ dvs) H1 Q E
def tMeth (C : Addr) (m : Str) (sp : Sp) (dvs : List V) (E : XK) (ta : TE) (t : TA) : TE := fun σ H Q => ta σ H fun x H1 => ∃ a dx fs, x = .ref a ∧ H1 a = some (.ins C dx fs) ∧ fs.lookup m = none ∧
  t σ H1 fun vs H2 => sp (x :: (vs ++ dvs)) H2 Q E
def tMake (C : Addr) (sp : Sp) (dvs : List V) (E : XK) (t : TA) : TE := fun σ H Q => t σ H fun vs H1 => ∀ x dx, H1 x = none → H1 dx = none → dx ≠ x →
  sp (.ref x :: (vs ++ dvs)) (upd (upd H1 dx (.own x)) x (.ins C dx [])) (fun v H2 => v = .non ∧ Q (.ref x) H2) E
def Binds (K : PySem.W.Frag) (fd : FuncData) (ps : List Str) (ds : List Value) : Prop :=
  ∀ (s : Shared) (us : List Value), K.In s.heap → (us ++ ds).length = ps.length → BindsTo s fd ⟨us, []⟩ (ps.zip (us ++ ds))
theorem Binds.all {K : PySem.W.Frag} {fd : FuncData} {ps : List Str} (h : ∀ us : List Value, us.length = ps.length → bindArgs fd ⟨us, []⟩ = pure (ps.zip us)) : Binds K fd ps [] := fun s us _ hl => by
  rw [List.append_nil] at hl ⊢
  exact .of_eq (h us hl)
def Passes (CX : CXT) (X : Cx) (E : XK) : Prop := ∀ (pins : List (Addr × Obj)) (σ : St) (H : Hp) (s : Shared) (e : Value) (s' : Shared), Inv X pins σ H s → CX X.stack H s E e s' → X.xe e s'
section
variable {X : Cx} {CX : CXT} {k : Nat} {f C : Addr} {fd : FuncData} {ps : List Str} {sp : Sp} {dvs : List V} {ds : List Value} {E : XK} {x m : Str} {p pos apos : Pos} {e o : Expr} {es : List Expr} {ta : TE} {t : TA}
theorem run_fn {pins : List (Addr × Obj)} {σ : St} {H : Hp} {s : Shared} {Q : VK} {us : List Value} {vs : List V} (F : FnOk X.prog X.w X.K X.mg X.base CX k f fd ps sp) (hr : Room k X.A) (hb : Binds X.K fd ps ds) (hd : Vals dvs ds) (hx : Passes CX X E)
    (I : Inv X pins σ H s) (r : Vals vs us) (h : sp (vs ++ dvs) H Q E) : wpAny (model X.prog X.w) X.A (call (.ref f) us) (EP X pins σ Q) X.xe s := by
  have r2 : Vals (vs ++ dvs) (us ++ ds) := r.append hd
  have hl : (us ++ ds).length = ps.length := by rw [← r2.length]; exact F.len _ _ _ _ h
  refine wpAny_call (codeAny_mono (F.run X.A X.stack s H ⟨us, []⟩ (us ++ ds) (vs ++ dvs) Q E hr I.env0 (hb s us I.kIn hl) r2 h) fun r s' hq => ?_)
  cases r with
  | error e => exact hx pins σ H s e s' I hq
  | ok fl =>
    cases fl with
    | ret u => exact I.after hq
    | next => exact False.elim hq
    | brk => exact False.elim hq
    | cont => exact False.elim hq
theorem pe_call (F : FnOk X.prog X.w X.K X.mg X.base CX k f fd ps sp) (hr : Room k X.A) (hg : Gl X x) (hm : X.mg x = some (.ref f)) (hk : PySem.W.keepIn X.K (.ref f) = true) (hb : Binds X.K fd ps ds) (hd : Vals dvs ds) (hx : Passes CX X E)
    (ha : PA X (e :: es) t) (hdb : (x == ("__debug__" : Str)) = false := by decide) (he : starEach (e :: es) X.env = (false, eval e X.env) :: starEach es X.env := by rfl) (hpl : (backTo pos (starEach es X.env)).any (·.1) = false := by rfl) :
    PE X (.Call (.Name x p) (e :: es) [] pos) (tCall sp dvs E t) := by
  intro pins s σ H Q I h
  refine wpAny_Call_Name_kw (ld_glob I hg hm ?_ hdb)
  refine PySem.W.callWith_K (h₀ := X.base) I.ok.mod.kin hk (thn (ha pos pins s σ H _ I h) fun us s1 ⟨vs, H1, I1, r, q⟩ => ⟨I1.kIn, ?_⟩) he hpl
  exact run_fn F hr hb hd hx I1 r q
theorem pe_meth {pl : Sem Bool} (he : PE X o ta) (c : Cls X.K C) (hm : Meth X.K C m f) (F : FnOk X.prog X.w X.K X.mg X.base CX k f fd ps sp) (hr : Room k X.A) (hb : Binds X.K fd ps ds) (hd : Vals dvs ds) (hx : Passes CX X E) (ha : PA X (e :: es) t)
    (hst : starEach (e :: es) X.env = (false, eval e X.env) :: starEach es X.env := by rfl) (hpl : (backTo pos (starEach es X.env)).any (·.1) = false := by rfl)
    (ht : eval (.Call (.Attribute o m apos) (e :: es) [] pos) X.env = (do
      let ov ← eval o X.env
      standAt apos.atName
      let (f, first) ← holding [ov] (getMethod ov m pl)
      callWith pos f first (backTo pos (starEach (e :: es) X.env)) (backToKw pos (keywordEach [] X.env))) := by rfl) :
    PE X (.Call (.Attribute o m apos) (e :: es) [] pos) (tMeth C m sp dvs E ta t) := by
  intro pins s σ H Q I h
  refine PySem.W.methodCall_KW (pl := pl) (thn (he pins s σ H _ I h) fun u s1 ⟨x, H1, I1, rx, a, dx, fs, ex, ea, l, q⟩ => ?_) ht
  subst ex
  obtain rfl : u = Value.ref a := rx
  refine getmeth_ok I1 ea c hm l ?_
  refine PySem.W.callWith_K (first := [.ref a]) (h₀ := X.base) I.ok.mod.kin hm.kp (thn (ha pos pins s1 σ H1 _ I1 q) fun us s2 ⟨vs, H2, I2, r, q2⟩ => ⟨I2.kIn, ?_⟩) hst hpl
  exact run_fn (us := .ref a :: us) (vs := .ref a :: vs) F hr hb hd hx I2 (.cons rfl r) q2
structure Mk (K : PySem.W.Frag) (C f : Addr) : Prop where
  makes : PySem.W.makesIn K C = true
  init : PySem.W.findIn K (.ref C) "__init__" = some (some (.ref f))
  fn : PySem.W.isFn K (.ref f) = true
  kp : PySem.W.keepIn K (.ref C) = true
theorem run_make {pins : List (Addr × Obj)} {σ : St} {H : Hp} {s : Shared} {Q : VK} {us : List Value} {vs : List V} (M : Mk X.K C f) (F : FnOk X.prog X.w X.K X.mg X.base CX k f fd ps sp) (hr : Room (k + 1) X.A) (hb : Binds X.K fd ps ds) (hd : Vals dvs ds)
    (hx : Passes CX X E) (I : Inv X pins σ H s) (r : Vals vs us)
    (h : ∀ x dx, H x = none → H dx = none → dx ≠ x → sp (.ref x :: (vs ++ dvs)) (upd (upd H dx (.own x)) x (.ins C dx [])) (fun v H2 => v = .non ∧ Q (.ref x) H2) E) :
    wpAny (model X.prog X.w) X.A (call (.ref C) us) (EP X pins σ Q) X.xe s := by
  have hq := h (s.heap.objs.size + 1) s.heap.objs.size (I.hok.fresh (Nat.le_succ _)) (I.hok.fresh (Nat.le_refl _)) (Nat.ne_of_lt (Nat.lt_succ_self _))
  have I2 := Inv.made (C := C) I
  have r2 : Vals (V.ref (s.heap.objs.size + 1) :: (vs ++ dvs)) (Value.ref (s.heap.objs.size + 1) :: (us ++ ds)) := .cons rfl (r.append hd)
  have hl : (Value.ref (s.heap.objs.size + 1) :: us ++ ds).length = ps.length := by
    have e := r2.length
    rw [F.len _ _ _ _ hq] at e
    exact e.symm
  refine wpAny_call (make_map (f := f) I.kIn M.makes M.init (beq_iff_eq.mp M.fn) (codeAny_mono (F.run _ X.stack _ _ ⟨Value.ref (s.heap.objs.size + 1) :: us, []⟩ (Value.ref (s.heap.objs.size + 1) :: (us ++ ds)) _ _ E (hr.make C us [])
    (I2.env0.make C us []) (hb _ (Value.ref (s.heap.objs.size + 1) :: us) I2.kIn hl) r2 hq) fun r s' hq' => ?_))
  cases r with
  | error e => exact hx pins σ _ _ e s' I2 hq'
  | ok fl =>
    cases fl with
    | ret u =>
      obtain ⟨v, H', I3, rv, ev, q3⟩ := I2.after hq'
      subst ev
      exact ⟨rv, ⟨V.ref (s.heap.objs.size + 1), H', I3, rfl, q3⟩⟩
    | next => exact False.elim hq'
    | brk => exact False.elim hq'
    | cont => exact False.elim hq'
theorem pe_make (M : Mk X.K C f) (F : FnOk X.prog X.w X.K X.mg X.base CX k f fd ps sp) (hr : Room (k + 1) X.A) (hg : Gl X x) (hm : X.mg x = some (.ref C)) (hb : Binds X.K fd ps ds) (hd : Vals dvs ds) (hx : Passes CX X E)
    (ha : PA X (e :: es) t) (hdb : (x == ("__debug__" : Str)) = false := by decide) (he : starEach (e :: es) X.env = (false, eval e X.env) :: starEach es X.env := by rfl) (hpl : (backTo pos (starEach es X.env)).any (·.1) = false := by rfl) :
    PE X (.Call (.Name x p) (e :: es) [] pos) (tMake C sp dvs E t) := by
  intro pins s σ H Q I h
  refine wpAny_Call_Name_kw (ld_glob I hg hm ?_ hdb)
  refine PySem.W.callWith_K (h₀ := X.base) I.ok.mod.kin M.kp (thn (ha pos pins s σ H _ I h) fun us s1 ⟨vs, H1, I1, r, q⟩ => ⟨I1.kIn, ?_⟩) he hpl
  exact run_make M F hr hb hd hx I1 r q
end
section
variable {X : Cx} {CX : CXT} {k : Nat} {f C : Addr} {fd : FuncData} {ps ks : List Str} {sp : Sp} {E : XK} {x m : Str} {p pos apos kpos : Pos} {e o : Expr} {es : List Expr} {kws : List Keyword} {te ta : TE} {t tk : TA} {nm : Option Str}
structure KBinds (K : PySem.W.Frag) (fd : FuncData) (ps ks : List Str) (g : List Value → List Value → List Value) (gV : List V → List V → List V) : Prop where
  to : ∀ (s : Shared) (us ws : List Value), K.In s.heap → (g us ws).length = ps.length → BindsTo s fd ⟨us, ks.zip ws⟩ (ps.zip (g us ws))
  rel : ∀ {vs : List V} {us : List Value} {zs : List V} {ws : List Value}, Vals vs us → Vals zs ws → Vals (gV vs zs) (g us ws)
variable {g : List Value → List Value → List Value} {gV : List V → List V → List V}
end
structure FnScope (N P : List Str) (sc : Scope) : Prop where
  kind : sc.kind = .function
  co : sc.isCoroutine = false
  gen : sc.isGenerator = false
  nd : N.Nodup
  pre : N.take P.length = P
  par : ∀ x ∈ P, sc.names.lookup x = some .local ∨ sc.names.lookup x = some .cell
  nofree : ∀ y ∈ sc.names, y.2 ≠ .free
theorem bindL_out {kindOf : Str → Option NameKind} {x : Str} : ∀ {binds : List (Str × Value)} {m : Str → Option Value}, (∀ v, (x, v) ∉ binds) → bindL kindOf binds m x = m x
  | [], _, _ => rfl
  | (n, v) :: r, m, h => by
    unfold bindL
    rw [bindL_out fun w hw => h w (List.mem_cons_of_mem _ hw)]
    split
    · have : x ≠ n := by rintro rfl; exact h v List.mem_cons_self
      simp [this]
    · rfl
theorem bindC_out {kindOf : Str → Option NameKind} {x : Str} : ∀ {binds : List (Str × Value)} {m : Str → Option Value}, (∀ v, (x, v) ∉ binds) → bindC kindOf binds m x = m x
  | [], _, _ => rfl
  | (n, v) :: r, m, h => by
    unfold bindC
    rw [bindC_out fun w hw => h w (List.mem_cons_of_mem _ hw)]
    split
    · rfl
    · have : x ≠ n := by rintro rfl; exact h v List.mem_cons_self
      simp [this]
theorem bindL_get {kindOf : Str → Option NameKind} {x : Str} {v : Value} : ∀ {P : List Str} {vs : List Value} {i : Nat} {m : Str → Option Value}, P.Nodup → P[i]? = some x → vs[i]? = some v → kindOf x = some .local →
    bindL kindOf (P.zip vs) m x = some v
  | [], _, _, _, _, h, _, _ => by simp at h
  | _ :: _, [], _, _, _, _, h, _ => by simp at h
  | p :: P, w :: vs, 0, m, nd, h1, h2, hk => by
    simp at h1 h2; subst h1; subst h2
    show bindL kindOf ((p, w) :: P.zip vs) m p = _
    unfold bindL
    rw [bindL_out fun v hv => (List.nodup_cons.mp nd).1 (List.of_mem_zip hv).1, if_pos hk]
    simp
  | p :: P, w :: vs, i + 1, m, nd, h1, h2, hk => by
    show bindL kindOf ((p, w) :: P.zip vs) m x = _
    unfold bindL
    exact bindL_get (i := i) (List.nodup_cons.mp nd).2 (by simpa using h1) (by simpa using h2) hk
theorem bindC_get {kindOf : Str → Option NameKind} {x : Str} {v : Value} : ∀ {P : List Str} {vs : List Value} {i : Nat} {m : Str → Option Value}, P.Nodup → P[i]? = some x → vs[i]? = some v → kindOf x ≠ some .local →
    bindC kindOf (P.zip vs) m x = some v
  | [], _, _, _, _, h, _, _ => by simp at h
  | _ :: _, [], _, _, _, _, h, _ => by simp at h
  | p :: P, w :: vs, 0, m, nd, h1, h2, hk => by
    simp at h1 h2; subst h1; subst h2
    show bindC kindOf ((p, w) :: P.zip vs) m p = _
    unfold bindC
    rw [bindC_out fun v hv => (List.nodup_cons.mp nd).1 (List.of_mem_zip hv).1, if_neg hk]
    simp
  | p :: P, w :: vs, i + 1, m, nd, h1, h2, hk => by
    show bindC kindOf ((p, w) :: P.zip vs) m x = _
    unfold bindC
    exact bindC_get (i := i) (List.nodup_cons.mp nd).2 (by simpa using h1) (by simpa using h2) hk
def start (N : List Str) (vs : List V) : St := vs.map some ++ List.replicate (N.length - vs.length) none
def cxOf (CX : CXT) (P : Program) (w : World) (K : PySem.W.Frag) (mg : Str → Option Value) (base : Heap) (N : List Str) (qual : Str) (scope : Scope) (f : Addr) (cd : Value) (A : Around) (outer : List Env) (s : Shared) (H : Hp) (E : XK) : Cx where
  prog := P
  w := w
  K := K
  mg := mg
  base := base
  A := A.deeper (envOfC qual scope s.heap.objs.size f cd)
  N := N
  s₀ := s
  H₀ := H
  env := envOfC qual scope s.heap.objs.size f cd
  outer := outer
  stack := envOfC qual scope s.heap.objs.size f cd :: outer
  ex := []
  calm := true
  fn := fun _ => true
  pn := []
  xe := fun e s' => wpAny (model P w) (A.deeper (envOfC qual scope s.heap.objs.size f cd)) (leaving (envOfC qual scope s.heap.objs.size f cd) e) (fun _ s'' => CX outer H s E e s'') (fun e' s'' => CX outer H s E e' s'') s'
theorem cell_has {sc : Scope} {n : Nat} {x : Str} (h : sc.names.lookup x = some .cell) : ∃ c, (cellsFrom n sc.names []).lookup x = some c := by
  have q := PySem.W.cellsFrom_some sc.names n [] (.inl h)
  exact Option.isSome_iff_exists.mp q
theorem inv_start {CX : CXT} {P : Program} {w : World} {K : PySem.W.Frag} {mg : Str → Option Value} {base : Heap} {N ps : List Str} {qual : Str} {scope : Scope} {f : Addr} {cd : Value} {A : Around} {outer : List Env} {s s1 : Shared} {H : Hp} {E : XK} {us : List Value} {vs : List V}
    (S : FnScope N ps scope) (hd : A.handled = none) (e0 : Env0 P w K mg base A outer s H) (hl : vs.length = ps.length) (r : Vals vs us)
    (x : InCallC s s.heap.objs.size (bindL (envOfC qual scope s.heap.objs.size f cd).kindOf (ps.zip us) fun _ => none) (cellsFrom (s.heap.objs.size + 1) scope.names []) (bindC (envOfC qual scope s.heap.objs.size f cd).kindOf (ps.zip us) fun _ => none) s1) :
    Inv (cxOf CX P w K mg base N qual scope f cd A outer s H E) [] (start N vs) H s1 := by
  have hpl : ps.length ≤ N.length := by have := congrArg List.length S.pre; rw [List.length_take] at this; omega
  obtain ⟨h1, tk, rfl, hk⟩ := x.done
  have noA : ∀ b : Addr, b ∉ (cxOf CX P w K mg base N qual scope f cd A outer s H E).ex := fun b z => absurd (show b ∈ ([] : List Addr) from z) (by simp)
  refine ⟨⟨e0.mod, S.kind, rfl, rfl, Nat.le_refl _, fun y z c h1 h2 => ?_, fun y hy => ?_, fun y c _ h => ?_, fun _ => hd, Around.frames_deeper e0.frames, .inr ⟨rfl, rfl⟩, fun b z => absurd z (noA b), e0.bs, e0.bsz, fun b _ _ => noA b, fun b z => absurd z (noA b), e0.funs, e0.frf⟩,
    rfl, e0.bare, Un.kept hk, ⟨_, x.toInCall.ns, fun i y v h1 h2 h3 => ?_⟩, fun y c h => ⟨_, x.cell y c h⟩, e0.hok.fresh (Nat.le_refl _), fun y c h => ?_, fun p hp => absurd (show p ∈ ([] : List (Addr × Obj)) from hp) (by simp), e0.hok.kept hk, ?_⟩
  · exact name_of_addr x.apart (PySem.mem_of_lookup h1) (PySem.mem_of_lookup h2)
  · have hy : scope.names.lookup y = some .cell ∨ scope.names.lookup y = some .free := hy
    rcases hy with hy | hy
    · exact cell_has hy
    · exact absurd rfl (S.nofree _ (PySem.mem_of_lookup hy))
  · exact Nat.le_of_lt (x.above y c (PySem.mem_of_lookup h))
  · have hi : i < vs.length := by
      unfold start at h2
      by_cases hi : i < vs.length
      · exact hi
      · rw [List.getElem?_append_right (by simpa using hi)] at h2
        rw [List.getElem?_replicate] at h2
        split at h2 <;> cases h2
    have ha : vs[i]? = some v := by
      unfold start at h2
      rw [List.getElem?_append_left (by simpa using hi), List.getElem?_map] at h2
      cases e : vs[i]? with
      | none => rw [e] at h2; cases h2
      | some a => rw [e] at h2; cases h2; rfl
    obtain ⟨u, hu, rv⟩ := r.get ha
    have hp : ps[i]? = some y := by
      rw [← S.pre, List.getElem?_take_of_lt (by omega)]; exact h1
    have ndP : ps.Nodup := by rw [← S.pre]; exact S.nd.sublist (List.take_sublist _ _)
    refine ⟨u, rv, ?_⟩
    rcases S.par y (List.mem_of_getElem? hp) with k | k
    · exact .inl ⟨k, bindL_get ndP hp hu k⟩
    · obtain ⟨c, e⟩ := cell_has (n := s.heap.objs.size + 1) k
      refine .inr ⟨.inl k, c, e, ?_⟩
      have q := x.cell y c e
      rw [bindC_get ndP hp hu (by show scope.names.lookup y ≠ _; rw [k]; decide)] at q
      exact q
  · exact e0.hok.fresh (Nat.le_of_lt (x.above y c (PySem.mem_of_lookup h)))
  · unfold start
    show _ = N.length
    rw [List.length_append, List.length_map, List.length_replicate]
    omega
theorem fn_of {CX : CXT} {P : Program} {w : World} {K : PySem.W.Frag} {mg : Str → Option Value} {base : Heap} {k : Nat} {f : Addr} {name qual : Str} {params : Arguments} {body : List Stmt} {scope : Scope} {dV kV doc pm cdv ct oc : Value} {an od : Option Addr}
    {osl : Array (Option Value)} {N ps : List Str} {sp : Sp} (lk : K.lookup f = some ⟨oc, od, .func (PySem.W.fnOf name qual params body scope dV kV doc pm an cdv ct), osl⟩) (hcd : PySem.W.codeIn K cdv qual = true) (S : FnScope N ps scope)
    (len : ∀ vs H Q E, sp vs H Q E → vs.length = ps.length)
    (hbody : ∀ (A : Around) (outer : List Env) (s : Shared) (H : Hp) (vs : List V) (Q : VK) (E : XK), Room k (A.deeper (envOfC qual scope s.heap.objs.size f cdv)) → sp vs H Q E →
      ∃ t, PSs (cxOf CX P w K mg base N qual scope f cdv A outer s H E) body t ∧ t { nx := fun _ H' => Q .non H', rt := Q } (start N vs) H) :
    FnOk P w K mg base CX (k + 1) f (PySem.W.fnOf name qual params body scope dV kV doc pm an cdv ct) ps sp := by
  refine ⟨len, fun A outer s H args us vs Q E hr e0 hb r hsp => ?_⟩
  have hl := len _ _ _ _ hsp
  have KX : K.In s.heap := e0.mod.kin.keeps fun b o e => (e0.bs b o e).1
  have lim : s.heap.NoLimit := e0.mod.nolimit.keeps fun b o e => (e0.bs b o e).1
  have hkind : ∀ y ∈ ps.zip us, scope.names.lookup y.1 = some .local ∨ (scope.names.lookup y.1 = some .cell ∧ ((cellsFrom (s.heap.objs.size + 1) scope.names []).lookup y.1).isSome = true) := fun ⟨n, v⟩ hy => by
    rcases S.par n (List.of_mem_zip hy).1 with q | q
    · exact .inl q
    · exact .inr ⟨q, PySem.W.cellsFrom_some _ _ _ (.inl q)⟩
  refine codeAny_call_function hr.depth (KX _ _ lk) rfl S.co S.gen rfl (PySem.W.codeRec_of KX hcd) (hb _ _ _ _ ?_)
  refine wpAny_newFunctionEnv_cells S.kind hkind fun env he s1 x => ?_
  subst he
  refine ⟨lim.keeps x.toInCall.keep, codeAny_func ?_⟩
  obtain ⟨t, ht, hq⟩ := hbody A outer s H vs Q E (hr.deeper _) hsp
  have I : Inv (cxOf CX P w K mg base N qual scope f cdv A outer s H E) [] (start N vs) H s1 := inv_start S hr.hd e0 hl r x
  refine wpAny_mono (ht [] s1 (start N vs) H _ I hq) (fun fl s' hs => ?_) fun e s' hs => hs
  have fin : ∀ {σ' : St} {H' : Hp} {v : V} {u : Value}, Inv (cxOf CX P w K mg base N qual scope f cdv A outer s H E) [] σ' H' s' → RelV v u → Q v H' → CE outer P w H s Q u s' :=
    fun {σ' H' v u} J rv q => ⟨v, H', J.os, J.bare, J.base, J.hok, rv, q⟩
  cases fl with
  | ret u =>
    obtain ⟨v, σ', H', J, rv, q⟩ := hs
    exact fin J rv q
  | next =>
    obtain ⟨σ', H', J, q⟩ := hs
    exact fin (v := V.non) (u := Value.none) J rfl q
  | brk =>
    obtain ⟨_, _, _, q⟩ := hs
    exact False.elim q
  | cont =>
    obtain ⟨_, _, _, q⟩ := hs
    exact False.elim q
end L2
namespace L2
open PySem PySem.Spec PyProof.Rows
section
variable {X : Cx} {x : Str} {p pos : Pos} {e : Expr} {es : List Expr} {t : TA} {id T : String} {r : List V → Hp → VK → Prop}
def tCB (r : List V → Hp → VK → Prop) (t : TA) : TE := fun σ H Q => t σ H fun vs H1 => r vs H1 Q
theorem pe_callB (hc : CallR X (.builtin id) r) (hg : Gl X x) (hm : X.mg x = none) (hv : bootBuiltins x = some (.builtin id)) (ha : PA X (e :: es) t) (hn : x ≠ "__name__" := by decide) (hdb : (x == ("__debug__" : Str)) = false := by decide)
    (he : starEach (e :: es) X.env = (false, eval e X.env) :: starEach es X.env := by rfl) (hpl : (backTo pos (starEach es X.env)).any (·.1) = false := by rfl) : PE X (.Call (.Name x p) (e :: es) [] pos) (tCB r t) := by
  intro pins s σ H Q I h
  refine wpAny_Call_Name_kw (ld_blt I hg hm hv ?_ hn hdb)
  exact PyProof.Rows.callWith_builtin1 (thn (ha pos pins s σ H _ I h) fun us s1 ⟨vs, H1, I1, r1, q1⟩ => hc pins s1 σ H1 vs us Q I1 r1 q1) he hpl
theorem pe_callTy (hc : CallR X (.type T) r) (hg : Gl X x) (hm : X.mg x = none) (hv : bootBuiltins x = some (.type T)) (ha : PA X (e :: es) t) (hn : x ≠ "__name__" := by decide) (hdb : (x == ("__debug__" : Str)) = false := by decide)
    (he : starEach (e :: es) X.env = (false, eval e X.env) :: starEach es X.env := by rfl) (hpl : (backTo pos (starEach es X.env)).any (·.1) = false := by rfl) : PE X (.Call (.Name x p) (e :: es) [] pos) (tCB r t) := by
  intro pins s σ H Q I h
  refine wpAny_Call_Name_kw (ld_blt I hg hm hv ?_ hn hdb)
  exact PyProof.Rows.callWith_type1 (thn (ha pos pins s σ H _ I h) fun us s1 ⟨vs, H1, I1, r1, q1⟩ => hc pins s1 σ H1 vs us Q I1 r1 q1) he hpl
end
end L2
namespace HT
open PySem PyProof.Rows
def lexLt : List Int → List Int → Bool
  | [], [] => false
  | [], _ :: _ => true
  | _ :: _, [] => false
  | x :: xs, y :: ys => if x = y then lexLt xs ys else decide (x < y)
theorem lexLt_cons (x y : Int) (xs ys : List Int) : lexLt (x :: xs) (y :: ys) = if x = y then lexLt xs ys else decide (x < y) := rfl
theorem lexLt_nil_nil : lexLt [] [] = false := rfl
theorem lexLt_nil_cons (y : Int) (ys : List Int) : lexLt [] (y :: ys) = true := rfl
theorem lexLt_cons_nil (x : Int) (xs : List Int) : lexLt (x :: xs) [] = false := rfl
theorem eqAt_int (A : Around) (s : Shared) (a : Int) (t : Tok) (c : Int) (u : Tok) : ∃ e, SeqAt.EqAt A s (.int a t) (.int c u) e ∧ (e = true ↔ a = c) :=
  ⟨(a == c), SeqAt.EqAt.int_int a t c u, by simp⟩
theorem rcLt_int (A : Around) (s : Shared) (a : Int) (t : Tok) (c : Int) (u : Tok) (prog : Program) (w : World) (E : Value → Shared → Prop) (Q : Value → Shared → Prop) (h : Q (.bool (decide (a < c))) s) :
    wpAny (model prog w) A (richCompare .Lt (.int a t) (.int c u)) Q E s :=
  (PyProof.Rows.lt_int h : wpAny (model prog w) A (compareOp .Lt (.int a t) (.int c u)) Q E s)
section
open PySem.SeqAt
open PySem.AutoSeq1 (wpAny_loadPart')
open PySem.MeetsSeq PySem.MeetsSeq2 PySem.MeetsSeq3
theorem tuple_lt_ints (l b : Addr) (items items2 : Array Value) (n n2 : Nat) (dd dd2 : Option Addr) (sl sl2 : Array (Option Value)) (ns ms : List Int) (hi : IntsAre items.toList ns) (hj : IntsAre items2.toList ms) :
    Meets (Builtin.«tuple.__lt__» ⟨[.ref l, .ref b], []⟩)
      (fun _ R s => s.heap.get? l = some { cls := .type "tuple", dict := dd, data := .seq items n, slots := sl } ∧ s.heap.get? b = some { cls := .type "tuple", dict := dd2, data := .seq items2 n2, slots := sl2 } ∧
        R (.ok (.ret (.bool (lexLt ns ms)))) s) :=
  .of_wp fun prog w A R s h => by
    obtain ⟨hp, g, d, tk, os⟩ := s; obtain ⟨hl, hb, h⟩ := h
    have f2 := AutoSeq1.sub_tuple_tuple
    have z1 : items.size = ns.length := by rw [← hi.length]; simp
    have z2 : items2.size = ms.length := by rw [← hj.length]; simp
    wp_walk using wpAny_loadPart' hl, wpAny_loadPart' hb, wpAny_forIn_list _ (fun rest b s' => b.1 = none ∧ s' = ⟨hp, g, d, tk, os⟩ ∧ ∃ (vs ws : List Value) (ns' ms' : List Int), rest = vs.zip ws ∧
      IntsAre vs ns' ∧ IntsAre ws ms' ∧ ns'.length + items2.size = ms'.length + items.size ∧ R (.ok (.ret (.bool (lexLt ns' ms')))) ⟨hp, g, d, tk, os⟩) _
    case turn =>
      rintro ⟨y, x⟩ rest b s' ⟨hb', rfl, vs, ws, ns', ms', hz, hvi, hwi, hlen, hR⟩
      cases hvi with
      | nil => rw [List.zip_nil_left] at hz; cases hz
      | cons a t hvi' =>
        cases hwi with
        | nil => rw [List.zip_nil_right] at hz; cases hz
        | cons c u hwi' =>
          rw [List.zip_cons_cons] at hz
          injection hz with hyx hrest
          injection hyx with hy hx
          subst hy hx
          rw [lexLt_cons] at hR
          simp only [List.length_cons] at hlen
          obtain ⟨e, he, hiff⟩ := eqAt_int A.in1 ⟨hp, g, d, tk, os⟩ a t c u
          refine wpAny_bind (he prog w _ _ ?_)
          cases e with
          | true =>
            rw [if_pos (hiff.mp rfl)] at hR
            wp_walk
            exact ⟨rfl, rfl, _, _, _, _, hrest, hvi', hwi', by omega, hR⟩
          | false =>
            rw [if_neg (fun q => absurd (hiff.mpr q) Bool.false_ne_true)] at hR
            have hri := rcLt_int A.in1 ⟨hp, g, d, tk, os⟩ a t c u prog w
            wp_walk using hri
            exact ⟨_, rfl, by simpa using hR⟩
    case fin =>
      rintro ⟨b1, b2⟩ s' ⟨hb', rfl, vs, ws, ns', ms', hz, hvi, hwi, hlen, hR⟩
      simp only at hb'
      subst hb'
      have hv : lexLt ns' ms' = decide (items.size < items2.size) := by
        cases hvi with
        | nil =>
          cases hwi with
          | nil =>
            simp only [List.length_nil] at hlen
            rw [lexLt_nil_nil]
            exact (decide_eq_false (by omega)).symm
          | cons c u hw =>
            simp only [List.length_nil, List.length_cons] at hlen
            rw [lexLt_nil_cons]
            exact (decide_eq_true (by omega)).symm
        | cons a t hv =>
          cases hwi with
          | nil =>
            simp only [List.length_nil, List.length_cons] at hlen
            rw [lexLt_cons_nil]
            exact (decide_eq_false (by omega)).symm
          | cons c u hw =>
            rw [List.zip_cons_cons] at hz
            cases hz
      rw [hv] at hR
      wp_walk
      exact ⟨_, rfl, by simpa [Builtin.Tuple.tupleCompareSizes] using hR⟩
    case h =>
      exact ⟨rfl, rfl, items.toList, items2.toList, ns, ms, rfl, hi, hj, by omega, h⟩
end
section
variable {prog : Program} {w : World} {A : Around} {E : Value → Shared → Prop} {s : Shared}
theorem lt_tupInts {l b : Addr} {items items2 : Array Value} {ns ms : List Int} {Q : Value → Shared → Prop} (hl : IsTup s.heap l items) (hb : IsTup s.heap b items2) (hi : IntsAre items.toList ns) (hj : IntsAre items2.toList ms)
    (hu : A.units < cLine) (h : Q (.bool (lexLt ns ms)) s) : wpAny (model prog w) A (compareOp .Lt (.ref l) (.ref b)) Q E s := by
  obtain ⟨⟨cls, dd, data, sl⟩, ho, hc, n, hd⟩ := id hl
  obtain ⟨⟨cls2, dd2, data2, sl2⟩, ho2, hc2, n2, hd2⟩ := id hb
  simp only at hc hd hc2 hd2
  subst hc hd hc2 hd2
  exact richCompare_meets_room (op := .Lt) ⟨_, ho, rfl⟩ ⟨_, ho2, rfl⟩ PySem.F.slot_tuple_lt PySem.F.entry_tuple_lt (PySem.F.args_tuple_lt_2 _ _) (tuple_lt_ints l b items items2 n n2 dd dd2 sl sl2 ns ms hi hj)
    ⟨ho, ho2, show Value.bool (lexLt ns ms) ≠ Value.notImplemented ∧ Q (.bool (lexLt ns ms)) s from ⟨(fun x => nomatch x), h⟩⟩ hu
def sIx (n d : Nat) : Option Int → Nat
  | none => d
  | some v => if v < 0 then (v + (n : Int)).toNat else min v.toNat n
theorem sIx_nat (n d k : Nat) : sIx n d (some (k : Int)) = min k n := by
  show (if (k : Int) < 0 then ((k : Int) + (n : Int)).toNat else min (k : Int).toNat n) = min k n
  rw [if_neg (by omega), Int.toNat_natCast]
end
end HT
namespace L2
open PySem PySem.Spec PyProof.Rows
abbrev TO := St → Hp → (Option Int → Hp → Prop) → Prop
def PO (X : Cx) (e : Option Expr) (t : TO) : Prop :=
  ∀ (pins : List (Addr × Obj)) (s : Shared) (σ : St) (H : Hp) (Q : Option Int → Hp → Prop), Inv X pins σ H s → t σ H Q →
    wpAny (model X.prog X.w) X.A (evalPart e X.env) (fun u s' => ∃ o H', Inv X pins σ H' s' ∧ IsPart u o ∧ Q o H') X.xe s
def tNoPart : TO := fun _ H Q => Q none H
def tPart (t : TE) : TO := fun σ H Q => t σ H fun x H1 => ∃ i, x = .int i ∧ Q (some i) H1
theorem intsAre_of {ns : List Int} : ∀ {us : List Value}, Vals (ns.map V.int) us → IntsAre us ns := by
  induction ns with
  | nil => intro us r; rw [List.map_nil] at r; cases r; exact .nil
  | cons n ns ih =>
    intro us r
    rw [List.map_cons] at r
    cases r with
    | cons r1 r2 =>
      obtain ⟨t, e⟩ := r1
      subst e
      exact .cons n t (ih r2)
section
variable {X : Cx} {e : Expr} {te : TE} {lo hi : Option Expr} {tl th : TO} {pos p2 : Pos}
theorem po_none : PO X none tNoPart := by
  intro pins s σ H Q I h
  rw [evalPart_none]
  exact wpAny_pure ⟨none, H, I, .none, h⟩
theorem po_some (h : PE X e te) : PO X (some e) (tPart te) := by
  intro pins s σ H Q I hw
  rw [evalPart_some]
  refine thn (h pins s σ H _ I hw) fun u s1 ⟨x, H1, I1, r1, q1⟩ => ?_
  obtain ⟨i, rfl, q⟩ := q1
  obtain ⟨t, rfl⟩ := r1
  exact ⟨some i, H1, I1, .int i t, q⟩
def SlR (X : Cx) (r : V → Option Int → Option Int → Hp → VK → Prop) : Prop :=
  ∀ (pins : List (Addr × Obj)) (s : Shared) (σ : St) (H : Hp) (x : V) (v vl vu : Value) (lo hi : Option Int) (sl : Addr) (Q : VK), Inv X pins σ H s → RelV x v → s.heap.IsSliceOf sl vl vu .none → IsPart vl lo → IsPart vu hi → r x lo hi H Q →
    ∃ T id, typeLookup (.type T) "__getitem__" = pure (some (.builtin id)) ∧ s.TypeIs v T ∧ wpAny (model X.prog X.w) X.A (getItem v (.ref sl)) (EP X pins σ Q) X.xe s
def tSl (r : V → Option Int → Option Int → Hp → VK → Prop) (te : TE) (tl th : TO) : TE := fun σ H Q => te σ H fun x H1 => tl σ H1 fun l H2 => th σ H2 fun u H3 => r x l u H3 Q
theorem pe_slice {r : V → Option Int → Option Int → Hp → VK → Prop} (hr : SlR X r) (he : PE X e te) (hl : PO X lo tl) (hu : PO X hi th) : PE X (.Subscript e (.Slice lo hi none p2) pos) (tSl r te tl th) := by
  intro pins s σ H Q I h
  refine Subscript_ (thn (he pins s σ H _ I h) fun v s1 ⟨x, H1, I1, r1, q1⟩ => ?_)
  refine wpAny_Slice (thn (hl pins s1 σ H1 _ I1 q1) fun vl s2 ⟨l, H2, I2, pl, q2⟩ => thn (hu pins s2 σ H2 _ I2 q2) fun vu s3 ⟨u, H3, I3, pu, q3⟩ => ?_)
  rw [evalPart_none]
  refine wpAny_pure ?_
  have I4 : Inv X pins σ H3 { s3 with heap := s3.heap.push { cls := .type "slice", data := .fields #[vl, vu, .none] } } := I3.kept (t' := s3.toks) fun b ob q => Heap.get?_push_of_some _ q
  obtain ⟨T, id, hT, ht, hg⟩ := hr pins { s3 with heap := s3.heap.push { cls := .type "slice", data := .fields #[vl, vu, .none] } } σ H3 x v vl vu l u s3.heap.objs.size Q I4 r1 (Heap.IsSliceOf.new ..) pl pu q3
  show wpAny (model X.prog X.w) X.A (subscriptTail e (.Slice lo hi none p2) v (.ref s3.heap.objs.size)) (EP X pins σ Q) X.xe { s3 with heap := s3.heap.push { cls := .type "slice", data := .fields #[vl, vu, .none] } }
  exact tail_any (ops := [.ref s3.heap.objs.size, v]) ht hT hg (by with_unfolding_all rfl)
def cutV (xs : List V) (lo hi : Option Int) : List V := (xs.drop (HT.sIx xs.length 0 lo)).take (HT.sIx xs.length xs.length hi - HT.sIx xs.length 0 lo)
theorem cutV_length (xs : List V) (lo hi : Option Int) : (cutV xs lo hi).length ≤ xs.length := by
  unfold cutV
  rw [List.length_take, List.length_drop]
  omega
end
end L2
namespace L2
open PySem PySem.Spec PyProof.Rows
def ixN (n : Nat) (i : Int) : Option Nat := if 0 ≤ i then (if i < n then some i.toNat else none) else if -(n : Int) ≤ i then some (i + n).toNat else none
def atI {α : Type} (xs : List α) (i : Int) : Option α := (ixN xs.length i).bind fun j => xs[j]?
theorem ixN_seq {n : Nat} {i : Int} {j : Nat} (h : ixN n i = some j) : seqIndex? i n = some j ∧ j < n ∧ -(n : Int) ≤ i ∧ i < n := by
  unfold ixN at h
  by_cases h0 : 0 ≤ i
  · rw [if_pos h0] at h
    by_cases h1 : i < n
    · rw [if_pos h1] at h
      have e : i.toNat = j := Option.some.inj h
      exact ⟨by rw [seqIndex_of h0 h1, e], by omega, by omega, h1⟩
    · rw [if_neg h1] at h; cases h
  · rw [if_neg h0] at h
    by_cases h1 : -(n : Int) ≤ i
    · rw [if_pos h1] at h
      have e : (i + n).toNat = j := Option.some.inj h
      exact ⟨by rw [seqIndex_neg (by omega) h1, e], by omega, h1, by omega⟩
    · rw [if_neg h1] at h; cases h
theorem atI_get {α : Type} {xs : List α} {i : Int} {v : α} (h : atI xs i = some v) : ∃ j, seqIndex? i xs.length = some j ∧ xs[j]? = some v ∧ j < xs.length ∧ -(xs.length : Int) ≤ i ∧ i < xs.length := by
  unfold atI at h
  cases e : ixN xs.length i with
  | none => rw [e] at h; cases h
  | some j =>
    rw [e] at h
    obtain ⟨h1, h2, h3, h4⟩ := ixN_seq e
    exact ⟨j, h1, h, h2, h3, h4⟩
theorem atI_nat {α : Type} {xs : List α} {j : Nat} {v : α} (h : xs[j]? = some v) : atI xs (j : Int) = some v := by
  have hj : j < xs.length := (List.getElem?_eq_some_iff.mp h).1
  have e : ixN xs.length (j : Int) = some j := by
    unfold ixN
    rw [if_pos (by omega), if_pos (by omega)]; simp
  unfold atI; rw [e]; exact h
def PlainIx (b : Expr) : Prop := ∀ o i, subscripted b false o i = operate [o, i] (getItem o i)
def IxR (X : Cx) (r : R2) : Prop :=
  ∀ (value slice : Expr) (pins : List (Addr × Obj)) (s : Shared) (σ : St) (H : Hp) (x y : V) (v u : Value) (Q : VK), Inv X pins σ H s → RelV x v → RelV y u → r x y H Q →
    subscripted slice false v u = operate [v, u] (getItem v u) → wpAny (model X.prog X.w) X.A (subscriptTail value slice v u) (EP X pins σ Q) X.xe s
def MtR (X : Cx) (id : String) (r : V → List V → Hp → VK → Prop) : Prop :=
  ∀ (pins : List (Addr × Obj)) (s : Shared) (σ : St) (H : Hp) (x : V) (xs : List V) (v : Value) (us : List Value) (Q : VK), Inv X pins σ H s → RelV x v → Vals xs us → r x xs H Q →
    wpAny (model X.prog X.w) X.A (call (.builtin id) (v :: us)) (EP X pins σ Q) X.xe s
section
variable {X : Cx} {a b : Expr} {ta tb : TE} {pos : Pos}
theorem pe_ix {r : R2} (hr : IxR X r) (ha : PE X a ta) (hb : PE X b tb) (hs : PlainIx b) : PE X (.Subscript a b pos) (tOp r ta tb) := by
  intro pins s σ H Q I h
  exact Subscript_ (binT ha hb I h fun v u s2 x y H2 I2 rx ry q => hr a b pins s2 σ H2 x y v u Q I2 rx ry q (hs _ _))
def rIxL (K : PySem.W.Frag) : R2 := fun x y H Q => ∃ p xs i v, x = .ref p ∧ y = .int i ∧ SqL K H p xs ∧ atI xs i = some v ∧ Q v H
def rIxT (K : PySem.W.Frag) : R2 := fun x y H Q => ∃ p xs i v, x = .ref p ∧ y = .int i ∧ SqT K H p xs ∧ atI xs i = some v ∧ Q v H
def rIxS : R2 := fun x y H Q => ∃ z i c, x = .str z ∧ y = .int i ∧ z.length ≤ sizeLine ∧ atI z.cps.toList i = some c ∧ Q (.str ⟨#[c]⟩) H
theorem ix_list : IxR X (rIxL X.K) := by
  intro value slice pins s σ H x y v u Q I rx ry h hs
  obtain ⟨p, xs, i, z, rfl, rfl, hq, he, q⟩ := h
  cases rx
  obtain ⟨t, rfl⟩ := ry
  obtain ⟨its, r, pl, hz⟩ := I.list hq
  obtain ⟨j, h1, h2, h3, h4, h5⟩ := atI_get he
  obtain ⟨w, ew, rw'⟩ := r.get h2
  have hl := r.length
  have hn := line63
  have fin : EP X pins σ Q w s := ⟨z, H, I, rw', q⟩
  by_cases h0 : 0 ≤ i
  · have hj : i.toNat = j := by
      rw [seqIndex_of h0 h5] at h1
      exact Option.some.inj h1
    exact item_listR pl.isList h0 (by omega) (by rw [hj]; simpa using ew) fin hs
  · have hj : (i + (its.toArray.size : Int)).toNat = j := by
      rw [seqIndex_neg (by omega) h4] at h1
      rw [List.size_toArray, ← hl]
      exact Option.some.inj h1
    exact subscriptTail_builtinR (x := w) pl.isList.typeIs slot_list_getitem.lookup
      (wpAny_getItem_list_neg (Q := fun r s' => r = w ∧ EP X pins σ Q r s') pl.isList (by omega) (by rw [List.size_toArray] <;> omega) (by omega) (by rw [hj]; simpa using ew) ⟨rfl, fin⟩) hs
theorem ix_tup : IxR X (rIxT X.K) := by
  intro value slice pins s σ H x y v u Q I rx ry h hs
  obtain ⟨p, xs, i, z, rfl, rfl, hq, he, q⟩ := h
  cases rx
  obtain ⟨t, rfl⟩ := ry
  obtain ⟨its, r, pl, hz⟩ := I.tuple hq
  obtain ⟨j, h1, h2, h3, h4, h5⟩ := atI_get he
  obtain ⟨w, ew, rw'⟩ := r.get h2
  have hl := r.length
  have hn := line63
  have fin : EP X pins σ Q w s := ⟨z, H, I, rw', q⟩
  exact subscriptTail_builtinR (x := w) pl.typeIs slot_tuple_getitem.lookup
    (getItem_tuple (j := j) (Q := fun r s' => r = w ∧ EP X pins σ Q r s') pl (by omega) (by omega) (by rw [List.size_toArray, ← hl]; exact h1) (by simpa using ew) ⟨rfl, fin⟩) hs
theorem ix_str : IxR X rIxS := by
  intro value slice pins s σ H x y v u Q I rx ry h hs
  obtain ⟨z, i, c, rfl, rfl, hz, he, q⟩ := h
  obtain ⟨t, rfl⟩ := rx
  obtain ⟨t', rfl⟩ := ry
  obtain ⟨j, h1, h2, h3, h4, h5⟩ := atI_get he
  have hl : z.cps.toList.length = z.length := by simp [Str.length]
  rw [hl] at h1 h4 h5
  have hn := line63
  exact tail_any (typeIs_str s z t) slot_str_getitem.lookup (getItem_str (c := c) (by
    have e1 : decide (i < -(2 ^ 63 : Int)) = false := decide_eq_false (by omega)
    have e2 : decide (i ≥ 2 ^ 63) = false := decide_eq_false (by omega)
    rw [e1, e2, Bool.or_false]) (by rw [h1]; simpa using h2) ⟨.str ⟨#[c]⟩, H, I.tok _, ⟨_, rfl⟩, q⟩) hs
theorem Inv.lst {pins : List (Addr × Obj)} {σ : St} {H : Hp} {s : Shared} {p : Addr} {xs : List V} (I : Inv X pins σ H s) (h : H p = some (.lst xs)) :
    ∃ (its : List Value) (n : Nat), Vals xs its ∧ s.heap.get? p = some { cls := .type "list", data := .seq its.toArray n } ∧ xs.length ≤ sizeLine := by
  obtain ⟨z, its, n, r, e⟩ := I.hok p _ h
  exact ⟨its, n, r, e, z⟩
theorem slice_bounds (lo hi : Option Int) (n : Nat) : (sliceBounds lo hi none n).1 = ((HT.sIx n 0 lo : Nat) : Int) ∧ (sliceBounds lo hi none n).2.1 = ((HT.sIx n n hi : Nat) : Int) ∧ (sliceBounds lo hi none n).2.2 = 1 := by
  refine ⟨?_, ?_, rfl⟩
  · cases lo with
    | none => simp [sliceBounds, HT.sIx]
    | some i =>
      simp only [sliceBounds, HT.sIx, Option.getD_none, show (1 : Int) > 0 by decide, if_true]
      by_cases h : i < 0
      · simp only [h, if_true] <;> omega
      · simp only [h, if_false] <;> omega
  · cases hi with
    | none => simp [sliceBounds, HT.sIx]
    | some i =>
      simp only [sliceBounds, HT.sIx, Option.getD_none, show (1 : Int) > 0 by decide, if_true]
      by_cases h : i < 0
      · simp only [h, if_true] <;> omega
      · simp only [h, if_false] <;> omega
theorem slicePick_cut (its : List Value) (lo hi : Option Int) : slicePick its.toArray lo hi none = ((its.drop (HT.sIx its.length 0 lo)).take (HT.sIx its.length its.length hi - HT.sIx its.length 0 lo)).toArray := by
  obtain ⟨h1, h2, h3⟩ := slice_bounds lo hi its.toArray.size
  unfold slicePick
  rw [h1, h2, h3]
  simp only [sliceRange_one, pick_run, List.size_toArray] <;> rfl
def rSlL (K : PySem.W.Frag) : V → Option Int → Option Int → Hp → VK → Prop := fun x lo hi H Q => ∃ a xs, x = .ref a ∧ SqL K H a xs ∧ ∀ p, H p = none → Q (.ref p) (upd H p (.lst (cutV xs lo hi)))
theorem sl_list : SlR X (rSlL X.K) := by
  intro pins s σ H x v vl vu lo hi sl Q I rx hs pl pu h
  obtain ⟨a, xs, rfl, hx, q⟩ := h
  cases rx
  obtain ⟨its, r, ht, hz⟩ := I.list hx
  have hlen := r.length
  refine ⟨"list", _, slot_list_getitem.lookup, ht.isList.typeIs, ?_⟩
  refine wpAny_getItem_list_slice ht.isList hs pl pu .none (by simp) ?_ (by rw [List.size_toArray] <;> omega)
  rw [slicePick_cut, ← hlen]
  refine ⟨.ref s.heap.objs.size, _, I.laid (t' := s.toks) (o := .lst (cutV xs lo hi)) (fun b ob q => Heap.get?_push_of_some _ q) (Nat.le_refl _) ?_, rfl, q _ (I.hok.fresh (Nat.le_refl _))⟩
  exact ⟨Nat.le_trans (cutV_length xs lo hi) hz, _, 0, (r.drop (HT.sIx xs.length 0 lo)).take (HT.sIx xs.length xs.length hi - HT.sIx xs.length 0 lo), Heap.get?_push_size _ rfl⟩
theorem call_list_of : CallR X (.type "list") (fun xs H Q => ∃ p ys, xs = [.ref p] ∧ (SqL X.K H p ys ∨ SqT X.K H p ys) ∧ ∀ l, H l = none → Q (.ref l) (upd H l (.lst ys))) := by
  intro pins s σ H xs us Q I r h
  obtain ⟨p, ys, rfl, hq, q⟩ := h
  obtain ⟨u, rfl, rx⟩ := vals1 r
  cases rx
  have fin : ∀ (its : List Value), Vals ys its → ys.length ≤ sizeLine → ∀ (h' : Heap) (c' : Nat), (∀ b o', s.heap.get? b = some o' → h'.get? b = some o') →
      h'.get? s.heap.objs.size = some { cls := .type "list", dict := none, data := .seq its.toArray c', slots := #[] } → EP X pins σ Q (.ref s.heap.objs.size) { s with heap := h' } := fun its r' hz h' c' kp e =>
    ⟨.ref s.heap.objs.size, _, I.laid (t' := s.toks) kp (Nat.le_refl _) (show ObjOk X.prog X.w _ h' _ (.lst ys) from ⟨hz, its, c', r', e⟩), rfl, q _ (I.hok.fresh (Nat.le_refl _))⟩
  rcases hq with hq | hq
  · obtain ⟨its, r', pl, hz⟩ := I.list hq
    have hlen := r'.length
    obtain ⟨o, ho, hc, n, hd⟩ := pl.isList
    exact call_list_seq p (.inl rfl) ho hc hd (fun h' c' kp e => fin its r' hz h' c' kp e) (by simp only [List.size_toArray] <;> omega)
  · obtain ⟨its, r', pl, hz⟩ := I.tuple hq
    have hlen := r'.length
    obtain ⟨o, ho, hc, n, hd⟩ := pl
    exact call_list_seq p (.inr rfl) ho hc hd (fun h' c' kp e => fin its r' hz h' c' kp e) (by simp only [List.size_toArray] <;> omega)
theorem call_tuple_of : CallR X (.type "tuple") (fun xs H Q => ∃ p ys, xs = [.ref p] ∧ ((SqL X.K H p ys ∧ ∀ l, H l = none → Q (.ref l) (upd H l (.tup ys))) ∨ (SqT X.K H p ys ∧ Q (.ref p) H))) := by
  intro pins s σ H xs us Q I r h
  obtain ⟨p, ys, rfl, h⟩ := h
  obtain ⟨u, rfl, rx⟩ := vals1 r
  cases rx
  rcases h with ⟨hq, q⟩ | ⟨hq, q⟩
  · obtain ⟨its, r', pl, hz⟩ := I.list hq
    have hlen := r'.length
    refine call_tuple_list pl.isList (fun h' kp => ?_) (by simp only [List.size_toArray] <;> omega)
    have I1 : Inv X pins σ H { s with heap := h' } := I.kept (t' := s.toks) kp
    have I2 : Inv X pins σ (upd H h'.objs.size (.tup ys)) { s with heap := h'.push { cls := .type "tuple", data := .seq its.toArray } } :=
      I1.laid (t' := s.toks) (fun b o e => Heap.get?_push_of_some _ e) (Nat.le_refl _) (show ObjOk X.prog X.w _ _ _ (.tup ys) from ⟨hz, its, r', IsTup.new _ _⟩)
    exact ⟨.ref h'.objs.size, _, I2, rfl, q _ (I1.hok.fresh (Nat.le_refl _))⟩
  · obtain ⟨its, r', pl, hz⟩ := I.tuple hq
    exact call_tuple_same pl ⟨.ref p, H, I, rfl, q⟩
def tyV (K : PySem.W.Frag) (T : String) (x : V) (H : Hp) : Prop := match x with
  | .str _ => T = "str"
  | .int _ => T = "int"
  | .ref p => (T = "list" ∧ ∃ xs, SqL K H p xs) ∨ (T = "tuple" ∧ ∃ o, K.lookup p = some o ∧ o.cls = .type "tuple" ∧ o.dict = none) ∨
      (T = "dict" ∧ ((∃ kvs, H p = some (.dK kvs)) ∨ ∃ kvs, H p = some (.dT kvs))) ∨ (T = "set" ∧ ∃ S n, H p = some (.set S n))
  | _ => False
theorem tyV_is {pins : List (Addr × Obj)} {σ : St} {H : Hp} {s : Shared} {T : String} {x : V} {v : Value} (I : Inv X pins σ H s) (r : RelV x v) (ty : tyV X.K T x H) :
    s.TypeIs v T ∧ ∀ a, v = .ref a → ∃ ob, s.heap.get? a = some ob ∧ ob.dict = none := by
  cases x with
  | str z =>
    obtain ⟨t, rfl⟩ := r
    cases (show T = "str" from ty)
    exact ⟨typeIs_str s z t, fun _ e => nomatch e⟩
  | int i =>
    obtain ⟨t, rfl⟩ := r
    cases (show T = "int" from ty)
    exact ⟨typeIs_int s i t, fun _ e => nomatch e⟩
  | ref p =>
    cases r
    rcases ty with ⟨rfl, xs, hq⟩ | ⟨rfl, o, hk, hc, hd⟩ | ⟨rfl, hk⟩ | ⟨rfl, S, n, hk⟩
    · obtain ⟨its, _, pl, _⟩ := I.list hq
      refine ⟨pl.isList.typeIs, fun a e => ?_⟩
      cases e
      obtain ⟨o, n, e, c, hd, _⟩ := pl
      exact ⟨o, e, hd⟩
    · refine ⟨⟨o, I.kIn p o hk, hc⟩, fun a e => ?_⟩
      cases e
      exact ⟨o, I.kIn _ o hk, hd⟩
    · have z : ∃ o, s.heap.get? p = some o ∧ o.ExactDict := by
        rcases hk with ⟨kvs, hk⟩ | ⟨kvs, hk⟩
        · obtain ⟨_, _, _, _, o, _, _, e, ex, _⟩ := I.hok p _ hk
          exact ⟨o, e, ex⟩
        · obtain ⟨_, _, _, _, o, _, _, e, ex, _⟩ := I.hok p _ hk
          exact ⟨o, e, ex⟩
      obtain ⟨o, e, ex⟩ := z
      refine ⟨⟨o, e, ex.1⟩, fun a e2 => ?_⟩
      cases e2
      exact ⟨o, e, ex.2.1⟩
    · obtain ⟨o, _, _, _, e, ex, _⟩ := I.hok p _ hk
      refine ⟨⟨o, e, ex.1⟩, fun a e2 => ?_⟩
      cases e2
      exact ⟨o, e, ex.2.1⟩
  | _ => exact False.elim ty
def tBM (K : PySem.W.Frag) (T : String) (r : V → List V → Hp → VK → Prop) (to : TE) (t : TA) : TE := fun σ H Q => to σ H fun x H1 => tyV K T x H1 ∧ t σ H1 fun xs H2 => r x xs H2 Q
variable {o e : Expr} {es : List Expr} {to : TE} {t : TA} {name : Str} {apos cpos : Pos} {T id : String} {r : V → List V → Hp → VK → Prop}
theorem pe_bm (pa : PlainAttrs T) (slot : Slot T name id) (hty : typeOf (.builtin id) = pure (.type "method_descriptor")) (hm : MtR X id r) (ho : PE X o to) (ha : PA X (e :: es) t)
    (hbase : attributeBase o name X.env (eval o X.env) = eval o X.env := by rfl)
    (hfew : ((backTo cpos (starEach (e :: es) X.env)).all (fun x => !x.1) && (backToKw cpos (keywordEach [] X.env)).all (fun x => x.1.isSome)
      && decide ((e :: es).length + ([] : List Keyword).length + (if ([] : List Keyword).isEmpty then 0 else 1) < 30)) = true := by rfl)
    (hline : (apos.endLine == cpos.line) = true := by rfl) (hs : starEach (e :: es) X.env = (false, eval e X.env) :: starEach es X.env := by rfl) (hplain : (backTo cpos (starEach es X.env)).any (·.1) = false := by rfl) :
    PE X (.Call (.Attribute o name apos) (e :: es) [] cpos) (tBM X.K T r to t) := by
  intro pins s σ H Q I h
  refine wpAny_Call_method_late hbase hfew hline rfl (thn (ho pins s σ H _ I h) fun v s1 ⟨x, H1, I1, r1, ty, q1⟩ => ?_)
  obtain ⟨h1, h2⟩ := tyV_is I1 r1 ty
  refine ⟨T, id, pa, slot, hty, h1, h2, ?_⟩
  have hA := ha cpos pins s1 σ H1 _ I1 q1
  rw [hs] at hA ⊢
  refine Calls.callWith_builtin (by show (false || (backTo cpos (starEach es X.env)).any (·.1)) = false; rw [hplain] <;> rfl) (Calls.evalArgs_plain ?_)
  exact thn hA fun us s2 ⟨vs, H2, I2, r2, q2⟩ => hm pins s2 σ H2 x vs v us Q I2 r1 r2 q2
end
end L2
namespace L2
open PySem PySem.Spec PyProof.Rows
def MtM (X : Cx) (id : String) (r : V → List V → Hp → VK → Prop) : Prop :=
  ∀ (pins : List (Addr × Obj)) (s : Shared) (σ : St) (H : Hp) (x : V) (xs : List V) (v : Value) (us : List Value) (Q : VK), Inv X pins σ H s → RelV x v → Vals xs us → r x xs H Q →
    wpAny (model X.prog X.w) X.A (call (.builtin id) (v :: us)) (EP X pins σ Q) X.xe s
theorem Vals.one : ∀ {x : V} {us : List Value}, Vals [x] us → ∃ u, us = [u] ∧ RelV x u
  | _, _, .cons r .nil => ⟨_, rfl, r⟩
theorem Vals.two : ∀ {x y : V} {us : List Value}, Vals [x, y] us → ∃ u v, us = [u, v] ∧ RelV x u ∧ RelV y v
  | _, _, _, .cons r (.cons q .nil) => ⟨_, _, rfl, r, q⟩
theorem Vals.zero : ∀ {us : List Value}, Vals [] us → us = []
  | _, .nil => rfl
theorem Vals.dropLast {xs : List V} {us : List Value} (h : Vals xs us) : Vals xs.dropLast us.dropLast := by
  induction h with
  | nil => exact .nil
  | cons r t ih =>
    cases t with
    | nil => exact .nil
    | cons q t' => exact .cons r ih
theorem Vals.reverse {xs : List V} {us : List Value} (h : Vals xs us) : Vals xs.reverse us.reverse := by
  induction h with
  | nil => exact .nil
  | cons r t ih => rw [List.reverse_cons, List.reverse_cons]; exact Vals.append ih (.cons r .nil)
section
variable {X : Cx} {pins : List (Addr × Obj)} {σ : St} {H : Hp} {s : Shared} {l b : Addr} {xs ys zs : List V}
theorem Inv.lset {its its' : List Value} {n : Nat} {f : Array Value → Array Value} {t' : Nat} (I : Inv X pins σ H s) (hH : H l = some (.lst xs))
    (e : s.heap.get? l = some { cls := .type "list", data := .seq its.toArray n }) (hf : f its.toArray = its'.toArray) (hv : Vals ys its') (hz : ys.length ≤ sizeLine) :
    Inv X pins σ (upd H l (.lst ys)) { s with heap := s.heap.update l (Obj.mapSeq f), toks := t' } := by
  have q := PySem.IsL.update e f
  rw [hf] at q
  refine I.write (x := l) (e := l) (by rw [hH]; exact trivial) (.inl rfl) (fun b' u hb hu => (Heap.get?_update_other s.heap (Obj.mapSeq f) (Ne.symm hb)).trans hu) ⟨_, q⟩ ?_
  exact ⟨hz, its', _, hv, q⟩
theorem Inv.lnew {its : List Value} {t' : Nat} (I : Inv X pins σ H s) (hv : Vals ys its) (hz : ys.length ≤ sizeLine) :
    Inv X pins σ (upd H s.heap.objs.size (.lst ys)) { s with heap := s.heap.push { cls := .type "list", data := .seq its.toArray }, toks := t' } :=
  I.laid (fun _ _ q => Heap.get?_push_of_some _ q) (Nat.le_refl _) ⟨hz, its, 0, hv, Heap.get?_push_size _ rfl⟩
theorem Inv.fresh (I : Inv X pins σ H s) : H s.heap.objs.size = none := I.hok.fresh (Nat.le_refl _)
theorem Inv.lstM (I : Inv X pins σ H s) (hH : H l = some (.lst xs)) : xs.length ≤ sizeLine ∧ ∃ (its : List Value) (n : Nat), Vals xs its ∧ xs.length = its.length ∧ s.heap.get? l = some { cls := .type "list", data := .seq its.toArray n } := by
  obtain ⟨z, its, n, r, e⟩ := I.hok l _ hH
  exact ⟨z, its, n, r, r.length, e⟩
theorem notLongL {n : Nat} (h : n ≤ sizeLine) : Builtin.List.listTooLong n = false := by
  unfold Builtin.List.listTooLong
  exact decide_eq_false (by omega)
end
section
variable {X : Cx}
def rAppend : V → List V → Hp → VK → Prop := fun x vs H Q => ∃ l xs y, x = .ref l ∧ vs = [y] ∧ H l = some (.lst xs) ∧ xs.length < sizeLine ∧ Q .non (upd H l (.lst (xs ++ [y])))
theorem mt_append : MtM X "list.append" rAppend := by
  intro pins s σ H x vs v us Q I rx rv h
  obtain ⟨l, xs, y, rfl, rfl, hH, hz, q⟩ := h
  cases rx
  obtain ⟨u, rfl, ru⟩ := rv.one
  obtain ⟨z, its, n, r, hl, e⟩ := I.lstM hH
  refine call_meets F.slot_list_append ⟨_, e, rfl⟩ F.entry_list_append (F.args_list_append_2 _ _) (PySem.list_append l its.toArray n u (by rw [List.size_toArray]; omega)) ⟨e, ?_⟩
  refine ⟨.non, _, I.lset (its' := its ++ [u]) hH e (by simp) (r.append (.cons ru .nil)) ?_, rfl, q⟩
  rw [List.length_append, List.length_singleton]
  omega
def rExtend : V → List V → Hp → VK → Prop := fun x vs H Q => ∃ l b xs zs, x = .ref l ∧ vs = [.ref b] ∧ H l = some (.lst xs) ∧ H b = some (.lst zs) ∧ xs.length + zs.length ≤ sizeLine ∧ Q .non (upd H l (.lst (xs ++ zs)))
theorem mt_extend : MtM X "list.extend" rExtend := by
  intro pins s σ H x vs v us Q I rx rv h
  obtain ⟨l, b, xs, zs, rfl, rfl, hH, hB, hz, q⟩ := h
  cases rx
  obtain ⟨u, rfl, ru⟩ := rv.one
  cases ru
  obtain ⟨z, its, n, r, hl, e⟩ := I.lstM hH
  obtain ⟨z2, its2, n2, r2, hl2, e2⟩ := I.lstM hB
  have hsz : its.toArray.size + its2.toArray.size ≤ sizeLine := by rw [List.size_toArray, List.size_toArray]; omega
  have hlong : ¬ (!its.toArray.isEmpty && Builtin.List.listTooLong (its.toArray.size + its2.toArray.size)) = true := by
    rw [notLongL hsz, Bool.and_false]
    exact Bool.false_ne_true
  refine call_meets F.slot_list_extend ⟨_, e, rfl⟩ F.entry_list_extend (F.args_list_extend_2 _ _)
    (AutoSeq1.list_extend_list_list_0 l its.toArray n b its2.toArray n2 hlong (by rw [List.size_toArray]; omega) (by omega)) ⟨e, e2, ?_⟩
  refine ⟨.non, _, I.lset (its' := its ++ its2) hH e (by simp) (r.append r2) ?_, rfl, q⟩
  rw [List.length_append]
  omega
def rCat : R2 := fun x y H Q => ∃ l b xs zs, x = .ref l ∧ y = .ref b ∧ H l = some (.lst xs) ∧ H b = some (.lst zs) ∧ xs.length + zs.length ≤ sizeLine ∧ ∀ p, H p = none → Q (.ref p) (upd H p (.lst (xs ++ zs)))
theorem op_cat : OpR X (binaryOp .Add) rCat := by
  intro pins s σ H x y v u Q I rx ry h
  obtain ⟨l, b, xs, zs, rfl, rfl, hH, hB, hz, q⟩ := h
  cases rx
  cases ry
  obtain ⟨z, its, n, r, hl, e⟩ := I.lstM hH
  obtain ⟨z2, its2, n2, r2, hl2, e2⟩ := I.lstM hB
  refine PySem.P.add_list e e2 ?_ (by rw [List.size_toArray, List.size_toArray]; omega)
  have ea : its.toArray ++ its2.toArray = (its ++ its2).toArray := by simp
  rw [ea]
  exact ⟨.ref _, _, I.lnew (t' := s.toks) (r.append r2) (by rw [List.length_append]; omega), rfl, q _ I.fresh⟩
end
section
variable {prog : Program} {w : World} {A : Around} {E : Value → Shared → Prop} {s : Shared}
theorem bounds_run {a c n : Nat} (hac : a ≤ c) (hc : c ≤ n) : sliceBounds (some (a : Int)) (some (c : Int)) none n = ((a : Int), (c : Int), 1) := by
  simp only [sliceBounds, Option.getD_none]
  have h1 : ¬ ((a : Int) < 0) := by omega
  have h2 : ¬ ((c : Int) < 0) := by omega
  simp only [h1, h2, if_false, show (1 : Int) > 0 by decide, if_true]
  congr 1
  · omega
  · congr 1; omega
set_option maxRecDepth 100000 in
theorem setItem_slice {l b sl : Addr} {items new : Array Value} {n n2 : Nat} {vl vu : Value} {a c : Nat} {Q : Unit → Shared → Prop}
    (e : s.heap.get? l = some { cls := .type "list", data := .seq items n }) (e2 : s.heap.get? b = some { cls := .type "list", data := .seq new n2 }) (hne : l ≠ b)
    (hs : s.heap.IsSliceOf sl vl vu .none) (pl : IsPart vl (some (a : Int))) (pu : IsPart vu (some (c : Int))) (hac : a ≤ c) (hc : c ≤ items.size)
    (hsz : items.size + new.size ≤ sizeLine) (h : Q () { s with heap := s.heap.update l (Obj.mapSeq fun xs => xs.extract 0 a ++ new ++ xs.extract c xs.size) }) :
    wpAny (model prog w) A (setItem (.ref l) (.ref sl) (.ref b)) Q E s := by
  have hl : s.heap.IsList l items := PySem.IsL.isList e
  have hb : s.heap.IsList b new := PySem.IsL.isList e2
  obtain ⟨os, hos, hcs, hds⟩ := id hs
  have hTs : s.TypeIs (.ref sl) "slice" := ⟨os, hos, hcs⟩
  have hstep : ¬ ((rawPart none == rawInt 0) = true) := Bool.false_ne_true
  have hsame : Builtin.List.listSameRef (.ref l) (.ref b) = false := by
    unfold Builtin.List.listSameRef
    exact beq_eq_false_iff_ne.mpr hne
  have hmax : (max (a : Int) (c : Int)).toNat = c := by omega
  have hz' : ((fun xs : Array Value => xs.extract 0 a ++ new ++ xs.extract c xs.size) items).size ≤ sizeLine + 1 := by
    simp only [Array.size_append, Array.size_extract]
    omega
  unfold setItem
  try with_reducible refine wpAny_holding ?_
  first | refine wpAny_bind (wpAny_pure ?_) | skip
  refine wpAny_bind (wpAny_sequenceKey hl.typeIs (by decide) ?_)
  refine wpAny_bind (wpAny_callSpecial?_slot (name := Str.ofString "__setitem__") hl.typeIs slot_list_setitem
    (wpAny_call_entry slot_list_setitem hl.typeIs entry_list_setitem ?_ (args_list_setitem _ _ _)))
  show wpAny _ _ (Builtin.List.listSubscript? (.ref sl) >>= _) _ _ s
  refine wpAny_bind ?_
  unfold Builtin.List.listSubscript?
  refine wpAny_bind (wpAny_specialOf hTs slice_no_index ?_)
  simp only [Option.isNone_none, if_true]
  refine wpAny_pure ?_
  show wpAny _ _ (typeOf (.ref sl) >>= _) _ _ s
  refine wpAny_bind (wpAny_typeOf hTs ?_)
  first
    | rw [if_neg (by decide)]
    | refine PySem.W.KFB.if_not (by decide) ?_
  rw [listSliceParts_eq]
  refine wpAny_bind (wpAny_bind (wpAny_field hos hds (x := .none) rfl (wpAny_bind (wpAny_listPart .none ?_))))
  rw [if_neg hstep]
  refine wpAny_bind (wpAny_field hos hds (x := vl) rfl (wpAny_bind (wpAny_listPart pl ?_)))
  refine wpAny_bind (wpAny_field hos hds (x := vu) rfl (wpAny_bind (wpAny_listPart pu (wpAny_pure ?_))))
  first
    | simp only [hsame, Bool.false_eq_true, if_false]
    | refine PySem.W.KFB.if_not hsame ?_
    | (dsimp only
       rw [if_neg (by rw [hsame]; exact Bool.false_ne_true)])
  refine wpAny_bind (m := Builtin.List.listAllItems (.ref b) "must assign iterable to extended slice") ?_
  unfold Builtin.List.listAllItems
  refine wpAny_bind (wpAny_typeOf hb.typeIs ?_)
  first
    | refine PySem.W.KFB.if_so (by decide) ?_
    | rw [if_pos (by decide)]
    | simp only [beq_self_eq_true, Bool.true_or, if_true]
  unfold Builtin.List.listItems
  refine wpAny_bind (wpAny_seqItems e2 rfl (wpAny_pure ?_))
  refine wpAny_bind (wpAny_bind (wpAny_seqItems e rfl (wpAny_pure ?_)))
  refine wpAny_bind (wpAny_of_eq ((sliceIndices_raw (some (a : Int)) (some (c : Int)) none items.size (by simp)).trans (congrArg (pure : Int × Int × Int → Sem (Int × Int × Int)) (bounds_run hac hc))) ?_)
  show wpAny _ _ (if ((1 : Int) == 1) = true then _ else _) _ _ s
  rw [if_pos (by decide)]
  refine wpAny_bind (wpAny_rule ?_)
  first
    | simp only [notLongL hsz, Bool.false_eq_true, if_false]
    | refine PySem.W.KFB.if_not (notLongL hsz) ?_
  first | refine wpAny_bind (wpAny_pure ?_) | skip
  show wpAny _ _ (updateSeq l (fun xs => xs.extract 0 ((a : Int)).toNat ++ new ++ xs.extract (max (a : Int) (c : Int)).toNat xs.size) >>= _) _ _ s
  rw [hmax, Int.toNat_natCast]
  refine wpAny_bind (wpAny_updateSeq (hz := Nat.le_trans (Nat.le_add_right _ _) hsz) (_hz' := hz') e rfl ?_)
  refine wpAny_bind (wpAny_letGo ?_)
  first
    | exact wpAny_bind (wpAny_pure (wpAny_pure ⟨.none, rfl, wpAny_pure h⟩))
    | exact wpAny_pure ⟨.none, rfl, wpAny_pure h⟩
end
section
variable {X : Cx}
end
end L2
namespace L2
open PySem PySem.Spec PyProof.Rows
section
variable {κ : Type} [DecidableEq κ]
def valV (kvs : List (κ × V)) (k : κ) : Option V := (kvs.find? fun kv => decide (kv.1 = k)).map (·.2)
def putK (kvs : List (κ × V)) (k : κ) (v : V) : List (κ × V) :=
  if (kvs.any fun kv => decide (kv.1 = k)) = true then kvs.map (fun kv => if kv.1 = k then (kv.1, v) else kv) else kvs ++ [(k, v)]
def dropK (kvs : List (κ × V)) (k : κ) : List (κ × V) := kvs.filter fun kv => decide (kv.1 ≠ k)
theorem valV_nil {k : κ} : valV ([] : List (κ × V)) k = none := rfl
theorem valV_pos {p : κ × V} {r : List (κ × V)} {k : κ} (e : p.1 = k) : valV (p :: r) k = some p.2 := by simp [valV, List.find?_cons, e]
theorem valV_neg {p : κ × V} {r : List (κ × V)} {k : κ} (e : ¬ p.1 = k) : valV (p :: r) k = valV r k := by simp [valV, List.find?_cons, e]
theorem valV_any (k : κ) : ∀ kvs : List (κ × V), (kvs.any fun kv => decide (kv.1 = k)) = (valV kvs k).isSome
  | [] => rfl
  | p :: r => by
    rw [List.any_cons]
    by_cases e : p.1 = k
    · simp only [valV_pos e, decide_eq_true e, Bool.true_or, Option.isSome_some]
    · rw [valV_neg e, decide_eq_false e, Bool.false_or]; exact valV_any k r
theorem valV_map (k j : κ) (y : V) : ∀ kvs : List (κ × V), valV (kvs.map fun kv => if kv.1 = k then (kv.1, y) else kv) j = (valV kvs j).map fun x => if j = k then y else x
  | [] => rfl
  | p :: r => by
    have ih := valV_map k j y r
    rw [List.map_cons]
    by_cases h : p.1 = k
    · rw [if_pos h]
      by_cases e : p.1 = j
      · rw [valV_pos (p := (p.1, y)) e, valV_pos e, Option.map_some, if_pos (e.symm.trans h)]
      · rw [valV_neg (p := (p.1, y)) e, valV_neg e, ih]
    · rw [if_neg h]
      by_cases e : p.1 = j
      · rw [valV_pos (p := p) e, valV_pos e, Option.map_some, if_neg (fun z => h (e.trans z))]
      · rw [valV_neg (p := p) e, valV_neg e, ih]
theorem valV_snoc (k j : κ) (y : V) : ∀ kvs : List (κ × V), valV kvs k = none → valV (kvs ++ [(k, y)]) j = if j = k then some y else valV kvs j
  | [], _ => by
    by_cases e : k = j
    · rw [if_pos e.symm]; exact valV_pos (p := (k, y)) e
    · rw [if_neg (fun z => e z.symm)]; exact valV_neg (p := (k, y)) e
  | p :: r, hn => by
    rw [List.cons_append]
    have hk : ¬ p.1 = k := fun z => by rw [valV_pos z] at hn; cases hn
    rw [valV_neg hk] at hn
    have ih := valV_snoc k j y r hn
    by_cases e : p.1 = j
    · rw [valV_pos e, valV_pos e, if_neg (fun z => hk (e.trans z))]
    · rw [valV_neg e, valV_neg e, ih]
theorem valV_put (kvs : List (κ × V)) (k j : κ) (y : V) : valV (putK kvs k y) j = if j = k then some y else valV kvs j := by
  unfold putK
  by_cases a : (kvs.any fun kv => decide (kv.1 = k)) = true
  · rw [if_pos a, valV_map]
    rw [valV_any] at a
    by_cases e : j = k
    · obtain ⟨x, hx⟩ := Option.isSome_iff_exists.mp a
      rw [if_pos e, e, hx, Option.map_some, if_pos rfl]
    · rw [if_neg e]
      cases valV kvs j with
      | none => rfl
      | some x => rw [Option.map_some, if_neg e]
  · rw [if_neg a]
    refine valV_snoc k j y kvs ?_
    rw [valV_any] at a
    cases q : valV kvs k with
    | none => rfl
    | some x => rw [q] at a; exact (a rfl).elim
theorem length_putK (kvs : List (κ × V)) (k : κ) (v : V) : (putK kvs k v).length ≤ kvs.length + 1 := by
  unfold putK
  split
  · rw [List.length_map]; omega
  · rw [List.length_append, List.length_cons, List.length_nil]; omega
theorem RelO.isSome_eq {o : Option V} {u : Option Value} (r : RelO o u) : o.isSome = u.isSome := by
  cases o with
  | none => cases u with
    | none => rfl
    | some _ => exact (show False from r).elim
  | some _ => cases u with
    | none => exact (show False from r).elim
    | some _ => rfl
theorem RelO.getD {o : Option V} {u : Option Value} {d : V} {d' : Value} (r : RelO o u) (rd : RelV d d') : RelV (o.getD d) (u.getD d') := by
  cases o with
  | none => cases u with
    | none => exact rd
    | some _ => exact (show False from r).elim
  | some _ => cases u with
    | none => exact (show False from r).elim
    | some _ => exact r
theorem KV.val {kvs : List (κ × V)} {vs : List (κ × Value)} (r : KV kvs vs) (k : κ) : RelO (valV kvs k) (valueAt vs k) := by
  unfold KV at r
  induction r with
  | nil => exact True.intro
  | @cons p q ps qs h t ih =>
    obtain ⟨h1, h2⟩ := h
    by_cases e : p.1 = k
    · have e' : q.1 = k := h1.symm.trans e
      have b : valueAt (q :: qs) k = some q.2 := by simp [valueAt, List.find?_cons, e']
      rw [valV_pos e, b]; exact h2
    · have e' : ¬ q.1 = k := fun z => e (h1.trans z)
      have b : valueAt (q :: qs) k = valueAt qs k := by simp [valueAt, List.find?_cons, e']
      rw [valV_neg e, b]; exact ih
theorem KV.any {kvs : List (κ × V)} {vs : List (κ × Value)} (r : KV kvs vs) (k : κ) : (kvs.any fun kv => decide (kv.1 = k)) = vs.any fun kv => decide (kv.1 = k) := by
  unfold KV at r
  induction r with
  | nil => rfl
  | cons h t ih => rw [List.any_cons, List.any_cons, ih, h.1]
theorem KV.repl {kvs : List (κ × V)} {vs : List (κ × Value)} (r : KV kvs vs) (k : κ) {y : V} {u : Value} (ry : RelV y u) :
    KV (kvs.map fun kv => if kv.1 = k then (kv.1, y) else kv) (vs.map fun kv => if kv.1 = k then (kv.1, u) else kv) := by
  unfold KV at r ⊢
  induction r with
  | nil => exact .nil
  | @cons p q ps qs h t ih =>
    rw [List.map_cons, List.map_cons]
    refine .cons ?_ ih
    obtain ⟨h1, h2⟩ := h
    by_cases e : p.1 = k
    · rw [if_pos e, if_pos (h1.symm.trans e)]; exact ⟨h1, ry⟩
    · rw [if_neg e, if_neg (fun z => e (h1.trans z))]; exact ⟨h1, h2⟩
theorem KV.put {kvs : List (κ × V)} {vs : List (κ × Value)} (r : KV kvs vs) (k : κ) {y : V} {u : Value} (ry : RelV y u) : KV (putK kvs k y) (stored vs k u) := by
  unfold putK stored
  rw [r.any k]
  by_cases e : (vs.any fun kv => decide (kv.1 = k)) = true
  · rw [if_pos e, if_pos e]; exact r.repl k ry
  · rw [if_neg e, if_neg e]; exact Paired.snoc r ⟨rfl, ry⟩
theorem KV.drop {kvs : List (κ × V)} {vs : List (κ × Value)} (r : KV kvs vs) (k : κ) : KV (dropK kvs k) (without vs k) := by
  unfold KV at r ⊢
  unfold dropK without
  induction r with
  | nil => exact .nil
  | @cons p q ps qs h t ih =>
    obtain ⟨h1, h2⟩ := h
    rw [List.filter_cons, List.filter_cons]
    by_cases e : p.1 = k
    · have a : ¬ decide (p.1 ≠ k) = true := by simp [e]
      have b : ¬ decide (q.1 ≠ k) = true := by simp [h1.symm.trans e]
      rw [if_neg a, if_neg b]; exact ih
    · have e' : ¬ q.1 = k := fun z => e (h1.trans z)
      have a : decide (p.1 ≠ k) = true := by simp [e]
      have b : decide (q.1 ≠ k) = true := by simp [e']
      rw [if_pos a, if_pos b]; exact .cons ⟨h1, h2⟩ ih
theorem KV.keys {kvs : List (κ × V)} {vs : List (κ × Value)} (r : KV kvs vs) : kvs.map (·.1) = vs.map (·.1) := by
  unfold KV at r
  induction r with
  | nil => rfl
  | cons h t ih => rw [List.map_cons, List.map_cons, ih, h.1]
theorem KV.length {kvs : List (κ × V)} {vs : List (κ × Value)} (r : KV kvs vs) : kvs.length = vs.length := Paired.length r
end
theorem kV_is {P : Program} {w : World} {k : Key} {u : Value} (r : RelV (kV k) u) : (mixKind P w).is k u = true := by
  cases k with
  | inl i => obtain ⟨t, e⟩ := (show ∃ t, u = Value.int i t from r); subst e; exact mixKind_int P w i t
  | inr x => obtain ⟨t, e⟩ := (show ∃ t, u = Value.str x t from r); subst e; exact mixKind_str P w x t
theorem items_are {P : Program} {w : World} : ∀ {ks : List Key} {us : List Value}, Vals (ks.map kV) us → ItemsAre (mixKind P w) ks us
  | [], _, r => by rw [List.map_nil] at r; cases r; exact .nil
  | k :: ks, _, r => by
    rw [List.map_cons] at r
    cases r with
    | cons h t => exact .cons (kV_is h) (items_are t)
abbrev KT (H : Hp) : List (List Key × V) → List (List Key × Addr × Value) → Prop := Paired fun p q => p.1 = q.1 ∧ H q.2.1 = some (.tup (p.1.map kV)) ∧ RelV p.2 q.2.2
theorem KT.val {H : Hp} {kvs : List (List Key × V)} {xs : List (List Key × Addr × Value)} (r : KT H kvs xs) (k : List Key) : RelO (valV kvs k) ((atKey xs k).map (·.2)) := by
  induction r with
  | nil => exact True.intro
  | @cons p q ps qs h t ih =>
    obtain ⟨h1, _, h2⟩ := h
    by_cases e : p.1 = k
    · have e' : q.1 = k := h1.symm.trans e
      have b : atKey (q :: qs) k = some q.2 := by simp [atKey, List.find?_cons, e']
      rw [valV_pos e, b]; exact h2
    · have e' : ¬ q.1 = k := fun z => e (h1.trans z)
      have b : atKey (q :: qs) k = atKey qs k := by simp [atKey, List.find?_cons, e']
      rw [valV_neg e, b]; exact ih
theorem KT.repl {H : Hp} {kvs : List (List Key × V)} {xs : List (List Key × Addr × Value)} (r : KT H kvs xs) (k : List Key) {y : V} {u : Value} (ry : RelV y u) :
    KT H (kvs.map fun kv => if kv.1 = k then (kv.1, y) else kv) (xs.map (putAt k u)) := by
  induction r with
  | nil => exact .nil
  | @cons p q ps qs h t ih =>
    rw [List.map_cons, List.map_cons]
    refine .cons ?_ ih
    obtain ⟨h1, h2, h3⟩ := h
    unfold putAt
    by_cases e : p.1 = k
    · rw [if_pos e, if_pos (h1.symm.trans e)]; exact ⟨h1, h2, ry⟩
    · rw [if_neg e, if_neg (fun z => e (h1.trans z))]; exact ⟨h1, h2, h3⟩
theorem KT.put {H : Hp} {kvs : List (List Key × V)} {xs : List (List Key × Addr × Value)} (r : KT H kvs xs) (k : List Key) {b : Addr} {y : V} {u : Value} (hb : H b = some (.tup (k.map kV))) (ry : RelV y u) :
    KT H (putK kvs k y) (storedH xs k b u) := by
  have e : (kvs.any fun kv => decide (kv.1 = k)) = (atKey xs k).isSome := by
    rw [valV_any, (r.val k).isSome_eq, Option.isSome_map]
  unfold putK storedH
  rw [e]
  by_cases q : (atKey xs k).isSome = true
  · rw [if_pos q, if_pos q]; exact r.repl k ry
  · rw [if_neg q, if_neg q]; exact Paired.snoc r ⟨rfl, hb, ry⟩
theorem KT.keeps {H H' : Hp} {kvs : List (List Key × V)} {xs : List (List Key × Addr × Value)} (r : KT H kvs xs) (ht : ∀ b ys, H b = some (.tup ys) → H' b = some (.tup ys)) : KT H' kvs xs :=
  Paired.mapP r fun _ _ z => ⟨z.1, ht _ _ z.2.1, z.2.2⟩
section
variable {P : Program} {w : World} {H : Hp} {h : Heap} {a : Addr}
theorem rd_of {u : HO} (ok : HOk P w H h) (e : Rd H a u) : ObjOk P w H h a u := e.ok ok
theorem dk_rd {kvs : List (Key × V)} (ok : HOk P w H h) (e : Rd H a (.dK kvs)) : kvs.length ≤ sizeLine ∧ (a == sysModules) = false ∧ ∃ vs, KV kvs vs ∧ h.DictOf (mixKind P w) a vs :=
  show ObjOk P w H h a (.dK kvs) from rd_of ok e
theorem dk_of {kvs : List (Key × V)} (ok : HOk P w H h) (e : H a = some (.dK kvs)) : kvs.length ≤ sizeLine ∧ (a == sysModules) = false ∧ ∃ vs, KV kvs vs ∧ h.DictOf (mixKind P w) a vs := dk_rd ok (.inl e)
theorem key_of {ks : List Key} (ok : HOk P w H h) (e : H a = some (.tup (ks.map kV))) : (tupleKind (mixKind P w)).is h ks a := by
  obtain ⟨_, its, r, o, h1, h2, n, h3⟩ := (show ObjOk P w H h a (.tup (ks.map kV)) from ok a _ e)
  exact ⟨o, its.toArray, n, h1, h2, h3, by simpa using items_are r⟩
theorem dt_rd {kvs : List (List Key × V)} (ok : HOk P w H h) (e : Rd H a (.dT kvs)) : kvs.length ≤ sizeLine ∧ (a == sysModules) = false ∧
    ∃ xs, KT H kvs xs ∧ h.DictOfH (tupleKind (mixKind P w)) a xs := by
  obtain ⟨z, y, xs, r, o, es, ep, h1, h2, h3, h4, h5⟩ := (show ObjOk P w H h a (.dT kvs) from rd_of ok e)
  refine ⟨z, y, xs, r, o, es, ep, h1, h2, h3, h4, fun x hx => ?_, h5⟩
  have all : ∀ {l : List (List Key × V)} {m : List (List Key × Addr × Value)}, KT H l m → ∀ x ∈ m, (tupleKind (mixKind P w)).is h x.1 x.2.1 := by
    intro l m q
    induction q with
    | nil => intro x hx; exact nomatch hx
    | @cons p q ps qs hq t ih =>
      intro x hx
      rcases List.mem_cons.mp hx with e | hx
      · subst e
        exact key_of ok (by rw [← hq.1]; exact hq.2.1)
      · exact ih x hx
  exact all r x hx
theorem dt_of {kvs : List (List Key × V)} (ok : HOk P w H h) (e : H a = some (.dT kvs)) : kvs.length ≤ sizeLine ∧ (a == sysModules) = false ∧
    ∃ xs, KT H kvs xs ∧ h.DictOfH (tupleKind (mixKind P w)) a xs := dt_rd ok (.inl e)
end
def DGet (H : Hp) (a : Addr) (y : V) (r : Option V) : Prop :=
  (∃ kvs k, Rd H a (.dK kvs) ∧ y = kV k ∧ r = valV kvs k) ∨ ∃ kvs k b, Rd H a (.dT kvs) ∧ y = .ref b ∧ H b = some (.tup (k.map kV)) ∧ r = valV kvs k
def DPut (H : Hp) (a : Addr) (y v : V) (H' : Hp) : Prop :=
  (∃ kvs k, H a = some (.dK kvs) ∧ y = kV k ∧ kvs.length < sizeLine ∧ H' = upd H a (.dK (putK kvs k v))) ∨
  ∃ kvs k b, H a = some (.dT kvs) ∧ y = .ref b ∧ H b = some (.tup (k.map kV)) ∧ kvs.length < sizeLine ∧ H' = upd H a (.dT (putK kvs k v))
theorem DGet.k {H : Hp} {a : Addr} {kvs : List (Key × V)} {k : Key} (e : H a = some (.dK kvs)) : DGet H a (kV k) (valV kvs k) := .inl ⟨kvs, k, .inl e, rfl, rfl⟩
theorem DGet.t {H : Hp} {a b : Addr} {kvs : List (List Key × V)} {k : List Key} (e : H a = some (.dT kvs)) (eb : H b = some (.tup (k.map kV))) : DGet H a (.ref b) (valV kvs k) := .inr ⟨kvs, k, b, .inl e, rfl, eb, rfl⟩
theorem DPut.k {H : Hp} {a : Addr} {kvs : List (Key × V)} {k : Key} {v : V} (e : H a = some (.dK kvs)) (hl : kvs.length < sizeLine) : DPut H a (kV k) v (upd H a (.dK (putK kvs k v))) := .inl ⟨kvs, k, e, rfl, hl, rfl⟩
theorem DPut.t {H : Hp} {a b : Addr} {kvs : List (List Key × V)} {k : List Key} {v : V} (e : H a = some (.dT kvs)) (eb : H b = some (.tup (k.map kV))) (hl : kvs.length < sizeLine) :
    DPut H a (.ref b) v (upd H a (.dT (putK kvs k v))) := .inr ⟨kvs, k, b, e, rfl, eb, hl, rfl⟩
section
variable {X : Cx} {pins : List (Addr × Obj)} {σ : St} {H : Hp} {s : Shared} {a : Addr} {y v : V} {u r : Value} {o : Option V} {A : Around} {E : Value → Shared → Prop}
theorem Inv.big (I : Inv X pins σ H s) : sysModules < s.heap.objs.size := by
  have h : mainGlobals < s.heap.objs.size := (I.mod.glob.keeps I.bk).lt
  exact Nat.lt_trans (by decide) h
theorem d_in {Q : Value → Shared → Prop} (hu : A.units + 1 < cLine) (I : Inv X pins σ H s) (g : DGet H a y o) (ry : RelV y u) (h : ∀ s', Inv X pins σ H s' → Q (.bool o.isSome) s') :
    wpAny (model X.prog X.w) A (compareOp .In u (.ref a)) Q E s := by
  rcases g with ⟨kvs, k, e, ey, l⟩ | ⟨kvs, k, b, e, ey, eb, l⟩
  · subst ey
    obtain ⟨z, hd, vs, rel, dd⟩ := dk_rd I.hok e
    refine wpAny_in_of (kV_is ry) hd dd.mapOf ?_
    rw [← (rel.val k).isSome_eq, ← l]
    exact h _ (I.tok _)
  · subst ey
    cases (show u = Value.ref b from ry)
    obtain ⟨z, hd, xs, rel, dd⟩ := dt_rd I.hok e
    refine wpAny_in_heap (tupleKind_room_in1 hu) (key_of I.hok eb) hd dd ?_
    have q := (rel.val k).isSome_eq
    rw [Option.isSome_map] at q
    rw [← q, ← l]
    exact h _ (I.tok _)
theorem d_write {h' : Heap} {t' : Nat} {ob : HO} (I : Inv X pins σ H s) (mu : Mut (H a)) (hs : Heap.SameBut a s.heap h') (he : ∃ q, h'.get? a = some q) (new : ObjOk X.prog X.w (upd H a ob) h' a ob) :
    Inv X pins σ (upd H a ob) { s with heap := h', toks := t' } :=
  I.write (x := a) (e := a) mu (.inl rfl) (fun b q hb z => (hs.2 b hb).trans z) he new
theorem dk_new {P : Program} {w : World} {H' : Hp} {h' : Heap} {kvs : List (Key × V)} {vs : List (Key × Value)} (z : kvs.length ≤ sizeLine) (hd : (a == sysModules) = false) (rel : KV kvs vs) (dd : h'.DictOf (mixKind P w) a vs) :
    ObjOk P w H' h' a (.dK kvs) := ⟨z, hd, vs, rel, dd⟩
theorem d_setItem {H' : Hp} {Q : Unit → Shared → Prop} (hu : A.units + 1 < cLine) (I : Inv X pins σ H s) (g : DPut H a y v H') (ry : RelV y u) (rv : RelV v r) (h : ∀ s', Inv X pins σ H' s' → Q () s') :
    wpAny (model X.prog X.w) A (setItem (.ref a) u r) Q E s := by
  rcases g with ⟨kvs, k, e, ey, l, eH⟩ | ⟨kvs, k, b, e, ey, eb, l, eH⟩
  · subst ey eH
    obtain ⟨z, hd, vs, rel, dd⟩ := dk_of I.hok e
    have hz : vs.length ≤ sizeLine := by rw [← rel.length]; exact z
    have hl : (putK kvs k v).length ≤ sizeLine := by have := length_putK kvs k v; omega
    refine wpAny_setItem_pairs (hsz := hz) (kV_is ry) dd fun h' dd' hs => h _ ?_
    have he : ∃ q, h'.get? a = some q := let ⟨q, _, _, hq, _⟩ := dd'; ⟨q, hq⟩
    exact d_write I (by rw [e]; exact True.intro) hs he (dk_new hl hd (rel.put k rv) dd')
  · subst ey eH
    cases (show u = Value.ref b from ry)
    obtain ⟨z, hd, xs, rel, dd⟩ := dt_of I.hok e
    have hz : xs.length ≤ sizeLine := by rw [← Paired.length rel]; exact z
    have hl : (putK kvs k v).length ≤ sizeLine := by have := length_putK kvs k v; omega
    refine wpAny_setItem_heap (hsz := hz) (tupleKind_room_in1 hu) (key_of I.hok eb) dd fun h' dd' hs => h _ ?_
    obtain ⟨q, es, ep, hq, h2, h3, h4, _, h5⟩ := dd'
    refine d_write I (by rw [e]; exact True.intro) hs ⟨q, hq⟩ ⟨hl, hd, _, (rel.put k eb rv).keeps fun c ys ec => ?_, q, es, ep, hq, h2, h3, h4, h5⟩
    rw [upd_ne (ne_of ec e (fun z => nomatch z))]
    exact ec
end
section
variable {X : Cx} {pins : List (Addr × Obj)} {σ : St} {H : Hp} {s : Shared} {a : Addr} {kvs : List (Key × V)} {k : Key} {u : Value} {A : Around} {E : Value → Shared → Prop}
end
def tDIn (ty td : TE) : TE := fun σ H Q => ty σ H fun y H1 => td σ H1 fun x H2 => ∃ a o, x = .ref a ∧ DGet H2 a y o ∧ Q (.bl o.isSome) H2
def sDPut (td ty tv : TE) : TS := fun D σ H => tv σ H fun v H1 => td σ H1 fun x H2 => ty σ H2 fun y H3 => ∃ a H4, x = .ref a ∧ DPut H3 a y v H4 ∧ D.nx σ H4
section
variable {X : Cx} {o i e value : Expr} {pos pos' tpos : Pos} {td ty tv : TE}
theorem pc_din (hu : X.A.units + 1 < cLine) (hi : PE X i ty) (ho : PE X o td) : PC X .In i o (tDIn ty td) := by
  intro pins s σ H Q I h
  refine thn (hi pins s σ H _ I h) fun iv s1 ⟨y, H1, I1, ry, q1⟩ => thn (ho pins s1 σ H1 _ I1 q1) fun u s2 ⟨x, H2, I2, rx, a, ov, ex, g, q2⟩ => ?_
  subst ex
  obtain rfl : u = Value.ref a := rx
  exact d_in hu I2 g ry fun s3 I3 => ⟨.bl ov.isSome, H2, I3, rfl, q2⟩
theorem ps_dput (hu : X.A.units + 1 < cLine) (ho : PE X o td) (hi : PE X i ty) (hv : PE X value tv) (hs : swapsWith value (some (.Subscript o i pos')) pos.line X.env = pure false) :
    PS X (.Assign [.Subscript o i pos'] value pos) (sDPut td ty tv) := by
  intro pins s σ H D I h
  refine wpAny_Assign_Subscript (thn (hv pins s σ H _ I h) fun r s1 ⟨v, H1, I1, rv, q1⟩ => thn (ho pins s1 σ H1 _ I1 q1) fun u s2 ⟨x, H2, I2, rx, q2⟩ => thn (hi pins s2 σ H2 _ I2 q2) fun iv s3 ⟨y, H3, I3, ry, a, H4, ex, g, q3⟩ => ?_) hs
  subst ex
  obtain rfl : u = Value.ref a := rx
  exact d_setItem hu I3 g ry rv fun s4 I4 => ⟨σ, H4, I4, q3⟩
end
theorem dt_empty {P : Program} {w : World} {H : Hp} (h : Heap) (hb : sysModules < h.objs.size) : ObjOk P w H (h.push { cls := .type "dict", data := .dict #[] }) h.objs.size (.dT []) :=
  ⟨Nat.zero_le _, beq_eq_false_iff_ne.mpr (Ne.symm (Nat.ne_of_lt hb)), [], .nil, _, #[], 0, Heap.get?_push_size _ rfl, ⟨rfl, rfl, rfl⟩, rfl, rfl, List.nodup_nil⟩
def tDNewT : TE := fun _ H Q => ∀ p, H p = none → Q (.ref p) (upd H p (.dT []))
section
variable {X : Cx} {pos : Pos}
theorem pe_dnewT : PE X (.Dict [] [] pos) tDNewT := fun pins s σ H Q I h =>
  wpAny_Dict_empty ⟨.ref s.heap.objs.size, _, I.laid (a := s.heap.objs.size) (o := .dT []) (t' := s.toks) (fun _ _ q => Heap.get?_push_of_some _ q) (Nat.le_refl _) (dt_empty s.heap I.big), rfl, h _ (I.hok.fresh (Nat.le_refl _))⟩
end
def mergeK (kvs more : List (Key × V)) : List (Key × V) := more.foldl (fun acc kv => putK acc kv.1 kv.2) kvs
theorem KV.merge : ∀ {more : List (Key × V)} {rs : List (Key × Value)} {kvs : List (Key × V)} {vs : List (Key × Value)}, KV more rs → KV kvs vs → KV (mergeK kvs more) (merged vs rs) := by
  intro more rs kvs vs r
  unfold KV at r
  induction r generalizing kvs vs with
  | nil => intro q; exact q
  | @cons p q ps qs h t ih =>
    intro r0
    have e : KV (putK kvs p.1 p.2) (stored vs q.1 q.2) := by
      have := r0.put p.1 h.2
      rw [← h.1]; exact this
    exact ih e
structure M1 (X : Cx) (o : Expr) (m : Str) (apos : Pos) (e : Expr) (cpos : Pos) : Prop where
  base : attributeBase o m X.env (eval o X.env) = eval o X.env
  few : ((backTo cpos (starEach [e] X.env)).all (fun x => !x.1) && (backToKw cpos (keywordEach [] X.env)).all (fun x => x.1.isSome)
    && decide (([e] : List Expr).length + ([] : List Keyword).length + (if ([] : List Keyword).isEmpty then 0 else 1) < 30)) = true
  line : (apos.endLine == cpos.line) = true
  trees : backTo cpos (starEach [e] X.env) = [(false, eval e X.env)]
structure M2 (X : Cx) (o : Expr) (m : Str) (apos : Pos) (e f : Expr) (cpos : Pos) : Prop where
  base : attributeBase o m X.env (eval o X.env) = eval o X.env
  few : ((backTo cpos (starEach [e, f] X.env)).all (fun x => !x.1) && (backToKw cpos (keywordEach [] X.env)).all (fun x => x.1.isSome)
    && decide (([e, f] : List Expr).length + ([] : List Keyword).length + (if ([] : List Keyword).isEmpty then 0 else 1) < 30)) = true
  line : (apos.endLine == cpos.line) = true
  trees : backTo cpos (starEach [e, f] X.env) = [(false, eval e X.env), (false, eval f X.env)]
section
variable {X : Cx} {pins : List (Addr × Obj)} {σ : St} {H : Hp} {s : Shared} {a : Addr} {y d : V} {u r : Value} {o : Option V} {A : Around} {E : Value → Shared → Prop}
end
section
variable {X : Cx} {o e f : Expr} {apos cpos : Pos} {td ty tx : TE}
end
section
variable {X : Cx} {pins : List (Addr × Obj)} {σ : St} {H : Hp} {s : Shared} {a : Addr} {kvs : List (Key × V)} {A : Around} {E : Value → Shared → Prop}
theorem d_copyOf {Q : Value → Shared → Prop} (I : Inv X pins σ H s) (e : Rd H a (.dK kvs)) (h : ∀ p s', H p = none → Inv X pins σ (upd H p (.dK kvs)) s' → Q (.ref p) s') : wpAny (model X.prog X.w) A (call (.type "dict") [.ref a]) Q E s := by
  obtain ⟨z, hd, vs, rel, dd⟩ := dk_rd I.hok e
  refine kt_call_dict hd dd (by rw [← rel.length]; exact z) fun h' dd' hs => ?_
  refine h _ _ (I.hok.fresh (Nat.le_refl _)) (I.laid (a := s.heap.objs.size) (o := .dK kvs) (t' := s.toks) (fun b q hq => ?_) (Nat.le_refl _) (dk_new z (beq_eq_false_iff_ne.mpr (Ne.symm (Nat.ne_of_lt I.big))) rel dd'))
  exact (hs.2 b (Nat.ne_of_lt (Heap.lt_size hq))).trans (Heap.get?_push_of_some _ hq)
end
section
variable {X : Cx} {pins : List (Addr × Obj)} {σ : St} {H : Hp} {s : Shared} {a : Addr} {y : V} {u : Value} {A : Around} {E : Value → Shared → Prop}
end
end L2
namespace Att
open PySem PySem.W PySem.Calls PyProof.Rows
theorem ints_of_wellAll {P : Params} {h : Heap} : ∀ (ns : List Int) (vs : List Value), WellAll P h vs (ns.map WData.int) → IntsAre vs ns := by
  intro ns
  induction ns with
  | nil =>
    intro vs w
    rw [List.map_nil] at w
    cases w
    exact .nil
  | cons n ns ih =>
    intro vs w
    rw [List.map_cons] at w
    cases w with
    | cons a b =>
      cases a
      exact .cons _ _ (ih _ b)
theorem script_of {l : OpenLaw} {n : Nat} (hn : l.most = some n) {P : Params} {h : Heap} {args : List WData} {vals : List Value}
    (hpre : l.row.toRowW.claim.pre args = true) (hwl : WellAll P h vals args) :
    ∃ a vs ns, vals = [Value.ref a] ∧ args = [WData.list (ns.map WData.int)] ∧ h.get? a = some { cls := .type "list", data := .seq vs.toArray } ∧ IntsAre vs ns ∧ ns.length ≤ n := by
  have hsh : WShape.hasAll [] args [.list .int] = true := (pre_splitW hpre).1
  have hc : l.pre.holds [] { args := args } = true := (pre_splitW hpre).2
  obtain ⟨d, r, rfl, h1, h2⟩ := hasAllW_cons hsh
  obtain rfl := hasAllW_nil h2
  obtain ⟨xs, rfl, h3⟩ := hasW_list h1
  obtain ⟨ns, rfl⟩ := items_int h3
  have hlen : ns.length ≤ n := by
    unfold OpenLaw.pre at hc
    have h4 : (WTm.not (.lt (.lit (.int (n : Int))) (.len (.arg 0)))).holds [] { args := [.list (ns.map .int)] } = true := by
      have h4 := (holds_andW hc).1
      rw [hn] at h4
      exact h4
    have h5 := condW_of h4 (w_not (w_lt w_lit (w_len_list (w_arg rfl))))
    rw [List.length_map] at h5
    refine Nat.le_of_not_lt fun q => ?_
    have q' : (n : Int) < ((ns.length : Nat) : Int) := by omega
    first
      | (rw [decide_eq_true q'] at h5; exact absurd h5 (by decide))
      | (simp at h5; omega)
  cases hwl with
  | cons w1 w2 =>
    cases w2
    cases w1 with
    | list ho hall => exact ⟨_, _, ns, rfl, rfl, ho, ints_of_wellAll ns _ hall, hlen⟩
theorem post_true (l : OpenLaw) (args : List WData) : l.row.toRowW.claim.post args (.bool true) args = true :=
  postW_of (r := l.row.toRowW) (X := (true == true))
    (show WShape.has [] (.bool true) .bool = true by first | rfl | decide | simp [WShape.has, WShape.arms, WShape.armsAll])
    (show (WTm.eq .res (.lit (.bool true))).value [] { args := args, res := some (.bool true), after := args } = some (.bool (true == true)) from w_eq_bool (w_res rfl) w_lit) rfl
theorem attach_call {l : OpenLaw} {n : Nat} {q : Program} {loose : List Str} {XP : (Str → Option Value) → Heap → Prop} {YP : World → Heap → Prop} {d : DefRec}
    (hn : l.most = some n) (hdf : d.params.defaults = [])
    (call : ∀ (w : World) (s₀ s₁ : Shared) (mg mb : Str → Option Value) (fa : Addr) (o : Obj) (pm cd doc : Value) (a : Addr) (vs : List Value) (ns : List Int),
      Ground q loose [] XP w s₀ mg mb s₁.heap → YP w s₁.heap →
      s₁.heap.get? fa = some o → o.data = .func (docDef d.name d.params d.body d.scope pm cd doc) → s₁.heap.CodeRec cd d.name → mg d.name = some (.ref fa) →
      s₁.heap.get? a = some { cls := .type "list", data := .seq vs.toArray } → IntsAre vs ns → ns.length ≤ n → s₁.gens = #[] →
      codeAny (model l.prog w) callerA (.call (.ref fa) ⟨[.ref a], []⟩) (fun r s' => r = .ok (.ret (.bool true)) ∧ OldK s₁.heap s'.heap ∧ s'.os = s₁.os ∧ AllBare s'.gens) s₁) :
    WalkO q loose XP YP l.row.toRowW d [] (fun f vs => PySem.call f vs) := by
  intro w s₀ s₁ mg mb G Y fa o pm cd doc dV kV ho hd hcd hD hmg hg args vals as hpre hlay hrd hwl hlo
  obtain rfl : dV = .none := Dflts.none hD hdf
  obtain rfl : kV = .none := Dflts.noKw hD
  obtain ⟨a, vs, ns, rfl, rfl, hobj, hints, hlen⟩ := script_of hn hpre hwl
  refine enter_call (codeAny_mono (call w s₀ s₁ mg mb fa o pm cd doc a vs ns G Y ho (fd_plain hd) hcd hmg hobj hints hlen hg) fun r s' hq => ?_)
  obtain ⟨rfl, h2, h3, h4⟩ := hq
  exact ⟨.inl ⟨.bool true, .bool true, [], rfl, fun _ => rfl, .bool true, post_true l _, fun _ => ⟨List.Pairwise.nil, fun _ hm => (nomatch hm)⟩⟩, h2, h3, h4⟩
section
variable {prog : Program} {w : World} {A : Around} {E : Value → Shared → Prop} {s : Shared} {K : Frag}
end
end Att
namespace L2
open PySem PySem.Spec PyProof.Rows
theorem vals_ints : ∀ {vs : List Value} {ns : List Int}, IntsAre vs ns → Vals (ns.map V.int) vs
  | _, _, .nil => .nil
  | _, _, .cons n t h => .cons ⟨t, rfl⟩ (vals_ints h)
def Only (H : Hp) : Prop := ∀ b, H b = none ∨ ∃ o xs, H b = some (.frz o (.lst xs))
theorem law_call {P : Program} {w : World} {K : PySem.W.Frag} {mg mb : Str → Option Value} {CX : CXT} {k : Nat} {fa a : Addr} {fd : FuncData} {x : Str} {sp : Sp} {s₁ : Shared} {vs : List Value} {ns : List Int}
    (KX : K.In s₁.heap) (hns : s₁.heap.Ns mainGlobals mg) (hb : s₁.heap.Ns builtinsNs mb) (hbb : ∀ x : Str, x ≠ "__name__" → mb x = bootBuiltins x) (hlim : s₁.heap.NoLimit) (hg : s₁.gens = #[])
    (ha : s₁.heap.get? a = some { cls := .type "list", data := .seq vs.toArray }) (hi : IntsAre vs ns) (hl : ns.length ≤ sizeLine) (hr : Room k callerA)
    (F : ∀ base : Heap, K.In base → base.Ns mainGlobals mg → FnOk P w K mg base CX k fa fd [x] sp) (hbind : ∀ (s : Shared) (u : Value), BindsTo s fd ⟨[u], []⟩ [(x, u)])
    (hsp : ∀ H : Hp, Only H → SqL K H a (ns.map V.int) → sp [.ref a] H (fun v _ => v = .bl true) fun _ _ _ => False)
    (hCX : ∀ H e s', CX [] H s₁ (fun _ _ _ => False) e s' → False) :
    codeAny (model P w) callerA (.call (.ref fa) ⟨[.ref a], []⟩) (fun r s' => r = .ok (.ret (.bool true)) ∧ OldK s₁.heap s'.heap ∧ s'.os = s₁.os ∧ AllBare s'.gens) s₁ := by
  have rv := vals_ints hi
  have lenV := hi.length
  have core : ∀ H : Hp, Only H → SqL K H a (ns.map V.int) → HOk P w H s₁.heap → (∀ b, H b ≠ none → b = a) → (H a ≠ none → K.lookup a = none) →
      codeAny (model P w) callerA (.call (.ref fa) ⟨[.ref a], []⟩) (fun r s' => r = .ok (.ret (.bool true)) ∧ OldK s₁.heap s'.heap ∧ s'.os = s₁.os ∧ AllBare s'.gens) s₁ := by
    intro H hO hS hok hA hK
    have base_of : ∀ {b : Addr} {o : Obj}, s₁.heap.get? b = some o → H b = none → (hidT s₁.heap H).get? b = some o := fun e n => hidT_get e n
    have noA : ∀ {b : Addr} {o : Obj} {es : Array DictEntry} {ep : Nat}, s₁.heap.get? b = some o → o.data = .dict es ep → H b = none := fun {b o es ep} e d => by
      cases q : H b with
      | none => rfl
      | some u =>
        have e' : b = a := hA b (by rw [q]; simp)
        subst e'
        rw [ha] at e; cases e
        have d' : Data.seq vs.toArray _ = Data.dict es ep := d
        cases d'
    have nsK : ∀ {b : Addr} {m : Str → Option Value}, s₁.heap.Ns b m → (hidT s₁.heap H).Ns b m := fun {b m} ⟨o, es, ep, e, d, r⟩ => ⟨o, es, ep, base_of e (noA e d), d, r⟩
    have hKb : K.In (hidT s₁.heap H) := fun b o e => base_of (KX b o e) (by
      cases q : H b with
      | none => rfl
      | some u =>
        have e' : b = a := hA b (by rw [q]; simp)
        subst e'
        rw [hK (by rw [q]; simp)] at e; cases e)
    have hM : Mod K mg (hidT s₁.heap H) := ⟨hKb, nsK hns, ⟨mb, nsK hb, hbb⟩, let ⟨mc, h1, h2⟩ := hlim; ⟨mc, nsK h1, h2⟩⟩
    have e0 : Env0 P w K mg (hidT s₁.heap H) callerA [] s₁ H := ⟨rfl, hM, fun b o e => of_hidT e, Nat.le_of_eq (hidT_size _ _), trivial, fun b hb => absurd (show b ∈ ([] : List Addr) from hb) (by simp), hok, .of_eq hg⟩
    refine codeAny_mono ((F _ hKb (nsK hns)).run callerA [] s₁ H ⟨[.ref a], []⟩ [.ref a] [.ref a] _ _ hr e0 (hbind s₁ (.ref a)) (.cons rfl .nil) (hsp H hO hS)) fun r s' h => ?_
    cases r with
    | error e => exact (hCX H e s' h).elim
    | ok fl =>
      cases fl with
      | next => exact False.elim h
      | brk => exact False.elim h
      | cont => exact False.elim h
      | ret u =>
        obtain ⟨v, H', os, bare, un, hok', r', q⟩ := h
        have q' : v = .bl true := q
        subst q'
        obtain rfl : u = Value.bool true := r'
        refine ⟨rfl, OldK.of_keep fun b o e => ?_, os, bare⟩
        cases q : H b with
        | none => exact un.keep b o e q (by intro z; exact absurd (show b ∈ ([] : List Addr) from z) (by simp)) (by simp)
        | some u =>
          rcases hO b with z | ⟨ob, xs, z⟩
          · rw [q] at z; cases z
          · have z2 := un.frzs b ob _ z
            obtain ⟨e1, _⟩ := hok b _ z
            obtain ⟨e2, _⟩ := hok' b _ z2
            rw [e] at e1; cases e1
            exact e2
  cases hk : K.lookup a with
  | some o =>
    have e := KX a o hk
    rw [ha] at e
    cases e
    refine core (fun _ => none) (fun _ => .inl rfl) (.inr ⟨_, vs.toArray, _, hk, rfl, rfl, rfl, by rw [List.size_toArray, lenV]; exact hl, by simpa using rv⟩) (fun b u z => by have z' : (none : Option HO) = some u := z; cases z') (fun b z => absurd rfl z) fun z => absurd rfl z
  | none =>
    refine core (fun b => if b = a then some (.frz { cls := .type "list", data := .seq vs.toArray } (.lst (ns.map V.int))) else none) (fun b => ?_) (.inl (.inr ⟨{ cls := .type "list", data := .seq vs.toArray }, if_pos rfl⟩)) (fun b u z => ?_) (fun b z => ?_) fun _ => hk
    · by_cases hb : b = a
      · exact .inr ⟨_, _, if_pos hb⟩
      · exact .inl (if_neg hb)
    · by_cases hb : b = a
      · have z' := (if_pos hb).symm.trans z
        cases z'
        subst hb
        exact ⟨ha, by rw [List.length_map]; exact hl, vs, _, rv, ha⟩
      · have z' := (if_neg hb).symm.trans z
        cases z'
    · by_cases hb : b = a
      · exact hb
      · exact absurd (if_neg hb) z
end L2
namespace L2
open PySem PySem.Spec PyProof.Rows
theorem walk_of {l : PySem.W.OpenLaw} {n k : Nat} {q : Program} {loose : List Str} {XP : (Str → Option Value) → Heap → Prop} {YP : World → Heap → Prop} {d : DefRec} {K : Params → PySem.W.Frag} {CX : World → CXT} {sp : World → Sp} {x : Str}
    (hn : l.most = some n) (hn2 : n ≤ sizeLine) (hdf : d.params.defaults = []) (hr : Room k callerA)
    (hY : ∀ (w : World) (h : Heap), YP w h → (K w.params).In h)
    (F : ∀ (w : World) (mg : Str → Option Value) (fa : Addr) (h : Heap), (K w.params).In h → h.Ns mainGlobals mg → mg d.name = some (.ref fa) →
      ∃ fd : FuncData, (∀ (s : Shared) (u : Value), BindsTo s fd ⟨[u], []⟩ [(x, u)]) ∧
        ∀ base : Heap, (K w.params).In base → base.Ns mainGlobals mg → FnOk l.prog w (K w.params) mg base (CX w) k fa fd [x] (sp w))
    (hsp : ∀ (w : World) (H : Hp) (a : Addr) (ns : List Int), ns.length ≤ n → Only H → SqL (K w.params) H a (ns.map V.int) → sp w [.ref a] H (fun v _ => v = .bl true) fun _ _ _ => False)
    (hCX : ∀ (w : World) (H : Hp) (s : Shared) (e : Value) (s' : Shared), CX w [] H s (fun _ _ _ => False) e s' → False) :
    PySem.W.WalkO q loose XP YP l.row.toRowW d [] (fun f vs => PySem.call f vs) := by
  refine Att.attach_call hn hdf fun w s₀ s₁ mg mb fa o pm cd doc a vs ns G Y ho hd hcd hmg hobj hints hlen hg => ?_
  have KX := hY w _ Y
  obtain ⟨fd, hb, hF⟩ := F w mg fa _ KX G.T.g hmg
  exact law_call KX G.T.g G.T.b G.T.builtins G.T.nolimit hg hobj hints (Nat.le_trans hlen hn2) hr hF hb (fun H hO hS => hsp w H a ns hlen hO hS) fun H e s' => hCX w H s₁ e s'
end L2
namespace L2
open PySem PySem.Spec PyProof.Rows
def inClass (s : Stmt) (j : Nat) : Stmt := match s with
  | .ClassDef _ _ _ body _ _ _ _ _ _ _ => body.getD j (.Pass ⟨0, 0, 0, 0⟩)
  | _ => .Pass ⟨0, 0, 0, 0⟩
def defArgs (s : Stmt) : Arguments := match s with
  | .FunctionDef _ a _ _ _ _ _ _ _ _ => a
  | _ => { posonlyargs := [], args := [], vararg := none, kwonlyargs := [], kw_defaults := [], kwarg := none, defaults := [] }
def defBody (s : Stmt) : List Stmt := match s with
  | .FunctionDef _ _ b _ _ _ _ _ _ _ => b
  | _ => []
def defScope (s : Stmt) : Scope := match s with
  | .FunctionDef _ _ _ _ _ _ sc _ _ _ => sc
  | _ => { kind := .function, names := [], isGenerator := false, isCoroutine := false }
abbrev CX0 : CXT := fun _ _ _ _ _ _ => False
abbrev E0 : XK := fun _ _ _ => False
theorem pass0 {X : Cx} : Passes CX0 X E0 := fun _ _ _ _ _ _ _ h => h.elim
structure Fun (K : PySem.W.Frag) (x qual : Str) (st : Stmt) (f : Addr) (fd : FuncData) : Prop where
  ex : ∃ (oc : Value) (od : Option Addr) (kV doc pm : Value) (an : Option Addr) (cdv ct : Value) (osl : Array (Option Value)),
    fd = PySem.W.fnOf x qual (defArgs st) (defBody st) (defScope st) .none kV doc pm an cdv ct ∧ K.lookup f = some ⟨oc, od, .func fd, osl⟩ ∧ PySem.W.codeIn K cdv qual = true
  kp : PySem.W.keepIn K (.ref f) = true
section
variable {P : Program} {w : World} {K : PySem.W.Frag} {mg : Str → Option Value} {base : Heap}
theorem Fun.ok {x qual : Str} {st : Stmt} {f : Addr} {fd : FuncData} {N ps : List Str} {k : Nat} {sp : Sp} (F : Fun K x qual st f fd) (S : FnScope N ps (defScope st)) (len : ∀ vs H Q E, sp vs H Q E → vs.length = ps.length)
    (hbody : ∀ (cdv : Value) (A : Around) (outer : List Env) (s : Shared) (H : Hp) (vs : List V) (Q : VK) (E : XK), Room k (A.deeper (envOfC qual (defScope st) s.heap.objs.size f cdv)) → sp vs H Q E →
      ∃ t, PSs (cxOf CX0 P w K mg base N qual (defScope st) f cdv A outer s H E).nox (defBody st) t ∧ t { nx := fun _ H' => Q .non H', rt := Q } (start N vs) H) : FnOk P w K mg base CX0 (k + 1) f fd ps sp := by
  obtain ⟨oc, od, kV, doc, pm, an, cdv, ct, osl, rfl, lk, hcd⟩ := F.ex
  refine fn_of lk hcd S len fun A outer s H vs Q E hr hsp => ?_
  obtain ⟨t, h, q⟩ := hbody cdv A outer s H vs Q E hr hsp
  exact ⟨t, h.nox, q⟩
theorem Fun.binds {x qual : Str} {st : Stmt} {f : Addr} {fd : FuncData} {ps : List Str} (F : Fun K x qual st f fd)
    (h : ∀ (kV doc pm : Value) (an : Option Addr) (cdv ct : Value) (us : List Value), us.length = ps.length → bindArgs (PySem.W.fnOf x qual (defArgs st) (defBody st) (defScope st) .none kV doc pm an cdv ct) ⟨us, []⟩ = pure (ps.zip us)) : Binds K fd ps [] := by
  obtain ⟨oc, od, kV, doc, pm, an, cdv, ct, osl, rfl, lk, hcd⟩ := F.ex
  exact .all (h kV doc pm an cdv ct)
theorem fun_mk {x qual : Str} {st : Stmt} {f : Addr} {oc : Value} {od an : Option Addr} {osl : Array (Option Value)} {kV doc pm cdv ct : Value} (l : K.lookup f = some ⟨oc, od, .func (PySem.W.fnOf x qual (defArgs st) (defBody st) (defScope st) .none kV doc pm an cdv ct), osl⟩)
    (c : PySem.W.codeIn K cdv qual = true) (k : PySem.W.keepIn K (.ref f) = true) : Fun K x qual st f (PySem.W.fnOf x qual (defArgs st) (defBody st) (defScope st) .none kV doc pm an cdv ct) := ⟨⟨oc, od, kV, doc, pm, an, cdv, ct, osl, rfl, l, c⟩, k⟩
end
section
variable {X : Cx}
theorem pv (i : Nat) {x : Str} {pos : Pos} (hN : X.N[i]? = some x := by rfl) (hv : Vis X.env.scope x := by first | exact Or.inl rfl | exact Or.inr (Or.inl rfl) | exact Or.inr (Or.inr rfl)) (hd : (x == ("__debug__" : Str)) = false := by decide)
    (hcd : (x == ("__classdict__" : Str)) = false := by decide) : PE X (.Name x pos) (tVar i) := pe_var hN hv hd hcd
end
theorem iteF {A B : Prop} (h : B) : if false = true then A else B := by
  rw [if_neg Bool.false_ne_true]
  exact h
theorem iteT {A B : Prop} (h : A) : if true = true then A else B := by
  rw [if_pos rfl]
  exact h
def Same (H H' : Hp) : Prop := ∀ b o, H b = some o → H' b = some o
theorem Same.refl (H : Hp) : Same H H := fun _ _ h => h
theorem Same.trans {H H1 H2 : Hp} (a : Same H H1) (b : Same H1 H2) : Same H H2 := fun c o h => b c o (a c o h)
theorem Same.free {H H' : Hp} (e : Same H H') {l : Addr} (h : H' l = Option.none) : H l = Option.none := by
  cases q : H l with
  | none => rfl
  | some o =>
    rw [e l o q] at h
    cases h
theorem Same.seq {K : PySem.W.Frag} {H H' : Hp} {a : Addr} {xs : List V} (e : Same H H') (h : SqL K H a xs) : SqL K H' a xs := by
  rcases h with (h | ⟨o, h⟩) | h
  · exact .inl (.inl (e _ _ h))
  · exact .inl (.inr ⟨o, e _ _ h⟩)
  · exact .inr h
section
variable {κ : Type} [DecidableEq κ]
end
end L2
namespace L2
open PySem PySem.Spec PyProof.Rows
section
variable {X : Cx}
def CDivB (_ j : Int) : Prop := 0 < j ∧ j < 2 ^ 200
theorem noPy {i j : Int} (h : CDivB i j) : Builtin.divisionGoesByPylong i j = false := by
  refine PyProof.noPylong_of_log2 ?_
  obtain ⟨h1, h2⟩ := h
  have h0 : j.natAbs ≠ 0 := by omega
  have h3 : j.natAbs < 2 ^ 200 := by omega
  have := (Nat.log2_lt h0).mpr h3
  omega
theorem op_fdivB : OpR X (binaryOp .FloorDiv) (rI CDivB fun i j => .int (i / j)) := opI fun i j _ _ _ _ _ hc q => by
  have h1 : (0 : Int) < j := hc.1
  exact floordiv_int (by omega) (by rw [Int.fdiv_eq_ediv_of_nonneg i (by omega)]; exact q) (.inl (noPy hc))
inductive ClsV : V → Value → Prop where
  | ty (n : String) : ClsV (.ty n) (.type n)
  | ref (C : Addr) : ClsV (.ref C) (.ref C)
theorem call_isinst : CallR X (.builtin "isinstance") (fun xs H Q => ∃ x y c t b, xs = [x, y] ∧ ClsV y c ∧ TyOf X.K H x t ∧ PySem.W.kitOne X.K t c = some b ∧ Q (.bl b) H) := by
  intro pins s σ H xs us Q I r h
  obtain ⟨x, y, c, t, b, rfl, hy, ty, e, q⟩ := h
  obtain ⟨u, w', rfl, rx, ry⟩ := vals2 r
  cases hy with
  | ty n =>
    cases (show w' = Value.type n from ry)
    exact isinst_ok I rx ty e fun tk => ⟨.bl b, H, I.tok _, rfl, q⟩
  | ref C =>
    cases (show w' = Value.ref C from ry)
    exact isinst_ok I rx ty e fun tk => ⟨.bl b, H, I.tok _, rfl, q⟩
end
theorem compLoop_go {prog : Program} {w : World} {A : Around} {R : Result → Shared → Prop} {s : Shared} {elt target iter : Expr} {ifs : List Expr} {scope : Scope} {pos : Pos} {it acc : Value} {env : Env} (I : Nat → Shared → Prop) (E : Value → Shared → Prop)
    (hE : ∀ e s', E e s' → notedBy (model prog w) A env (fun e s' => R (.error e) s') e s')
    (turn : ∀ n s, I n s → wpAny (model prog w) A (pyNext it) (fun r s₁ => match r with
      | none => R (.ok .next) s₁
      | some v => wpAny (model prog w) A (letOwnedTupleGo target it v) (fun _ s₁' => wpAny (model prog w) A (assign target env v) (fun _ s₂ =>
          wpAny (model prog w) A (forIn ifs true fun c r => if r = true then do let ok ← isTrue c env (eval c env); pure (ForInStep.yield ok) else pure (ForInStep.yield r)) (fun ok s₃ =>
            if ok = true then wpAny (model prog w) A (eval elt env) (fun x s₄ =>
              wpAny (model prog w) A (call (.builtin "list.append") [acc, x]) (fun _ s₅ => ∃ m, m < n ∧ I m s₅) E s₄) E s₃
            else ∃ m, m < n ∧ I m s₃) E s₂) E s₁') E s₁) E s)
    (n : Nat) (h : I n s) : codeAny (model prog w) A (.compLoop (.ListComp elt [⟨target, iter, ifs, 0⟩] scope pos) 0 it acc env) R s := by
  refine codeAny_loop rfl I (fun n s hI => ?_) n h
  show wpAny _ A ((compTurn (.ListComp elt [⟨target, iter, ifs, 0⟩] scope pos) 0 it acc env).onRaise (fun x => do noteFrame x env; theTreesLotGoes x)) _ _ s
  refine wpAny_noted ?_
  rw [compTurn_list]
  refine wpAny_bind (wpAny_standAt (wpAny_bind (wpAny_mono (turn n s hI) (fun r s₁ h₁ => ?_) hE)))
  cases r with
  | none => exact wpAny_pure h₁
  | some v =>
    refine wpAny_bind (wpAny_mono h₁ (fun _ s₁' h₁' => ?_) hE)
    refine wpAny_bind (wpAny_mono h₁' (fun _ s₂ h₂ => wpAny_bind (wpAny_mono h₂ (fun ok s₃ h₃ => ?_) hE)) hE)
    cases ok with
    | false => exact wpAny_pure ⟨rfl, h₃⟩
    | true =>
      exact wpAny_bind (wpAny_bind (wpAny_mono h₃ (fun x s₄ h₄ => wpAny_bind (wpAny_mono h₄ (fun _ s₅ h₅ => wpAny_pure (wpAny_pure ⟨rfl, h₅⟩)) hE)) hE))
theorem closure_key {env : Env} : ∀ (names : List (Str × NameKind)) (acc : List (Str × Addr)), (∀ y ∈ names, y.2 = .free → ∃ c, env.cells.lookup y.1 = some c) → (∀ x c, acc.lookup x = some c → env.cells.lookup x = some c) →
    ∃ cl, (forIn names acc (fun (x : Str × NameKind) (r : List (Str × Addr)) => (if (x.2 == NameKind.free) = true then (do let a ← cellOf env x.1; pure (ForInStep.yield ((x.1, a) :: r))) else pure (ForInStep.yield r) : Sem (ForInStep (List (Str × Addr)))))) = (pure cl : Sem (List (Str × Addr))) ∧
      (∀ x c, cl.lookup x = some c → env.cells.lookup x = some c) ∧ (∀ x c, acc.lookup x = some c → ∃ c', cl.lookup x = some c') ∧ ∀ y ∈ names, y.2 = .free → ∃ c, cl.lookup y.1 = some c
  | [], acc, _, ha => ⟨acc, rfl, ha, fun x c e => ⟨c, e⟩, fun _ h => nomatch h⟩
  | (n, k) :: r, acc, hf, ha => by
    have hf' : ∀ y ∈ r, y.2 = .free → ∃ c, env.cells.lookup y.1 = some c := fun y hy => hf y (List.mem_cons_of_mem _ hy)
    by_cases hk : k = .free
    · subst hk
      obtain ⟨c, hc⟩ := hf (n, .free) List.mem_cons_self rfl
      have hc' : env.cells.lookup n = some c := hc
      have ha' : ∀ x d, ((n, c) :: acc).lookup x = some d → env.cells.lookup x = some d := fun x d e => by
        rw [List.lookup_cons] at e
        cases hx : x == n with
        | true => rw [hx] at e; cases e; rw [beq_iff_eq.mp hx]; exact hc'
        | false => rw [hx] at e; exact ha x d e
      obtain ⟨cl, e, h1, h2, h3⟩ := closure_key r ((n, c) :: acc) hf' ha'
      have hself : ((n, c) :: acc).lookup n = some c := by rw [List.lookup_cons, beq_self_eq_true]
      refine ⟨cl, ?_, h1, fun x d ex => ?_, fun y hy hyf => ?_⟩
      · rw [List.forIn_cons]
        have ec : cellOf env n = pure c := by unfold cellOf; rw [hc']
        show ((if (NameKind.free == NameKind.free) = true then (do let a ← cellOf env n; pure (ForInStep.yield ((n, a) :: acc))) else pure (ForInStep.yield acc) : Sem _) >>= _) = _
        rw [if_pos (by decide), ec]
        exact e
      · cases hx : x == n with
        | true => rw [beq_iff_eq.mp hx]; exact h2 n c hself
        | false => exact h2 x d (by rw [List.lookup_cons, hx]; exact ex)
      · rcases List.mem_cons.mp hy with rfl | hy
        · exact h2 n c hself
        · exact h3 y hy hyf
    · obtain ⟨cl, e, h1, h2, h3⟩ := closure_key r acc hf' ha
      refine ⟨cl, ?_, h1, h2, fun y hy hyf => ?_⟩
      · rw [List.forIn_cons]
        show ((if (k == NameKind.free) = true then (do let a ← cellOf env n; pure (ForInStep.yield ((n, a) :: acc))) else pure (ForInStep.yield acc) : Sem _) >>= _) = _
        rw [if_neg (by simpa using hk)]
        exact e
      · rcases List.mem_cons.mp hy with rfl | hy
        · exact absurd hyf hk
        · exact h3 y hy hyf
theorem closure_ok {scope : Scope} {env : Env} (h : ∀ y ∈ scope.names, y.2 = .free → ∃ c, env.cells.lookup y.1 = some c) :
    ∃ cl, closureFor scope env = pure cl ∧ (∀ x c, cl.lookup x = some c → env.cells.lookup x = some c) ∧ ∀ y ∈ scope.names, y.2 = .free → ∃ c, cl.lookup y.1 = some c := by
  obtain ⟨cl, e, h1, _, h3⟩ := closure_key (env := env) scope.names [] h (fun x c e => nomatch e)
  refine ⟨cl, ?_, h1, h3⟩
  have e0 : closureFor scope env = ((forIn scope.names [] (fun (x : Str × NameKind) (r : List (Str × Addr)) => (if (x.2 == NameKind.free) = true then (do let a ← cellOf env x.1; pure (ForInStep.yield ((x.1, a) :: r))) else pure (ForInStep.yield r) : Sem (ForInStep (List (Str × Addr)))))) >>= fun r => pure r) := rfl
  rw [e0, e]
  rfl
theorem relabel_free {env : Env} (hf : env.scope.kind = .function) : ∀ {names : List (Str × NameKind)} {x : Str}, names.lookup x = some .free → env.kindOf x = some .cell →
    (names.map fun (n, k) => if (k == NameKind.free && env.scope.kind == .function && env.kindOf n == some .cell) then (n, NameKind.cell) else (n, k)).lookup x = some .cell
  | [], _, h, _ => by simp at h
  | (n, k) :: r, x, h, hc => by
    have ih := @relabel_free env hf r x
    show List.lookup x ((if (k == NameKind.free && env.scope.kind == .function && env.kindOf n == some .cell) = true then (n, NameKind.cell) else (n, k)) :: _) = _
    cases hx : x == n with
    | true =>
      simp only [List.lookup_cons, hx] at h
      cases h
      have e : x = n := beq_iff_eq.mp hx
      subst e
      rw [if_pos (by rw [hf, hc]; decide)]
      simp only [List.lookup_cons, hx]
    | false =>
      simp only [List.lookup_cons, hx] at h
      by_cases hq : (k == NameKind.free && env.scope.kind == .function && env.kindOf n == some .cell) = true
      · rw [if_pos hq]; simp only [List.lookup_cons, hx]; exact ih h hc
      · rw [if_neg hq]; simp only [List.lookup_cons, hx]; exact ih h hc
theorem relabel_back {env : Env} : ∀ {names : List (Str × NameKind)} {x : Str} {k : NameKind},
    (names.map fun (n, k) => if (k == NameKind.free && env.scope.kind == .function && env.kindOf n == some .cell) then (n, NameKind.cell) else (n, k)).lookup x = some k → ∃ k0, names.lookup x = some k0 ∧ (k = k0 ∨ k0 = .free)
  | [], _, _, h => by simp at h
  | (n, k1) :: r, x, k, h => by
    have h : List.lookup x ((if (k1 == NameKind.free && env.scope.kind == .function && env.kindOf n == some .cell) = true then (n, NameKind.cell) else (n, k1)) :: (r.map fun (n, k) => if (k == NameKind.free && env.scope.kind == .function && env.kindOf n == some .cell) then (n, NameKind.cell) else (n, k))) = some k := h
    cases hx : x == n with
    | true =>
      by_cases hq : (k1 == NameKind.free && env.scope.kind == .function && env.kindOf n == some .cell) = true
      · have : k1 = .free := by
          rw [Bool.and_eq_true, Bool.and_eq_true] at hq
          simpa using hq.1.1
        exact ⟨k1, by simp only [List.lookup_cons, hx], .inr this⟩
      · rw [if_neg hq] at h
        simp only [List.lookup_cons, hx] at h
        exact ⟨k1, by simp only [List.lookup_cons, hx], .inl (Option.some.inj h).symm⟩
    | false =>
      have h' : (r.map fun (n, k) => if (k == NameKind.free && env.scope.kind == .function && env.kindOf n == some .cell) then (n, NameKind.cell) else (n, k)).lookup x = some k := by
        by_cases hq : (k1 == NameKind.free && env.scope.kind == .function && env.kindOf n == some .cell) = true
        · rw [if_pos hq] at h; simp only [List.lookup_cons, hx] at h; exact h
        · rw [if_neg hq] at h; simp only [List.lookup_cons, hx] at h; exact h
      obtain ⟨k0, e, z⟩ := relabel_back h'
      exact ⟨k0, by simp only [List.lookup_cons, hx]; exact e, z⟩
def cxComp (X : Cx) (N : List Str) (scope : Scope) (cl : List (Str × Addr)) (C : Addr) (s : Shared) (H : Hp) (fp : List Addr) : Cx :=
  { X with N := N, s₀ := s, H₀ := H, env := compEnvC scope cl C X.env, outer := X.stack, ex := fp, fn := fun _ => false, pn := [], xe := fun _ _ => False }
structure CompOk (X : Cx) (scope : Scope) (ls ys : List Str) (ix : List Nat) : Prop where
  kind : scope.kind = .function
  nocellB : (scope.names.all fun y => y.2 != .cell) = true
  locB : (scope.names.all fun y => y.2 != .local || scope.names.lookup y.1 == some .local) = true
  freeB : (scope.names.all fun y => y.2 != .free || X.env.kindOf y.1 == some .cell) = true
  ylkB : (ys.all fun y => scope.names.lookup y == some .free) = true
  yix : ix.map (fun j => X.N[j]?) = ys.map some
section
variable {X : Cx} {scope : Scope} {ls ys : List Str} {ix : List Nat}
theorem CompOk.nocell (ok : CompOk X scope ls ys ix) : ∀ y ∈ scope.names, y.2 ≠ .cell := fun y hy => by
  simpa using List.all_eq_true.mp ok.nocellB y hy
theorem CompOk.loc (ok : CompOk X scope ls ys ix) : ∀ y ∈ scope.names, y.2 = .local → scope.names.lookup y.1 = some .local := fun y hy e => by
  have h := List.all_eq_true.mp ok.locB y hy
  rw [e] at h
  simpa using h
theorem CompOk.free (ok : CompOk X scope ls ys ix) : ∀ y ∈ scope.names, y.2 = .free → X.env.kindOf y.1 = some .cell := fun y hy e => by
  have h := List.all_eq_true.mp ok.freeB y hy
  rw [e] at h
  simpa using h
theorem CompOk.ylk (ok : CompOk X scope ls ys ix) : ∀ y ∈ ys, scope.names.lookup y = some .free := fun y hy => by
  simpa using List.all_eq_true.mp ok.ylkB y hy
end
def inSt (n : Nat) (ix : List Nat) (σ : St) : St := List.replicate n none ++ ix.map fun j => (σ[j]?).join
section
variable {X : Cx} {pins : List (Addr × Obj)} {σ : St} {H : Hp} {s : Shared} {scope : Scope} {ls ys : List Str} {ix : List Nat} {cl : List (Str × Addr)} {fp : List Addr}
theorem comp_in {h₁ : Heap} {tk : Nat} {m : Str → Option Value} (I : Inv X pins σ H s) (ok : CompOk X scope ls ys ix) (hcl1 : ∀ x c, cl.lookup x = some c → X.env.cells.lookup x = some c)
    (hcl2 : ∀ y ∈ scope.names, y.2 = .free → ∃ c, cl.lookup y.1 = some c) (f3 : ∀ b ∈ fp, FpOk X pins H b) (hob : ∀ b ∈ fp, b < s.heap.objs.size)
    (hns : h₁.Ns s.heap.objs.size m) (hk : ∀ b o, s.heap.get? b = some o → h₁.get? b = some o) :
    Inv (cxComp X (ls ++ ys) scope cl s.heap.objs.size s H fp) [] (inSt ls.length ix σ) H { s with heap := h₁, toks := tk } := by
  have hfree : ∀ x, scope.names.lookup x = some .free → X.env.kindOf x = some .cell := fun x e => ok.free (x, .free) (PySem.mem_of_lookup e) rfl
  refine ⟨⟨I.ok.mod, ok.kind, I.ok.glob, I.ok.blt, Nat.le_refl _, fun x y c h1 h2 => I.ok.inj x y c (hcl1 x c h1) (hcl1 y c h2), fun x hx => ?_, fun x c hx _ => absurd hx Bool.false_ne_true, I.ok.hd, I.ok.frames, .inl rfl,
    fun b hb => ⟨Nat.ne_of_lt (hob b hb), fun x c e => (f3 b hb).2.2.2.2.1 x c (hcl1 x c e)⟩, I.bs, Nat.le_trans I.ok.bsz I.sz, fun b o e hb => ?_, fun b hb z => ?_, I.stack, I.stkFree⟩,
    rfl, I.bare, Un.kept hk, ⟨m, hns, fun i x v h1 h2 h3 => ?_⟩, fun x c e => ?_, I.fresh, fun x c e => I.freeC x c (hcl1 x c e), fun p hp => absurd (show p ∈ ([] : List (Addr × Obj)) from hp) (by simp), I.hok.kept hk, ?_⟩
  · have e : ∃ k, (relabel scope X.env).names.lookup x = some k ∧ (k = .cell ∨ k = .free) := by
      rcases hx with hx | hx
      · exact ⟨_, hx, .inl rfl⟩
      · exact ⟨_, hx, .inr rfl⟩
    obtain ⟨k, e, hkk⟩ := e
    obtain ⟨k0, e0, z⟩ := relabel_back e
    have hm := PySem.mem_of_lookup e0
    have hk0 : k0 = .free := by
      rcases z with z | z
      · rcases hkk with q | q
        · exact absurd (z.symm.trans q) (ok.nocell _ hm)
        · exact z.symm.trans q
      · exact z
    exact hcl2 _ hm hk0
  · obtain ⟨q1, q2, q3, q4, _⟩ := f3 b hb
    rcases q4 with q4 | q4
    · exact I.ok.noex b o e q4
    · exact absurd (Nat.lt_of_lt_of_le (Heap.lt_size e) (Nat.le_trans I.ok.bsz q4)) (Nat.lt_irrefl _)
  · rcases List.mem_cons.mp (I.stkSub b z) with q | q
    · exact (f3 b hb).2.1 q
    · exact (f3 b hb).2.2.1 q
  · have h1 : (ls ++ ys)[i]? = some x := h1
    have h2 : (List.replicate ls.length none ++ ix.map fun j => (σ[j]?).join)[i]? = some (some v) := h2
    by_cases hi : i < ls.length
    · rw [List.getElem?_append_left (by rw [List.length_replicate]; exact hi), List.getElem?_replicate, if_pos hi] at h2
      cases h2
    · rw [List.getElem?_append_right (by rw [List.length_replicate]; omega), List.length_replicate, List.getElem?_map] at h2
      rw [List.getElem?_append_right (by omega)] at h1
      cases e : ix[i - ls.length]? with
      | none => rw [e] at h2; cases h2
      | some j =>
        rw [e] at h2
        have h2 : (σ[j]?).join = some v := Option.some.inj h2
        have hσ : σ[j]? = some (some v) := by
          cases q : σ[j]? with
          | none => rw [q] at h2; cases h2
          | some z => rw [q] at h2; exact congrArg some h2
        have hN : X.N[j]? = some x := by
          have q := congrArg (fun l => l[i - ls.length]?) ok.yix
          simp only [List.getElem?_map, e, h1, Option.map_some] at q
          exact Option.some.inj q
        have hl := ok.ylk x (List.mem_of_getElem? h1)
        have hc := hfree x hl
        obtain ⟨m', hn', hl'⟩ := I.loc
        obtain ⟨u, r, lk⟩ := hl' j x v hN hσ (.inr (.inl hc))
        refine ⟨u, r, ?_⟩
        rcases lk with ⟨lk, _⟩ | ⟨_, c, ec, z⟩
        · rw [hc] at lk; cases lk
        · obtain ⟨c', ec'⟩ := hcl2 _ (PySem.mem_of_lookup hl) rfl
          have ec2 : X.env.cells.lookup x = some c' := hcl1 x c' ec'
          rw [ec] at ec2
          cases ec2
          exact .inr ⟨.inl (relabel_free I.ok.kind hl hc), c, ec', z.keeps hk⟩
  · obtain ⟨v, z⟩ := I.cell x c (hcl1 x c e)
    exact ⟨v, z.keeps hk⟩
  · show (List.replicate ls.length none ++ ix.map fun j => (σ[j]?).join).length = (ls ++ ys).length
    have q := congrArg List.length ok.yix
    rw [List.length_map, List.length_map] at q
    rw [List.length_append, List.length_append, List.length_replicate, List.length_map, q]
end
def PF (X : Cx) (ifs : List Expr) (t : TT) : Prop :=
  ∀ (pins : List (Addr × Obj)) (s : Shared) (σ : St) (H : Hp) (Q : Bool → Hp → Prop), Inv X pins σ H s → t σ H Q →
    wpAny (model X.prog X.w) X.A (forIn ifs true fun c r => if r = true then do let ok ← isTrue c X.env (eval c X.env); pure (ForInStep.yield ok) else pure (ForInStep.yield r)) (TP X pins σ Q) X.xe s
def tYes : TT := fun _ H Q => Q true H
theorem pf_nil {X : Cx} : PF X [] tYes := fun _ _ _ H _ I h => wpAny_tests_nil ⟨H, I, h⟩
def lcW (σ0 : St) (g : TG) (tt : TT) (te : TE) (J : It) (H1 : Hp) (D : Addr) (Q : Hp → Prop) : Prop :=
  ∃ W : Nat → Nat → St → Hp → Prop, (∃ m, W 0 m σ0 (upd H1 D (.lst []))) ∧ ∀ i m τ H, W i m τ H →
    (J.stop i H ∧ Q H) ∨ (J.go i H ∧ ∃ N : St → Hp → Prop, (∀ τ' H', N τ' H' → ∃ m', m' < m ∧ W (i + 1) m' τ' H') ∧ ∀ x H', J.yld i H x H' → g x τ H' fun τ2 H2 => tt τ2 H2 fun b H3 =>
      if b = true then te τ2 H3 fun v H4 => ∃ acc, H4 D = some (.lst acc) ∧ acc.length < sizeLine ∧ N τ2 (upd H4 D (.lst (acc ++ [v]))) else N τ2 H3)
def tLc (wi : TI) (n : Nat) (ix : List Nat) (g : TG) (tt : TT) (te : TE) : TE := fun σ H Q => wi σ H fun J H1 => ∀ D, H1 D = none → lcW (inSt n ix σ) g tt te J H1 D fun H' => Q (.ref D) H'
section
variable {X : Cx} {scope : Scope} {ls ys : List Str} {ix : List Nat} {tg iter elt : Expr} {ifs : List Expr} {pos : Pos} {wi : TI} {g : TG} {tt : TT} {te : TE}
theorem comp_run {pins : List (Addr × Obj)} {σ : St} {H1 : Hp} {s : Shared} {J : It} {it : Addr} {fp : List Addr} {tn : Nat → Heap → Prop} {cl : List (Str × Addr)} {Q : Addr → Hp → Prop} {R : Value → Addr → Result → Shared → Prop} {E : Value → Shared → Prop} (hc : X.calm = true)
    (ok : CompOk X scope ls ys ix) (I : Inv X pins σ H1 s) (T : Turn X.prog X.w X.K tg J fp it tn) (st : tn 0 s.heap) (f2 : ∀ b ∈ fp, FpOk X pins H1 b)
    (hcl1 : ∀ x c, cl.lookup x = some c → X.env.cells.lookup x = some c) (hcl2 : ∀ y ∈ scope.names, y.2 = .free → ∃ c, cl.lookup y.1 = some c)
    (hg : ∀ cl C s H fp, PG (cxComp X (ls ++ ys) scope cl C s H fp) tg g) (ht : ∀ cl C s H fp, PF (cxComp X (ls ++ ys) scope cl C s H fp) ifs tt) (he : ∀ cl C s H fp, PE (cxComp X (ls ++ ys) scope cl C s H fp) elt te)
    (hJ : ∀ D, H1 D = none → lcW (inSt ls.length ix σ) g tt te J H1 D (Q D))
    (hR : ∀ D C H' s', Q D H' → Inv X pins σ H' s' → H' C = none → FpOk X pins H' C → (∃ m, s'.heap.Ns C m) → R (.ref D) C (.ok .next) s') :
    wpAny (model X.prog X.w) X.A (newList []) (fun acc s₃ => wpAny (model X.prog X.w) X.A (newFunctionEnv scope X.env.globals cl [] X.env.qual none .none (some X.env)) (fun cenv s₄ =>
      codeAny (model X.prog X.w) X.A (.compStart (.ListComp elt [⟨tg, iter, ifs, 0⟩] scope pos) 0 (.ref it) acc { cenv with scope := relabel scope X.env }) (R acc cenv.locals) s₄) E s₃) E s := by
  have hfp : ∀ b ∈ fp, b < s.heap.objs.size := fun b hb => by
    obtain ⟨o, e, _⟩ := T.obj _ _ st b hb
    exact Heap.lt_size e
  have I3 := I.lnew (ys := []) (its := []) (t' := s.toks) .nil (Nat.zero_le _)
  have hD : H1 s.heap.objs.size = none := I.fresh
  obtain ⟨W, ⟨m0, w0⟩, turn⟩ := hJ s.heap.objs.size hD
  refine wpAny_newObj_type (wpAny_newFunctionEnv ok.nocell (by intro y hy; simp at hy) (fun h₁ hns hsb => ?_) ok.kind)
  generalize hs3 : ({ s with heap := s.heap.push { cls := .type "list", data := .seq ([] : List Value).toArray }, toks := s.toks } : Shared) = s3 at I3
  have e3 : s.heap.push { cls := .type "list", dict := none, data := .seq ([] : List Value).toArray } = s3.heap := by rw [← hs3]
  have e3' : ({ s with heap := s.heap.push { cls := .type "list", dict := none, data := .seq ([] : List Value).toArray } } : Shared) = s3 := by rw [← hs3]
  generalize hH3 : upd H1 s.heap.objs.size (.lst []) = H3 at I3 w0
  have hsz : s3.heap.objs.size = s.heap.objs.size + 1 := by rw [← e3, Heap.size_push]
  have up3 : ∀ b o, s.heap.get? b = some o → s3.heap.get? b = some o := fun b o e => by rw [← e3]; exact Heap.get?_push_of_some _ e
  have f3 : ∀ b ∈ fp, FpOk X pins H3 b := fun b hb => by
    refine ⟨?_, (f2 b hb).2⟩
    rw [← hH3, upd_ne (Nat.ne_of_lt (hfp b hb))]
    exact (f2 b hb).1
  have hns : h₁.Ns s3.heap.objs.size (fun x => ([] : List (Str × Value)).reverse.lookup x) := by rw [← e3]; exact hns
  have hsb : Heap.SameBut s3.heap.objs.size (s3.heap.push { cls := .type (if (some X.env).isSome then "dict" else "frame"), data := .dict #[] }) h₁ := by rw [← e3]; exact hsb
  have up4 : ∀ b o, s3.heap.get? b = some o → h₁.get? b = some o := fun b o e => hsb.extBut b o (Nat.ne_of_lt (Heap.lt_size e)) (Heap.get?_push_of_some _ e)
  have Ic := comp_in (tk := s3.toks) I3 ok hcl1 hcl2 f3 (fun b hb => by rw [hsz]; exact Nat.lt_succ_of_lt (hfp b hb)) hns up4
  have stat : ∀ {H' : Hp} {pl : List (Addr × Obj)}, (∀ b ∈ fp, H' b = none) → pl = [] → ∀ b ∈ fp, FpOk (cxComp X (ls ++ ys) scope cl s3.heap.objs.size s3 H3 fp) pl H' b := fun {H' pl} hn hpl b hb => by
    subst hpl
    refine ⟨hn b hb, Nat.ne_of_lt (by rw [show (cxComp X (ls ++ ys) scope cl s3.heap.objs.size s3 H3 fp).env.locals = s3.heap.objs.size from rfl, hsz]; exact Nat.lt_succ_of_lt (hfp b hb)), Ic.ok.exfs b hb, .inl hb, fun x c e => (f3 b hb).2.2.2.2.1 x c (hcl1 x c e), fun p hp => absurd (show p ∈ ([] : List (Addr × Obj)) from hp) (by simp)⟩
  have loop : codeAny (model X.prog X.w) X.A (.compLoop (.ListComp elt [⟨tg, iter, ifs, 0⟩] scope pos) 0 (.ref it) (.ref s.heap.objs.size) (compEnvC scope cl s3.heap.objs.size X.env)) (R (.ref s.heap.objs.size) s3.heap.objs.size) { s3 with heap := h₁, toks := s3.toks } := by
    refine compLoop_go (fun n s' => ∃ i τ H', Inv (cxComp X (ls ++ ys) scope cl s3.heap.objs.size s3 H3 fp) [] τ H' s' ∧ tn i s'.heap ∧ (∀ b ∈ fp, H' b = none) ∧ W i n τ H') (fun _ _ => False) (fun _ _ h => h.elim) ?_ m0
      ⟨0, inSt ls.length ix σ, H3, Ic, T.keep _ _ _ st (fun b _ o e => up4 b o (up3 b o e)), fun b hb => (f3 b hb).1, w0⟩
    rintro n s4 ⟨i, τ, H4, I4, st4, fr4, w4⟩
    rcases turn i n τ H4 w4 with ⟨stop, qn⟩ | ⟨go, N, hN, step⟩
    · refine thn (T.done (cxComp X (ls ++ ys) scope cl s3.heap.objs.size s3 H3 fp) rfl rfl rfl hc i [] s4 τ H4 (fun _ _ => False) I4 (stat fr4 rfl) st4 stop) fun r s5 ⟨hr, I5⟩ => ?_
      subst hr
      have Io : Inv X pins σ H4 s5 := I3.call' (ch := fp) I5.os I5.base I5.hok I5.bare fun b hb => ⟨(f3 b hb).2.2.2.1, (f3 b hb).2.1, (f3 b hb).2.2.2.2.1, (f3 b hb).2.2.2.2.2⟩
      obtain ⟨m5, n5, _⟩ := I5.loc
      have hC : H4 s3.heap.objs.size = none := I5.free
      exact hR _ _ H4 s5 qn Io hC (I3.fpOk (Nat.le_refl _) hC) ⟨m5, n5⟩
    · refine thn (T.item (cxComp X (ls ++ ys) scope cl s3.heap.objs.size s3 H3 fp) rfl rfl rfl hc i [] s4 τ H4 (fun _ _ => False) I4 (stat fr4 rfl) st4 go) fun r s5 ⟨u, hr, h5⟩ => ?_
      subst hr
      refine thn h5 fun _ s6 ⟨x, H6, I6, r6, y6, st6, fr6⟩ => ?_
      have I6' := I6.pinned (stat fr6 rfl) (T.obj _ _ st6)
      have fin : ∀ {τ7 : St} {H7 : Hp} {s7 : Shared}, Inv (cxComp X (ls ++ ys) scope cl s3.heap.objs.size s3 H3 fp) ([] ++ pinsAt fp s6.heap) τ7 H7 s7 → N τ7 H7 → ∃ m, m < n ∧ ∃ i τ H', Inv (cxComp X (ls ++ ys) scope cl s3.heap.objs.size s3 H3 fp) [] τ H' s7 ∧ tn i s7.heap ∧ (∀ b ∈ fp, H' b = none) ∧ W i m τ H' := fun {τ7 H7 s7} I7 n7 => by
        obtain ⟨m', hm, w7⟩ := hN τ7 H7 n7
        refine ⟨m', hm, i + 1, τ7, H7, I7.unpinned, T.keep _ _ _ st6 fun b hb o e => (I7.pin (b, o) (List.mem_append_right _ (List.mem_append_right _ (mem_pinsAt hb e)))).1, fun b hb => ?_, w7⟩
        obtain ⟨o, e, d⟩ := T.obj _ _ st6 b hb
        exact (I7.pin (b, o) (List.mem_append_right _ (List.mem_append_right _ (mem_pinsAt hb e)))).2.1
      refine thn (hg _ _ _ _ _ _ s6 τ H6 x u _ I6' r6 (step x H6 y6)) fun _ s7 ⟨τ7, H7, I7, q7⟩ => ?_
      refine thn (ht _ _ _ _ _ _ s7 τ7 H7 _ I7 q7) fun b s8 ⟨H8, I8, q8⟩ => ?_
      cases b with
      | false =>
        rw [if_neg Bool.false_ne_true] at q8 ⊢
        exact fin I8 q8
      | true =>
        rw [if_pos rfl] at q8 ⊢
        refine thn (he _ _ _ _ _ _ s8 τ7 H8 _ I8 q8) fun y s9 ⟨v, H9, I9, r9, acc, hacc, hlen, n9⟩ => ?_
        exact thn (mt_append _ s9 τ7 H9 (.ref s.heap.objs.size) [v] (.ref s.heap.objs.size) [y] (fun _ H' => N τ7 H') I9 rfl (.cons r9 .nil) ⟨_, acc, v, rfl, rfl, hacc, hlen, n9⟩) fun _ s10 ⟨_, H10, I10, _, n10⟩ => fin I10 n10
  exact codeAny_compStart_list loop (T.self _ 0 _ _ _ (T.keep _ _ _ st (fun b _ o e => up4 b o (up3 b o e))) loop)
theorem pe_lc (hc : X.calm = true) (ok : CompOk X scope ls ys ix) (hi : PI X tg iter wi)
    (hg : ∀ cl C s H fp, PG (cxComp X (ls ++ ys) scope cl C s H fp) tg g) (ht : ∀ cl C s H fp, PF (cxComp X (ls ++ ys) scope cl C s H fp) ifs tt) (he : ∀ cl C s H fp, PE (cxComp X (ls ++ ys) scope cl C s H fp) elt te)
    (hs : ∀ x, foldedSetIterable iter X.env x = pure x := by intro _; rfl) : PE X (.ListComp elt [⟨tg, iter, ifs, 0⟩] scope pos) (tLc wi ls.length ix g tt te) := by
  intro pins s σ H Q I h
  obtain ⟨cl, hclos, hcl1, hcl2⟩ := closure_ok (scope := scope) (env := X.env) fun y hy hf => I.ok.has y.1 (.inl (ok.free y hy hf))
  rw [eval_ListComp]
  refine wpAny_comprehension_free (use := none) rfl hs hclos ok.kind ok.loc (thn (hi pins s σ H _ I h) fun v s1 h1 => thn h1 fun itv s2 h2 => ?_)
  obtain ⟨it, fp, tn, J, H2, rfl, I2, T, st2, f2, hJ⟩ := h2
  refine comp_run (R := fun acc C => compPost (model X.prog X.w) X.A X.xe none (EP X pins σ Q) acc C) hc ok I2 T st2 f2 hcl1 hcl2 hg ht he hJ fun D C H' s' q I' hC fC hm => ?_
  obtain ⟨m, hn⟩ := hm
  refine ⟨m, hn, fun h' hsb => ⟨.ref D, H', ?_, rfl, q⟩⟩
  exact I'.turned (t' := s'.toks) (fun b o hb e => (hsb.2 b hb).trans e) hC fC.2.1 fC.2.2.2.1 fC.2.2.2.2.1 fC.2.2.2.2.2
end
end L2
namespace L2
open PySem PySem.Spec PyProof.Rows
def Ev (t : TE) (σ : St) (H : Hp) (v : V) : Prop := ∀ Q : VK, Q v H → t σ H Q
def EvT (t : TT) (σ : St) (H : Hp) (b : Bool) : Prop := ∀ Q : Bool → Hp → Prop, Q b H → t σ H Q
def EvA (t : TA) (σ : St) (H : Hp) (vs : List V) : Prop := ∀ Q : List V → Hp → Prop, Q vs H → t σ H Q
section
variable {σ : St} {H : Hp} {ta tb tc te : TE} {t u : TT} {i j k : Int} {a b c : Bool} {v x y : V} {K : PySem.W.Frag}
theorem ev_c : Ev (tC v) σ H v := fun _ q => q
theorem ev_var {n : Nat} (h : σ[n]? = some (some v)) : Ev (tVar n) σ H v := fun _ q => ⟨v, h, q⟩
theorem ev_I0 {g : Int → Int → V} (ha : Ev ta σ H (.int i)) (hb : Ev tb σ H (.int j)) : Ev (tOp (rI0 g) ta tb) σ H (g i j) := fun _ q => ha _ (hb _ ⟨i, j, rfl, rfl, q⟩)
theorem ev_lt (ha : Ev ta σ H (.int i)) (hb : Ev tb σ H (.int j)) : Ev (tOp (rI0 fun i j => .bl (decide (i < j))) ta tb) σ H (.bl (decide (i < j))) := ev_I0 (g := fun i j => .bl (decide (i < j))) ha hb
theorem ev_le (ha : Ev ta σ H (.int i)) (hb : Ev tb σ H (.int j)) : Ev (tOp (rI0 fun i j => .bl (decide (i ≤ j))) ta tb) σ H (.bl (decide (i ≤ j))) := ev_I0 (g := fun i j => .bl (decide (i ≤ j))) ha hb
theorem ev_gt (ha : Ev ta σ H (.int i)) (hb : Ev tb σ H (.int j)) : Ev (tOp (rI0 fun i j => .bl (decide (j < i))) ta tb) σ H (.bl (decide (j < i))) := ev_I0 (g := fun i j => .bl (decide (j < i))) ha hb
theorem ev_ge (ha : Ev ta σ H (.int i)) (hb : Ev tb σ H (.int j)) : Ev (tOp (rI0 fun i j => .bl (decide (j ≤ i))) ta tb) σ H (.bl (decide (j ≤ i))) := ev_I0 (g := fun i j => .bl (decide (j ≤ i))) ha hb
theorem ev_I {C : Int → Int → Prop} {g : Int → Int → V} (ha : Ev ta σ H (.int i)) (hb : Ev tb σ H (.int j)) (hc : C i j) : Ev (tOp (rI C g) ta tb) σ H (g i j) := fun _ q => ha _ (hb _ ⟨i, j, rfl, rfl, hc, q⟩)
theorem ev_eqI (ha : Ev ta σ H (.int i)) (hb : Ev tb σ H (.int j)) : Ev (tOp rEq ta tb) σ H (.bl (decide (i = j))) := fun Q q => ha _ (hb _ ⟨rfl, by
  have e : decide (V.int i = V.int j) = decide (i = j) := by rw [dec_int]; rfl
  rw [e]; exact q⟩)
theorem ev_neI (ha : Ev ta σ H (.int i)) (hb : Ev tb σ H (.int j)) : Ev (tOp rNe ta tb) σ H (.bl (!decide (i = j))) := fun Q q => ha _ (hb _ ⟨rfl, by
  have e : decide (V.int i = V.int j) = decide (i = j) := by rw [dec_int]; rfl
  rw [e]; exact q⟩)
theorem ev_chain {p q : Int → Int → Bool} (ha : Ev ta σ H (.int i)) (hb : Ev tb σ H (.int j)) (hc : Ev tc σ H (.int k)) : Ev (tChain (rI0 fun i j => .bl (p i j)) (rI0 fun i j => .bl (q i j)) ta tb tc) σ H (.bl (p i j && q j k)) := fun Q z => by
  refine ha _ (hb _ ⟨i, j, rfl, rfl, p i j, rfl, ?_⟩)
  cases e : p i j with
  | true => rw [if_pos rfl]; rw [e, Bool.true_and] at z; exact hc _ ⟨j, k, rfl, rfl, z⟩
  | false => rw [if_neg Bool.false_ne_true]; rw [e, Bool.false_and] at z; exact z
theorem ev_and (ha : Ev ta σ H (.bl a)) (hb : a = true → Ev tb σ H (.bl b)) : Ev (tAndV ta tb) σ H (.bl (a && b)) := fun Q z => by
  refine ha _ ⟨a, rfl, ?_⟩
  cases a with
  | true => rw [if_pos rfl]; exact hb rfl _ z
  | false => rw [if_neg Bool.false_ne_true]; exact z
theorem ev_or (ha : Ev ta σ H (.bl a)) (hb : a = false → Ev tb σ H (.bl b)) : Ev (tOrV ta tb) σ H (.bl (a || b)) := fun Q z => by
  refine ha _ ⟨a, rfl, ?_⟩
  cases a with
  | true => rw [if_pos rfl]; exact z
  | false => rw [if_neg Bool.false_ne_true]; exact hb rfl _ z
theorem ev_ixT {p : Addr} {xs : List V} (ha : Ev ta σ H (.ref p)) (hb : Ev tb σ H (.int i)) (hs : SqT K H p xs) (he : atI xs i = some v) : Ev (tOp (rIxT K) ta tb) σ H v := fun _ q => ha _ (hb _ ⟨p, xs, i, v, rfl, rfl, hs, he, q⟩)
theorem ev_ixL {p : Addr} {xs : List V} (ha : Ev ta σ H (.ref p)) (hb : Ev tb σ H (.int i)) (hs : SqL K H p xs) (he : atI xs i = some v) : Ev (tOp (rIxL K) ta tb) σ H v := fun _ q => ha _ (hb _ ⟨p, xs, i, v, rfl, rfl, hs, he, q⟩)
theorem ev_isN (ha : Ev ta σ H x) (hb : Ev tb σ H .non) : Ev (tOp (fun x y H Q => y = .non ∧ Q (.bl (decide (x = .non))) H) ta tb) σ H (.bl (decide (x = .non))) := fun _ z => ha _ (hb _ ⟨rfl, z⟩)
theorem ev_call {sp : Sp} {dvs vs : List V} {E : XK} {t : TA} (ha : EvA t σ H vs) (hs : ∀ Q : VK, Q v H → sp (vs ++ dvs) H Q E) : Ev (tCall sp dvs E t) σ H v := fun Q q => ha _ (hs Q q)
theorem ev_cb {r : List V → Hp → VK → Prop} {vs : List V} {t : TA} (ha : EvA t σ H vs) (hs : ∀ Q : VK, Q v H → r vs H Q) : Ev (tCB r t) σ H v := fun Q q => ha _ (hs Q q)
theorem ea_nil : EvA tNil σ H [] := fun _ q => q
theorem ea_cons {t : TA} {vs : List V} (ha : Ev ta σ H v) (hr : EvA t σ H vs) : EvA (tCons ta t) σ H (v :: vs) := fun _ q => ha _ (hr _ q)
theorem et_test (h : Ev te σ H (.bl b)) : EvT (tTest te) σ H b := fun _ q => h _ ⟨b, rfl, q⟩
theorem et_B (h : Ev te σ H (.bl b)) : EvT (tB te) σ H b := fun _ q => h _ ⟨b, rfl, q⟩
theorem et_not (h : EvT t σ H b) : EvT (tNot t) σ H (!b) := fun _ q => h _ q
theorem et_and (ha : EvT t σ H a) (hb : a = true → EvT u σ H b) : EvT (tAnd t u) σ H (a && b) := fun Q z => by
  refine ha _ ?_
  cases a with
  | true => rw [if_pos rfl]; exact hb rfl _ z
  | false => rw [if_neg Bool.false_ne_true]; exact z
theorem et_or (ha : EvT t σ H a) (hb : a = false → EvT u σ H b) : EvT (tOr t u) σ H (a || b) := fun Q z => by
  refine ha _ ?_
  cases a with
  | true => rw [if_pos rfl]; exact z
  | false => rw [if_neg Bool.false_ne_true]; exact hb rfl _ z
theorem rd_if {tc : TT} {t u : TS} {D : Ends} (h : EvT tc σ H b) (h1 : b = true → t D σ H) (h2 : b = false → u D σ H) : tIfS tc t u D σ H := by
  refine h _ ?_
  cases b with
  | true => rw [if_pos rfl]; exact h1 rfl
  | false => rw [if_neg Bool.false_ne_true]; exact h2 rfl
theorem rd_ifF {tc : TT} {t u : TS} {D : Ends} (h : EvT tc σ H b) (hb : b = false) (h2 : u D σ H) : tIfS tc t u D σ H := rd_if h (fun e => absurd (hb.symm.trans e) Bool.false_ne_true) fun _ => h2
theorem rd_set {n : Nat} {D : Ends} (h : Ev te σ H v) (q : D.nx (σ.set n (some v)) H) : tAsg te (gName n) D σ H := h _ q
theorem rd_ret {D : Ends} (h : Ev te σ H v) (q : D.rt v H) : tRet te D σ H := h _ q
end
theorem cmL {i j : Int} (h1 : -(2 ^ 64) < i) (h2 : i < 2 ^ 64) : CMul i j := .inl ⟨h1, h2⟩
theorem cdB {i j : Int} (h1 : 0 < j) (h2 : j < 2 ^ 200) : CDivB i j := ⟨h1, h2⟩
theorem bt_len : bootBuiltins "len" = some (.builtin "len") := by decide +kernel
theorem bt_isinstance : bootBuiltins "isinstance" = some (.builtin "isinstance") := by decide +kernel
theorem bt_bool : bootBuiltins "bool" = some (.type "bool") := by decide +kernel
theorem bt_tuple : bootBuiltins "tuple" = some (.type "tuple") := by decide +kernel
theorem bt_list : bootBuiltins "list" = some (.type "list") := by decide +kernel
theorem bt_dict : bootBuiltins "dict" = some (.type "dict") := by decide +kernel
theorem bt_set : bootBuiltins "set" = some (.type "set") := by decide +kernel
theorem bt_max : bootBuiltins "max" = some (.builtin "max") := by decide +kernel
theorem bt_min : bootBuiltins "min" = some (.builtin "min") := by decide +kernel
theorem bt_any : bootBuiltins "any" = some (.builtin "any") := by decide +kernel
theorem bt_all : bootBuiltins "all" = some (.builtin "all") := by decide +kernel
theorem bt_zip : bootBuiltins "zip" = some (.type "zip") := by decide +kernel
theorem st {t : TS} {D : Ends} {σ : St} {H : Hp} {r : VK} {b c : St → Hp → Prop} (h : t D σ H) : ({ nx := t D, rt := r, bk := b, ct := c } : Ends).nx σ H := h
section
variable {σ : St} {H : Hp} {te : TE} {tc : TT} {t u : TS} {ta : TA} {D : Ends} {b : Bool} {v : V} {vs : List V} {n : Nat} {K : PySem.W.Frag}
theorem sq_set (h : Ev te σ H v) (q : u D (σ.set n (some v)) H) : tSeq (tAsg te (gName n)) u D σ H := h _ q
theorem sq_ifF (h : EvT tc σ H b) (hb : b = false) (q : u D σ H) : tSeq (tIfS tc t tNext) u D σ H := rd_ifF (D := { D with nx := u D }) h hb q
theorem sq_if (h : EvT tc σ H b) (h1 : b = true → t { D with nx := u D } σ H) (h2 : b = false → u D σ H) : tSeq (tIfS tc t tNext) u D σ H := rd_if (D := { D with nx := u D }) h h1 h2
theorem sq_tup (h : EvA ta σ H vs) (hz : vs.length ≤ sizeLine) (q : ∀ p, H p = none → u D (σ.set n (some (.ref p))) (upd H p (.tup vs))) : tSeq (tAsg (tTup ta) (gName n)) u D σ H := h _ ⟨hz, q⟩
theorem sq_un3 {p : Addr} {x y z : V} {i j k : Nat} (h : Ev te σ H (.ref p)) (hs : SqT K H p [x, y, z]) (q : u D (((σ.set i (some x)).set j (some y)).set k (some z)) H) :
    tSeq (tAsg te (gTup K 3 (gCons (gName i) (gCons (gName j) (gCons (gName k) gNil))))) u D σ H := h _ ⟨p, _, rfl, hs, rfl, _, _, rfl, _, _, rfl, _, _, rfl, rfl, q⟩
theorem or_F {t1 t2 : TT} {Q : Bool → Hp → Prop} (h : EvT t1 σ H b) (hb : b = false) (q : t2 σ H Q) : tOr t1 t2 σ H Q := by
  refine h _ ?_
  rw [hb, if_neg Bool.false_ne_true]
  exact q
theorem if_of {tc : TT} {t u : TS} (q : tc σ H fun b H1 => if b = true then t D σ H1 else u D σ H1) : tIfS tc t u D σ H := q
theorem sq_ifof (q : tc σ H fun b H1 => if b = true then t { D with nx := u D } σ H1 else u D σ H1) : tSeq (tIfS tc t tNext) u D σ H := q
theorem sq_cal {sp : Sp} (h : EvA ta σ H vs) (q : sp vs H (fun v H1 => u D (σ.set n (some v)) H1) E0) : tSeq (tAsg (tCall sp [] E0 ta) (gName n)) u D σ H := h _ (by rw [List.append_nil]; exact q)
theorem sq_ifJ {P : V → Prop} {k : Nat} (h : EvT tc σ H b) (h1 : b = true → ∃ v, Ev te σ H v ∧ P v) (h2 : b = false → ∃ v, σ[k]? = some (some v) ∧ P v) (q : ∀ v, P v → u D (σ.set k (some v)) H) :
    tSeq (tIfS tc (tAsg te (gName k)) tNext) u D σ H := by
  refine sq_if h (fun e => ?_) (fun e => ?_)
  · obtain ⟨v, hv, p⟩ := h1 e
    exact hv _ (q v p)
  · obtain ⟨v, hv, p⟩ := h2 e
    have z := q v p
    obtain ⟨hk, hv'⟩ := List.getElem?_eq_some_iff.mp hv
    rw [← hv', List.set_getElem_self] at z
    exact z
theorem gn {Q : St → Hp → Prop} (q : Q (σ.set n (some v)) H) : gName n v σ H Q := q
end
structure Callee (P : Program) (w : World) (K : PySem.W.Frag) (mg : Str → Option Value) (base : Heap) (x : Str) (k : Nat) (ps : List Str) (sp : Sp) : Prop where
  ex : ∃ f fd, FnOk P w K mg base CX0 k f fd ps sp ∧ mg x = some (.ref f) ∧ PySem.W.keepIn K (.ref f) = true ∧ Binds K fd ps []
theorem pe_cal {X : Cx} {x : Str} {k : Nat} {ps : List Str} {sp : Sp} {p pos : Pos} {e : Expr} {es : List Expr} {t : TA} (C : Callee X.prog X.w X.K X.mg X.base x k ps sp) (hr : Room k X.A) (hg : Gl X x) (ha : PA X (e :: es) t)
    (hdb : (x == ("__debug__" : Str)) = false := by decide) (he : starEach (e :: es) X.env = (false, eval e X.env) :: starEach es X.env := by rfl) (hpl : (backTo pos (starEach es X.env)).any (·.1) = false := by rfl) :
    PE X (.Call (.Name x p) (e :: es) [] pos) (tCall sp [] E0 t) := by
  obtain ⟨f, fd, G, hm, hk, hb⟩ := C.ex
  exact pe_call G hr hg hm hk hb .nil pass0 ha hdb he hpl
theorem SqT.same {K : PySem.W.Frag} {H H' : Hp} {a : Addr} {xs : List V} (e : Same H H') (h : SqT K H a xs) : SqT K H' a xs := by
  rcases h with (h | ⟨o, h⟩) | h
  · exact .inl (.inl (e _ _ h))
  · exact .inl (.inr ⟨o, e _ _ h⟩)
  · exact .inr h
theorem Same.upd {H H' : Hp} (e : Same H H') {p : Addr} {o : HO} (hp : H' p = none) : Same H (upd H' p o) := fun b u h => by
  rw [upd_ne (ne_of_none (e b u h) hp)]
  exact e b u h
end L2
namespace L2
open PySem PySem.Spec PyProof.Rows
section
variable {X : Cx} {tg : Expr}
end
theorem lc_range {lo : Int} {n : Nat} {σ0 : St} {g : TG} {tt : TT} {te : TE} {H1 : Hp} {D : Addr} {Q : Hp → Prop} (Pv : Nat → St → Hp → Prop) (h0 : Pv 0 σ0 (upd H1 D (.lst [])))
    (hs : ∀ i τ H, i < n → Pv i τ H → g (.int (lo + i)) τ H fun τ2 H2 => tt τ2 H2 fun b H3 =>
      if b = true then te τ2 H3 fun v H4 => ∃ acc, H4 D = some (.lst acc) ∧ acc.length < sizeLine ∧ Pv (i + 1) τ2 (upd H4 D (.lst (acc ++ [v]))) else Pv (i + 1) τ2 H3)
    (hd : ∀ τ H, Pv n τ H → Q H) : lcW σ0 g tt te (Itr lo n) H1 D Q := by
  refine ⟨fun i m τ H => m = n - i ∧ i ≤ n ∧ Pv i τ H, ⟨n, by simp, Nat.zero_le _, h0⟩, ?_⟩
  rintro i m τ H ⟨rfl, hi, p⟩
  by_cases hlt : i < n
  · refine .inr ⟨hlt, Pv (i + 1), fun τ' H' p' => ⟨n - (i + 1), by omega, rfl, hlt, p'⟩, fun x H' y => ?_⟩
    obtain ⟨e, y⟩ := y
    subst e y
    exact hs i τ _ hlt p
  · have e : i = n := by omega
    subst e
    exact .inl ⟨Nat.le_refl _, hd τ H p⟩
theorem lc_listG {K : PySem.W.Frag} {a : Addr} {xs : List V} {σ0 : St} {g : TG} {tt : TT} {te : TE} {H1 : Hp} {D : Addr} {Q : Hp → Prop} (Pv : Nat → St → Hp → Prop) (h0 : Pv 0 σ0 (upd H1 D (.lst [])))
    (hl : ∀ i τ H, i ≤ xs.length → Pv i τ H → SqL K H a xs)
    (hs : ∀ i x τ H, xs[i]? = some x → Pv i τ H → g x τ H fun τ2 H2 => tt τ2 H2 fun b H3 =>
      if b = true then te τ2 H3 fun v H4 => ∃ acc, H4 D = some (.lst acc) ∧ acc.length < sizeLine ∧ Pv (i + 1) τ2 (upd H4 D (.lst (acc ++ [v]))) else Pv (i + 1) τ2 H3)
    (hd : ∀ τ H, Pv xs.length τ H → Q H) : lcW σ0 g tt te (Itl K a) H1 D Q := by
  refine ⟨fun i m τ H => m = xs.length - i ∧ i ≤ xs.length ∧ Pv i τ H, ⟨xs.length, by simp, Nat.zero_le _, h0⟩, ?_⟩
  rintro i m τ H ⟨rfl, hi, p⟩
  have q := hl i τ H hi p
  by_cases hlt : i < xs.length
  · refine .inr ⟨⟨xs, xs[i], q, by simp [hlt]⟩, Pv (i + 1), fun τ' H' p' => ⟨xs.length - (i + 1), by omega, rfl, hlt, p'⟩, fun x H' y => ?_⟩
    obtain ⟨e, y⟩ := y
    subst e
    exact hs i x τ _ (y xs q) p
  · have e : i = xs.length := by omega
    subst e
    exact .inl ⟨⟨xs, q, Nat.le_refl _⟩, hd τ H p⟩
end L2
namespace L2
open PySem PySem.Spec PyProof.Rows
structure FlyT (h : Heap) (a T : Addr) (cls : Value) : Prop where
  ex : ∃ (oe : Obj) (vs : Array Value) (oT : Obj) (ts : Array Value) (a0 : Value), h.get? a = some oe ∧ oe.cls = cls ∧ vs[0]? = some a0 ∧ oe.data = .fields vs ∧ vs[1]? = some (.ref T) ∧ T ≠ a ∧ h.get? T = some oT ∧ oT.data = .fields ts ∧ ts[3]? = some .none
def CX1 (P : Program) (w : World) : CXT := fun outer H s E e s' => ∃ (a T : Addr) (C : Value) (H' : Hp), e = .ref a ∧ s'.os = s.os ∧ AllBare s'.gens ∧ Un (frs outer) [] H H' s.heap s'.heap ∧ HOk P w H' s'.heap ∧
  H' a = none ∧ H' T = none ∧ s.heap.get? a = none ∧ s.heap.get? T = none ∧ FlyT s'.heap a T C ∧ E C none H'
theorem ObjOk.there {P : Program} {w : World} {H : Hp} {h : Heap} {a : Addr} {o : HO} (x : ObjOk P w H h a o) : ∃ ob, h.get? a = some ob := by
  cases o with
  | lst xs => obtain ⟨_, _, _, _, e⟩ := x; exact ⟨_, e⟩
  | tup xs => obtain ⟨_, _, _, ob, e, _⟩ := x; exact ⟨_, e⟩
  | dK kvs => obtain ⟨_, _, _, _, o, _, _, e, _⟩ := x; exact ⟨_, e⟩
  | dT kvs => obtain ⟨_, _, _, _, o, _, _, e, _⟩ := x; exact ⟨_, e⟩
  | set S n => obtain ⟨o, _, _, _, e, _⟩ := x; exact ⟨_, e⟩
  | ins C dx fs => obtain ⟨_, _, _, e, _⟩ := x; exact ⟨_, e⟩
  | own y => exact x
  | xd fs => obtain ⟨_, ⟨_, _, _, e, _⟩, _⟩ := x; exact ⟨_, e⟩
  | rng lo hi => obtain ⟨_, _, _, e⟩ := x; exact ⟨_, e⟩
  | frz ob u => obtain ⟨e, _⟩ := x; exact ⟨_, e⟩
  | tbl ps => exact ⟨_, (show h.get? a = some _ from x)⟩
  | met f y => exact ⟨_, (show h.get? a = some _ from x)⟩
  | ext φ => exact x.2.1
theorem HOk.none_of {P : Program} {w : World} {H : Hp} {h : Heap} {a : Addr} (x : HOk P w H h) (e : h.get? a = none) : H a = none := by
  cases q : H a with
  | none => rfl
  | some u =>
    obtain ⟨o, z⟩ := (x a u q).there
    rw [e] at z; cases z
section
variable {P : Program} {w : World} {K : PySem.W.Frag} {mg : Str → Option Value} {base : Heap} {N : List Str} {qual : Str} {scope : Scope} {f : Addr} {cd : Value} {A : Around} {outer : List Env} {s₀ : Shared} {H₀ : Hp} {E : XK}
end
section
variable {X : Cx}
structure CalleeX (P : Program) (w : World) (K : PySem.W.Frag) (mg : Str → Option Value) (base : Heap) (x : Str) (k : Nat) (ps : List Str) (sp : Sp) : Prop where
  ex : ∃ f fd, FnOk P w K mg base (CX1 P w) k f fd ps sp ∧ mg x = some (.ref f) ∧ PySem.W.keepIn K (.ref f) = true ∧ Binds K fd ps []
end
section
variable {P : Program} {w : World} {K : PySem.W.Frag} {mg : Str → Option Value} {base : Heap} {N : List Str} {qual : Str} {scope : Scope} {f : Addr} {cd : Value} {A : Around} {outer : List Env} {s₀ : Shared} {H₀ : Hp} {E : XK}
end
end L2
namespace L2
open PySem PySem.Spec PyProof.Rows
section
variable {P : Program} {w : World} {K : PySem.W.Frag} {mg : Str → Option Value} {base : Heap}
end
section
variable {X : Cx} {pins : List (Addr × Obj)} {σ : St} {H : Hp} {s : Shared}
end
section
variable {X : Cx}
end
end L2
namespace L2
open PySem PySem.Spec PyProof.Rows
open PySem.W (Looks)
open Builtin Builtin.ObjectAttr Builtin.Getset_descriptor
structure ExcCls (K : PySem.W.Frag) (C : Addr) : Prop where
  ga : PySem.W.findIn K (.ref C) "__getattribute__" = some (some (.builtin "BaseException.__getattribute__"))
  gt : PySem.W.findIn K (.ref C) "__getattr__" = some none
  cl : PySem.W.findIn K (.ref C) "__class__" = some (some (.builtin "object.__class__"))
  gg : PySem.W.specialIn K (.builtin "object.__class__") "__get__" = some (some (.builtin "getset_descriptor.__get__"))
  tk : PySem.W.takesIn K (.builtin "object.__class__") = some true
  ob : PySem.W.mroIn K C (.type "object") = some true
  be : PySem.W.mroIn K C (.type "BaseException") = some true
section
variable {prog : Program} {w : World} {A : Around} {E : Value → Shared → Prop} {K : PySem.W.Frag} {C a : Addr} {h : Heap} {g : Array GenState} {d : Drawn} {t : Nat} {os : OsState} {o : Obj}
end
section
variable {X : Cx}
end
end L2
namespace L2
open PySem PySem.Spec PyProof.Rows
section
variable {X : Cx}
theorem vals_refs : ∀ {cs : List Addr} {us : List Value}, Vals (cs.map V.ref) us → us = cs.map Value.ref
  | [], _, .nil => rfl
  | _ :: _, _, .cons r t => by rw [vals_refs t]; cases (show _ = Value.ref _ from r); rfl
def FP (X : Cx) (e : Expr) (c : St → Hp → Prop) : Prop := ∀ (pins : List (Addr × Obj)) (σ : St) (H : Hp) (s : Shared) (Q : Value → Shared → Prop), Inv X pins σ H s → c σ H →
  (∀ y t s', Inv X pins σ H s' → y.length ≤ 6000 → Q (.str y t) s') → wpAny (model X.prog X.w) X.A (eval e X.env) Q X.xe s
inductive FPs (X : Cx) : List Expr → (St → Hp → Prop) → Prop where
  | nil : FPs X [] fun _ _ => True
  | cons {e es c cs} : FP X e c → FPs X es cs → FPs X (e :: es) fun σ H => c σ H ∧ cs σ H
inductive Fm (K : PySem.W.Frag) (H : Hp) : V → Prop where
  | int (i : Int) : i.natAbs.log2 < 1920 → Fm K H (.int i)
  | tup (a : Addr) (is : List Int) : SqT K H a (is.map V.int) → is.length ≤ 3 → (∀ i ∈ is, i.natAbs.log2 < 1920) → Fm K H (.ref a)
theorem lg {i : Int} (h1 : -(2 ^ 200) < i) (h2 : i < 2 ^ 200) : i.natAbs.log2 < 1920 := by
  by_cases h : i.natAbs = 0
  · rw [h]; decide
  · rw [Nat.log2_lt h]
    have h3 : i.natAbs < 2 ^ 200 := by omega
    exact Nat.lt_of_lt_of_le h3 (Nat.pow_le_pow_right (n := 2) (by decide) (by decide))
theorem pe_globC {x : Str} {C : Addr} {pos : Pos} (hg : Gl X x) (hm : X.mg x = some (.ref C)) (hd : (x == ("__debug__" : Str)) = false := by decide) : PE X (.Name x pos) (tC (.ref C)) := pe_glob hg hm rfl hd
theorem sq_asg {te : TE} {u : TS} {D : Ends} {σ : St} {H : Hp} {n : Nat} (q : te σ H fun v H1 => u D (σ.set n (some v)) H1) : tSeq (tAsg te (gName n)) u D σ H := q
structure ExcN (K : PySem.W.Frag) (mg : Str → Option Value) (x : Str) (C : Addr) : Prop where
  bd : mg x = some (.ref C)
  ex : PySem.W.excIn K C [.type "ValueError", .type "Exception", .type "BaseException", .type "object"] "ValueError.__new__" = true
  ok : ExcCls K C
end
end L2
namespace L2
open PySem PySem.Spec PyProof.Rows
structure MCallee (P : Program) (w : World) (K : PySem.W.Frag) (mg : Str → Option Value) (base : Heap) (C : Addr) (m : Str) (k : Nat) (ps : List Str) (sp : Sp) : Prop where
  ex : ∃ f fd, FnOk P w K mg base CX0 k f fd ps sp ∧ Meth K C m f ∧ Binds K fd ps []
structure KCallee (P : Program) (w : World) (K : PySem.W.Frag) (mg : Str → Option Value) (base : Heap) (C : Addr) (x : Str) (k : Nat) (ps : List Str) (sp : Sp) : Prop where
  ex : ∃ f fd, FnOk P w K mg base CX0 k f fd ps sp ∧ Mk K C f ∧ mg x = some (.ref C) ∧ Binds K fd ps []
section
variable {X : Cx} {C : Addr} {k : Nat} {ps : List Str} {sp : Sp} {x m : Str} {p pos apos : Pos} {e o : Expr} {es : List Expr} {ta : TE} {t : TA}
theorem pe_met {pl : Sem Bool} (he : PE X o ta) (c : Cls X.K C) (G : MCallee X.prog X.w X.K X.mg X.base C m k ps sp) (hr : Room k X.A) (ha : PA X (e :: es) t)
    (hst : starEach (e :: es) X.env = (false, eval e X.env) :: starEach es X.env := by rfl) (hpl : (backTo pos (starEach es X.env)).any (·.1) = false := by rfl)
    (ht : eval (.Call (.Attribute o m apos) (e :: es) [] pos) X.env = (do
      let ov ← eval o X.env
      standAt apos.atName
      let (f, first) ← holding [ov] (getMethod ov m pl)
      callWith pos f first (backTo pos (starEach (e :: es) X.env)) (backToKw pos (keywordEach [] X.env))) := by rfl) :
    PE X (.Call (.Attribute o m apos) (e :: es) [] pos) (tMeth C m sp [] E0 ta t) := by
  obtain ⟨f, fd, F, hm, hb⟩ := G.ex
  exact pe_meth (pl := pl) he c hm F hr hb .nil pass0 ha hst hpl ht
theorem pe_mk (G : KCallee X.prog X.w X.K X.mg X.base C x k ps sp) (hr : Room (k + 1) X.A) (hg : Gl X x) (ha : PA X (e :: es) t) (hdb : (x == ("__debug__" : Str)) = false := by decide)
    (he : starEach (e :: es) X.env = (false, eval e X.env) :: starEach es X.env := by rfl) (hpl : (backTo pos (starEach es X.env)).any (·.1) = false := by rfl) : PE X (.Call (.Name x p) (e :: es) [] pos) (tMake C sp [] E0 t) := by
  obtain ⟨f, fd, F, M, hm, hb⟩ := G.ex
  exact pe_make M F hr hg hm hb .nil pass0 ha hdb he hpl
end
theorem lc_el {te : TE} {τ : St} {H : Hp} {R : VK} {N : Hp → Prop} (h : te τ H R) : tYes τ H fun b H3 => if b = true then te τ H3 R else N H3 := by
  show if true = true then te τ H R else N H
  rw [if_pos rfl]
  exact h
section
variable {σ : St} {H : Hp} {tc : TT} {te : TE} {t u v : TS} {D : Ends} {a b : Bool}
theorem sq_ife (h : EvT tc σ H b) (h1 : b = true → t { D with nx := v D } σ H) (h2 : b = false → u { D with nx := v D } σ H) : tSeq (tIfS tc t u) v D σ H := by
  refine h _ ?_
  cases b with
  | true => rw [if_pos rfl]; exact h1 rfl
  | false => rw [if_neg Bool.false_ne_true]; exact h2 rfl
theorem sq_ifR (J : St → Hp → Prop) (h : EvT tc σ H b) (h1 : b = true → ∀ R : St → Hp → Prop, (∀ σ H, J σ H → R σ H) → t { D with nx := R } σ H) (h2 : b = false → ∀ R : St → Hp → Prop, (∀ σ H, J σ H → R σ H) → u { D with nx := R } σ H)
    (hv : ∀ σ H, J σ H → v D σ H) : tSeq (tIfS tc t u) v D σ H := sq_ife h (fun e => h1 e _ hv) fun e => h2 e _ hv
end
end L2
namespace L2
open PySem PySem.Spec PyProof.Rows
structure MCalleeX (P : Program) (w : World) (K : PySem.W.Frag) (mg : Str → Option Value) (base : Heap) (C : Addr) (m : Str) (k : Nat) (ps : List Str) (sp : Sp) : Prop where
  ex : ∃ f fd, FnOk P w K mg base (CX1 P w) k f fd ps sp ∧ Meth K C m f ∧ Binds K fd ps []
structure KCalleeX (P : Program) (w : World) (K : PySem.W.Frag) (mg : Str → Option Value) (base : Heap) (C : Addr) (x : Str) (k : Nat) (ps : List Str) (sp : Sp) : Prop where
  ex : ∃ f fd, FnOk P w K mg base (CX1 P w) k f fd ps sp ∧ Mk K C f ∧ mg x = some (.ref C) ∧ Binds K fd ps []
section
variable {X : Cx} {Ex : St → Value → Hp → Prop} {C : Addr} {k : Nat} {f : Addr} {fd : FuncData} {ps : List Str} {sp : Sp} {x m : Str} {p pos apos : Pos} {e o : Expr} {es : List Expr} {ta : TE} {t : TA}
end
end L2
namespace L2
open PySem PySem.W PyProof.Rows
def evT {α : Type} (lt : Nat → Nat → Bool) : KasT α → α
  | .ret a => a
  | .ask i j k => evT lt (k (lt i j))
inductive AskE (lt : Nat → Nat → Bool) (n : Nat) : {α : Type} → KasT α → Prop where
  | ret {α : Type} (a : α) : AskE lt n (KasT.ret a)
  | ask {α : Type} {i j : Nat} {k : Bool → KasT α} : i < n → j < n → AskE lt n (k (lt i j)) → AskE lt n (.ask i j k)
theorem AskE.bind {lt : Nat → Nat → Bool} {n : Nat} {α β : Type} {f : α → KasT β} : ∀ {t : KasT α}, AskE lt n t → AskE lt n (f (evT lt t)) → AskE lt n (t.bind f)
  | .ret _, _, hf => hf
  | .ask _ _ _, .ask h1 h2 h3, hf => .ask h1 h2 (AskE.bind h3 hf)
section
variable {O : KeyOrd} (key : Nat → O.α)
def kA (p : Array Nat) (k : Nat) : O.α := key (p.getD k 0)
def Up (p : Array Nat) (n : Nat) : Prop := ∀ i j, i ≤ j → j < n → O.kle (kA key p i) (kA key p j)
def Dn (p : Array Nat) (n : Nat) : Prop := ∀ i j, i ≤ j → j < n → O.kle (kA key p j) (kA key p i)
def PermN (n : Nat) (p : Array Nat) : Prop := p.Perm (List.toArray (List.range n))
variable {key}
theorem PermN.size {n : Nat} {p : Array Nat} (h : PermN n p) : p.size = n := by
  have := h.size_eq
  simpa using this
theorem PermN.lt {n : Nat} {p : Array Nat} (h : PermN n p) (k : Nat) (hk : k < n) : p.getD k 0 < n := by
  have hz := h.size
  have hm : p[k]'(by omega) ∈ p := Array.getElem_mem _
  have := (h.mem_iff).mp hm
  rw [Array.getD_eq_getD_getElem?, Array.getElem?_eq_getElem (by omega)]
  simpa using this
theorem getD_rev {p : Array Nat} {i j : Nat} (hj : j ≤ p.size) (k : Nat) : (kas_rev p i j).getD k 0 = if i ≤ k ∧ k < j then p.getD (i + j - 1 - k) 0 else p.getD k 0 := by
  unfold kas_rev
  rw [Array.getD_eq_getD_getElem?, getElem?_mirror_all hj]
  split <;> rw [Array.getD_eq_getD_getElem?]
theorem Up.snoc {p : Array Nat} {n : Nat} (h : Up key p n) (hn : 1 ≤ n) (hl : O.kle (kA key p (n - 1)) (kA key p n)) : Up key p (n + 1) := fun i j hij hj => by
  by_cases e : j = n
  · subst e
    by_cases e2 : i = j
    · subst e2; exact KeyOrd.kle_refl _
    · exact KeyOrd.kle_trans (h i (j - 1) (by omega) (by omega)) hl
  · exact h i j hij (by omega)
theorem Dn.snoc {p : Array Nat} {n : Nat} (h : Dn key p n) (hn : 1 ≤ n) (hl : O.kle (kA key p n) (kA key p (n - 1))) : Dn key p (n + 1) := fun i j hij hj => by
  by_cases e : j = n
  · subst e
    by_cases e2 : i = j
    · subst e2; exact KeyOrd.kle_refl _
    · exact KeyOrd.kle_trans hl (h i (j - 1) (by omega) (by omega))
  · exact h i j hij (by omega)
theorem Dn.turn {p : Array Nat} {n : Nat} (h : Dn key p n) (hn : n ≤ p.size) : Up key (kas_rev p 0 n) n := fun i j hij hj => by
  unfold kA
  rw [getD_rev hn, getD_rev hn, if_pos ⟨Nat.zero_le _, by omega⟩, if_pos ⟨Nat.zero_le _, by omega⟩]
  exact h _ _ (by omega) (by omega)
end
end L2
namespace L2
open PySem PySem.Spec PyProof.Rows
mutual
inductive Dp (K : PySem.W.Frag) (H : Hp) : V → PyData → Prop
  | non : Dp K H .non .none
  | bl (b : Bool) : Dp K H (.bl b) (.bool b)
  | int (i : Int) : Dp K H (.int i) (.int i)
  | str (x : Str) (h : PyData.strOk x = true) : Dp K H (.str x) (.str x)
  | tup {a : Addr} {xs : List V} {ds : List PyData} (h : SqT K H a xs) (r : Dps K H xs ds) : Dp K H (.ref a) (.tuple ds)
  | lst {a : Addr} {xs : List V} {ds : List PyData} (h : SqL K H a xs) (r : Dps K H xs ds) : Dp K H (.ref a) (.list ds)
inductive Dps (K : PySem.W.Frag) (H : Hp) : List V → List PyData → Prop
  | nil : Dps K H [] []
  | cons {x : V} {xs : List V} {d : PyData} {ds : List PyData} (h : Dp K H x d) (r : Dps K H xs ds) : Dps K H (x :: xs) (d :: ds)
end
mutual
theorem Dp.lay {K : PySem.W.Frag} {H : Hp} : ∀ {v : V} {d : PyData}, Dp K H v d → d.canLay0 = true
  | _, _, .non => rfl
  | _, _, .bl _ => rfl
  | _, _, .int _ => rfl
  | _, _, .str _ h => by simpa [PyData.canLay0] using h
  | _, _, .tup _ r => by simpa [PyData.canLay0] using r.lay
  | _, _, .lst _ r => by simpa [PyData.canLay0] using r.lay
theorem Dps.lay {K : PySem.W.Frag} {H : Hp} : ∀ {xs : List V} {ds : List PyData}, Dps K H xs ds → PyData.canLayAll0 ds = true
  | _, _, .nil => by simp [PyData.canLayAll0]
  | _, _, .cons h r => by simp [PyData.canLayAll0, h.lay, r.lay]
end
mutual
theorem Dp.reads {X : Cx} {pins : List (Addr × Obj)} {σ : St} {H : Hp} {s : Shared} (I : Inv X pins σ H s) : ∀ {v : V} {d : PyData} {u : Value}, Dp X.K H v d → RelV v u → ∃ as, Reads s.heap u d as
  | _, _, _, .non, r => by cases (show _ = Value.none from r); exact ⟨_, .none⟩
  | _, _, _, .bl b, r => by cases (show _ = Value.bool b from r); exact ⟨_, .bool b⟩
  | _, _, _, .int i, r => by obtain ⟨t, rfl⟩ := r; exact ⟨_, .int i t⟩
  | _, _, _, .str x _, r => by obtain ⟨t, rfl⟩ := r; exact ⟨_, .str x t⟩
  | _, _, _, .tup (a := a) h rs, r => by
    cases (show _ = Value.ref a from r)
    obtain ⟨its, rv, ⟨o, ho, hc, n, hd⟩, _⟩ := I.tuple h
    obtain ⟨as, ra⟩ := Dps.reads I rs rv
    exact ⟨_, .tuple ho hc hd (by simpa using ra)⟩
  | _, _, _, .lst (a := a) h rs, r => by
    cases (show _ = Value.ref a from r)
    obtain ⟨its, rv, pl, _⟩ := I.list h
    obtain ⟨o, ho, hc, n, hd⟩ := pl.isList
    obtain ⟨as, ra⟩ := Dps.reads I rs rv
    exact ⟨_, .list ho hc hd (by simpa using ra)⟩
theorem Dps.reads {X : Cx} {pins : List (Addr × Obj)} {σ : St} {H : Hp} {s : Shared} (I : Inv X pins σ H s) : ∀ {xs : List V} {ds : List PyData} {us : List Value}, Dps X.K H xs ds → Vals xs us → ∃ as, ReadsAll s.heap us ds as
  | _, _, _, .nil, .nil => ⟨_, .nil⟩
  | _, _, _, .cons h rs, .cons r rr => by
    obtain ⟨as, ra⟩ := Dp.reads I h r
    obtain ⟨bs, rb⟩ := Dps.reads I rs rr
    exact ⟨_, .cons ra rb⟩
end
section
variable {X : Cx}
end
mutual
theorem eqv_refl : ∀ {d : PyData}, d.canLay0 = true → PyData.eqv d d = true
  | .none, _ => by simp [PyData.eqv]
  | .bool _, _ => by simp [PyData.eqv]
  | .int _, _ => by simp [PyData.eqv]
  | .str _, _ => by simp [PyData.eqv]
  | .list xs, h => by simp only [PyData.eqv]; exact eqvAll_refl (by simpa [PyData.canLay0] using h)
  | .tuple xs, h => by simp only [PyData.eqv]; exact eqvAll_refl (by simpa [PyData.canLay0] using h)
  | .dict _, h => by simp [PyData.canLay0] at h
theorem eqvAll_refl : ∀ {ds : List PyData}, PyData.canLayAll0 ds = true → PyData.eqvAll ds ds = true
  | [], _ => by simp [PyData.eqvAll]
  | d :: r, h => by
    have h' : d.canLay0 = true ∧ PyData.canLayAll0 r = true := by simpa [PyData.canLayAll0] using h
    simp only [PyData.eqvAll, eqv_refl h'.1, eqvAll_refl h'.2, Bool.and_self]
end
theorem dps_ints {K : PySem.W.Frag} {H : Hp} : ∀ (ns : List Int), Dps K H (ns.map V.int) (ns.map PyData.int)
  | [] => .nil
  | n :: r => .cons (.int n) (dps_ints r)
theorem Dp.ints {K : PySem.W.Frag} {H : Hp} {a : Addr} {ns : List Int} (h : SqT K H a (ns.map V.int)) : Dp K H (.ref a) (.tuple (ns.map PyData.int)) := .tup h (dps_ints ns)
theorem eqvAll_ints : ∀ (ns ms : List Int), PyData.eqvAll (ns.map PyData.int) (ms.map PyData.int) = decide (ns = ms)
  | [], [] => by simp [PyData.eqvAll]
  | [], _ :: _ => by simp [PyData.eqvAll]
  | _ :: _, [] => by simp [PyData.eqvAll]
  | n :: r, m :: t => by
    simp only [List.map_cons, PyData.eqvAll, PyData.eqv, eqvAll_ints r t, List.cons.injEq]
    by_cases h1 : n = m <;> by_cases h2 : r = t <;> simp [h1, h2]
theorem eqv_tints (ns ms : List Int) : PyData.eqv (.tuple (ns.map PyData.int)) (.tuple (ms.map PyData.int)) = decide (ns = ms) := by simp only [PyData.eqv]; exact eqvAll_ints ns ms
theorem depthAll_le {n : Nat} : ∀ {ds : List PyData}, (∀ d ∈ ds, d.depth ≤ n) → PyData.depthAll ds ≤ n
  | [], _ => by simp [PyData.depthAll]
  | d :: r, h => by
    simp only [PyData.depthAll]
    exact Nat.max_le.mpr ⟨h d List.mem_cons_self, depthAll_le fun e he => h e (List.mem_cons_of_mem _ he)⟩
theorem depth_tints (ns : List Int) : (PyData.tuple (ns.map PyData.int)).depth ≤ 1 := by
  have : PyData.depthAll (ns.map PyData.int) ≤ 0 := depthAll_le fun d hd => by
    obtain ⟨i, _, rfl⟩ := List.mem_map.mp hd
    simp [PyData.depth]
  simp only [PyData.depth]; omega
theorem SqT.kept {K : PySem.W.Frag} {H H' : Hp} {a : Addr} {xs : List V} (e : ∀ b o, H b = some o → H' b = some o) (h : SqT K H a xs) : SqT K H' a xs := SqT.same e h
mutual
theorem Dp.same {K : PySem.W.Frag} {H H' : Hp} (e : Same H H') : ∀ {v : V} {d : PyData}, Dp K H v d → Dp K H' v d
  | _, _, .non => .non
  | _, _, .bl b => .bl b
  | _, _, .int i => .int i
  | _, _, .str x h => .str x h
  | _, _, .tup h r => .tup (h.same e) (Dps.same e r)
  | _, _, .lst h r => .lst (e.seq h) (Dps.same e r)
theorem Dps.same {K : PySem.W.Frag} {H H' : Hp} (e : Same H H') : ∀ {xs : List V} {ds : List PyData}, Dps K H xs ds → Dps K H' xs ds
  | _, _, .nil => .nil
  | _, _, .cons h r => .cons (Dp.same e h) (Dps.same e r)
end
section
variable {σ : St} {H : Hp} {ta tb : TE} {x y : V} {d e : PyData} {K : PySem.W.Frag}
end
end L2
namespace L2
open PySem PySem.Spec PyProof.Rows
abbrev Tups (H : Hp) (as : List Addr) (cs : List (List Int)) : Prop := Paired (fun a (c : List Int) => H a = some (.tup (c.map V.int))) as cs
theorem Tups.at {H : Hp} : ∀ {as : List Addr} {cs : List (List Int)} {i : Nat} {a : Addr}, Tups H as cs → as[i]? = some a → ∃ c, cs[i]? = some c ∧ H a = some (.tup (c.map V.int))
  | _, _, 0, _, .cons h _, e => by cases e; exact ⟨_, rfl, h⟩
  | _, _, i + 1, _, .cons _ t, e => Tups.at (i := i) t e
  | _, _, _, _, .nil, e => by simp at e
theorem Tups.same {H H' : Hp} {as : List Addr} {cs : List (List Int)} (h : Tups H as cs) (e : Same H H') : Tups H' as cs := Paired.mapP h fun _ _ z => e _ _ z
open PySem.W in
theorem katlex_ints {prog : Program} {w : World} {A : Around} {b fin : Bool} {Q : Bool → Shared → Prop} {s : Shared} : ∀ (us ws : List Value) (ns ms : List Int) (i : Nat), Vals (ns.map V.int) us → Vals (ms.map V.int) ws → fin = decide (ns.length < ms.length) →
    Q (HT.lexLt ns ms) s → KatLex prog w A b fin Q (us.zip ws) i s
  | [], ws, ns, ms, i, r1, r2, hf, h => by
    cases ns with
    | cons n r => cases r1
    | nil =>
      refine kat_nil ?_
      rw [hf]
      cases ms with
      | nil => exact h
      | cons m t => exact h
  | u :: us, [], ns, ms, i, r1, r2, hf, h => by
    cases ms with
    | cons m t => cases r2
    | nil =>
      refine kat_nil ?_
      rw [hf]
      cases ns with
      | nil => exact h
      | cons m t => exact h
  | u :: us, v :: ws, ns, ms, i, r1, r2, hf, h => by
    cases ns with
    | nil => cases r1
    | cons n r =>
      cases ms with
      | nil => cases r2
      | cons m t =>
        cases r1 with
        | cons q1 r1 =>
          cases r2 with
          | cons q2 r2 =>
            obtain ⟨t1, rfl⟩ := q1
            obtain ⟨t2, rfl⟩ := q2
            refine kat_cons (wpAny_eqBool_int ?_)
            rw [HT.lexLt_cons] at h
            refine kat_go (fun e => ?_) (fun e => ?_)
            · have e' : n = m := by simpa using e
              rw [if_pos e'] at h
              exact kat_yes (katlex_ints us ws r t (i + 1) r1 r2 (by rw [hf]; simp) h)
            · have e' : ¬ n = m := by simpa using e
              rw [if_neg e'] at h
              refine kat_no ?_
              cases (b && i == 0) with
              | true => exact oneLt_int h
              | false => exact kat_one _ _ (lt_int h)
section
variable {X : Cx}
end
section
variable {prog : Program} {w : World} {A : Around} {E : Value → Shared → Prop} {s : Shared}
end
section
variable {X : Cx}
end
section
variable {X : Cx}
end
end L2
namespace L2
open PySem PySem.Spec PyProof.Rows
abbrev cp (z : Str) : List Nat := z.cps.toList
theorem cp_len (z : Str) : (cp z).length = z.length := by simp [Str.length]
def Its (z : Str) : It := ⟨fun i _ => i < z.cps.size, fun i H x H' => H' = H ∧ ∃ c, (cp z)[i]? = some c ∧ x = .str ⟨#[c]⟩, fun i _ => z.cps.size ≤ i⟩
theorem go_str {M : Model} {A : Around} {E : Value → Shared → Prop} {s : Shared} {tg : Expr} {it : Addr} {x : Str} {t : Tok} {Q : Unit → Shared → Prop} (hQ : Q () s) : wpAny M A (letOwnedTupleGo tg (.ref it) (.str x t)) Q E s := by
  unfold letOwnedTupleGo
  cases tg <;> exact wpAny_pure hQ
theorem turn_str {P : Program} {w : World} {K : PySem.W.Frag} {tg : Expr} (z : Str) (t : Tok) (it : Addr) : Turn P w K tg (Its z) [it] it (fun i h => h.IsStrIter it "str_ascii_iterator" z t i) where
  mem := by simp
  obj := fun i h st b hb => by
    have e : b = it := by simpa using hb
    subst e
    obtain ⟨o, e, c, d⟩ := st
    exact ⟨o, e, fun v z => by rw [d] at z; cases z⟩
  keep := fun i h h' st k => by
    obtain ⟨o, e, r⟩ := st
    exact ⟨o, k it (by simp) o e, r⟩
  item := by
    intro X hP hw hK hc i pins s σ H E I hf hst hg
    subst hP hw hK
    obtain ⟨f0, f1, f2, f3, f4, f5⟩ := hf it (by simp)
    have W := Walks.strAscii (prog := X.prog) (w := X.w) (I.ok.hd hc) it z t
    refine W.item i s _ _ hg hst fun v h' tk hv st' kk => ?_
    obtain ⟨c, u, ec, rfl⟩ := hv
    have I1 : Inv X pins σ H { s with heap := h', toks := tk } := I.turned (fun b o hb e => kk b o (by simpa using hb) e) f0 f1 f3 f4 f5
    exact ⟨_, rfl, go_str ⟨.str ⟨#[c]⟩, H, I1, ⟨u, rfl⟩, ⟨rfl, c, by rw [← ec]; simp, rfl⟩, st', fun b hb => (hf b hb).1⟩⟩
  done := by
    intro X hP hw hK hc i pins s σ H E I hf hst hg
    subst hP hw hK
    obtain ⟨f0, f1, f2, f3, f4, f5⟩ := hf it (by simp)
    exact wpAny_pyNext_ascii_end (I.ok.hd hc) hst (by have : z.cps.size ≤ i := hg; simp [this]) fun h' eb => ⟨rfl, I.turned (t' := s.toks) (fun b o hb e => eb b o hb e) f0 f1 f3 f4 f5⟩
  self := fun _ _ _ _ _ st h => wpAny_pyIter_striter_ascii st h
def iStr (tl : TE) : TI := fun σ H R => tl σ H fun x H1 => ∃ z, x = .str z ∧ z.cps.all (· < 128) = true ∧ R (Its z) H1
section
variable {X : Cx} {tg : Expr}
theorem pi_str {l : Expr} {tl : TE} (hl : PE X l tl) : PI X tg l (iStr tl) := by
  intro pins s σ H R I h
  refine thn (hl pins s σ H _ I h) fun v s1 ⟨x, H1, I1, r1, q1⟩ => ?_
  obtain ⟨z, e, ha, q⟩ := q1
  subst e
  obtain ⟨t, rfl⟩ := r1
  refine wpAny_pyIter_ascii ha ?_
  refine ⟨s1.heap.objs.size, [s1.heap.objs.size], _, _, H1, rfl, I1.kept (t' := s1.toks) fun b o e => Heap.get?_push_of_some _ e, turn_str z t _, ⟨_, Heap.get?_push_size _ rfl, rfl, rfl⟩, fun b hb => ?_, q⟩
  have e : b = s1.heap.objs.size := by simpa using hb
  subst e
  exact I1.fpOk (Nat.le_refl _) (I1.hok.fresh (Nat.le_refl _))
theorem lc_str {z : Str} {σ0 : St} {g : TG} {tt : TT} {te : TE} {H1 : Hp} {D : Addr} {Q : Hp → Prop} (Pv : Nat → St → Hp → Prop) (h0 : Pv 0 σ0 (upd H1 D (.lst [])))
    (hs : ∀ i c τ H, (cp z)[i]? = some c → Pv i τ H → g (.str ⟨#[c]⟩) τ H fun τ2 H2 => tt τ2 H2 fun b H3 =>
      if b = true then te τ2 H3 fun v H4 => ∃ acc, H4 D = some (.lst acc) ∧ acc.length < sizeLine ∧ Pv (i + 1) τ2 (upd H4 D (.lst (acc ++ [v]))) else Pv (i + 1) τ2 H3)
    (hd : ∀ τ H, Pv z.length τ H → Q H) : lcW σ0 g tt te (Its z) H1 D Q := by
  have hz : z.cps.size = z.length := rfl
  refine ⟨fun i m τ H => m = z.length - i ∧ i ≤ z.length ∧ Pv i τ H, ⟨z.length, by simp, Nat.zero_le _, h0⟩, ?_⟩
  rintro i m τ H ⟨rfl, hi, p⟩
  by_cases hlt : i < z.length
  · refine .inr ⟨hlt, Pv (i + 1), fun τ' H' p' => ⟨z.length - (i + 1), by omega, rfl, hlt, p'⟩, fun x H' y => ?_⟩
    obtain ⟨e, c, hc, rfl⟩ := y
    subst e
    exact hs i c τ _ hc p
  · have e : i = z.length := by omega
    subst e
    exact .inl ⟨Nat.le_refl _, hd τ H p⟩
theorem bools_are : ∀ {bs : List Bool} {us : List Value}, Vals (bs.map V.bl) us → us = bs.map Value.bool
  | [], _, .nil => rfl
  | _ :: _, _, .cons r t => by rw [bools_are t]; cases (show _ = Value.bool _ from r); rfl
theorem range_any (bs : List Bool) : (List.range bs.length).any (fun i => bs.getD i false) = bs.any id := by
  have e : (List.range bs.length).map (fun i => bs.getD i false) = bs := by
    apply List.ext_getElem?
    intro i
    by_cases hi : i < bs.length
    · simp [hi]
    · simp [hi]
  conv => rhs; rw [← e]
  rw [List.any_map]
  rfl
theorem range_all (bs : List Bool) : (List.range bs.length).all (fun i => bs.getD i false) = bs.all id := by
  have e : (List.range bs.length).map (fun i => bs.getD i false) = bs := by
    apply List.ext_getElem?
    intro i
    by_cases hi : i < bs.length
    · simp [hi]
    · simp [hi]
  conv => rhs; rw [← e]
  rw [List.all_map]
  rfl
theorem call_any (hc : X.calm = true) : CallR X (.builtin "any") (fun xs H Q => ∃ (p : Addr) (bs : List Bool), xs = [.ref p] ∧ SqL X.K H p (bs.map V.bl) ∧ Q (.bl (bs.any id)) H) := by
  intro pins s σ H xs us Q I r h
  obtain ⟨p, bs, rfl, hp, q⟩ := h
  obtain ⟨u, rfl, rx⟩ := vals1 r
  cases rx
  obtain ⟨its, rv, pl, hz⟩ := I.list hp
  cases bools_are rv
  have hl : (bs.map Value.bool).toArray.size = bs.length := by simp
  refine call_any_walk (wpAny_pyIter_list pl.isList ?_)
  have hne : p ≠ s.heap.objs.size := by
    obtain ⟨o, ho, _⟩ := pl.isList
    exact Nat.ne_of_lt (Heap.lt_size ho)
  refine ⟨s.heap.objs.size, _, _, _, _, _, fun i => bs.getD i false, rfl, Walks.list (A := X.A.in1) (prog := X.prog) (w := X.w) (show X.A.in1.handled = none from I.ok.hd hc) s.heap.objs.size p hne (bs.map Value.bool).toArray, ⟨⟨_, Heap.get?_push_size _ rfl, rfl, rfl⟩, ?_⟩, fun i v s' Q' E' hv hq => ?_, fun h' tk hk => ?_⟩
  · exact pl.isList.at fun o e => Heap.get?_push_of_some _ e
  · have hi : (bs.map Value.bool).toArray[i]? = some v := hv
    rw [List.getElem?_toArray, List.getElem?_map] at hi
    cases e : bs[i]? with
    | none => rw [e] at hi; cases hi
    | some b =>
      rw [e] at hi
      cases hi
      refine wpAny_truthy_bool ?_
      have : bs.getD i false = b := by simp [List.getD_eq_getElem?_getD, e]
      rw [← this]; exact hq
  · rw [hl, range_any]
    refine ⟨.bl _, H, I.kept (t' := tk) fun b o e => hk b o ?_ (Heap.get?_push_of_some _ e), rfl, q⟩
    intro hb
    have : b = s.heap.objs.size := by simpa using hb
    exact absurd (Heap.lt_size e) (by rw [this]; exact Nat.lt_irrefl _)
theorem call_all (hc : X.calm = true) : CallR X (.builtin "all") (fun xs H Q => ∃ (p : Addr) (bs : List Bool), xs = [.ref p] ∧ SqL X.K H p (bs.map V.bl) ∧ Q (.bl (bs.all id)) H) := by
  intro pins s σ H xs us Q I r h
  obtain ⟨p, bs, rfl, hp, q⟩ := h
  obtain ⟨u, rfl, rx⟩ := vals1 r
  cases rx
  obtain ⟨its, rv, pl, hz⟩ := I.list hp
  cases bools_are rv
  have hl : (bs.map Value.bool).toArray.size = bs.length := by simp
  refine call_all_walk (wpAny_pyIter_list pl.isList ?_)
  have hne : p ≠ s.heap.objs.size := by
    obtain ⟨o, ho, _⟩ := pl.isList
    exact Nat.ne_of_lt (Heap.lt_size ho)
  refine ⟨s.heap.objs.size, _, _, _, _, _, fun i => bs.getD i false, rfl, Walks.list (A := X.A.in1) (prog := X.prog) (w := X.w) (show X.A.in1.handled = none from I.ok.hd hc) s.heap.objs.size p hne (bs.map Value.bool).toArray, ⟨⟨_, Heap.get?_push_size _ rfl, rfl, rfl⟩, ?_⟩, fun i v s' Q' E' hv hq => ?_, fun h' tk hk => ?_⟩
  · exact pl.isList.at fun o e => Heap.get?_push_of_some _ e
  · have hi : (bs.map Value.bool).toArray[i]? = some v := hv
    rw [List.getElem?_toArray, List.getElem?_map] at hi
    cases e : bs[i]? with
    | none => rw [e] at hi; cases hi
    | some b =>
      rw [e] at hi
      cases hi
      refine wpAny_truthy_bool ?_
      have : bs.getD i false = b := by simp [List.getD_eq_getElem?_getD, e]
      rw [← this]; exact hq
  · rw [hl, range_all]
    refine ⟨.bl _, H, I.kept (t' := tk) fun b o e => hk b o ?_ (Heap.get?_push_of_some _ e), rfl, q⟩
    intro hb
    have : b = s.heap.objs.size := by simpa using hb
    exact absurd (Heap.lt_size e) (by rw [this]; exact Nat.lt_irrefl _)
theorem pe_const {x : Str} {v : V} {pos : Pos} (hg : Gl X x) (h : ∃ u, X.mg x = some u ∧ RelV v u) (hd : (x == ("__debug__" : Str)) = false := by decide) : PE X (.Name x pos) (tC v) := by
  obtain ⟨u, hm, r⟩ := h
  exact pe_glob hg hm r hd
end
section
variable {σ : St} {H : Hp} {ta tb : TE} {x y : Str} {a b : Bool}
theorem ev_notinS {c : Nat} (ha : Ev ta σ H (.str ⟨#[c]⟩)) (hb : Ev tb σ H (.str y)) : Ev (tOp (fun x y H Q => ∃ i j, x = .str i ∧ y = .str j ∧ Q (.bl (!(!(Builtin.Str.occurrences j i 0 j.length 1).isEmpty))) H) ta tb) σ H (.bl (!decide (c ∈ cp y))) := fun Q q => ha _ (hb _ ⟨_, y, rfl, rfl, by rw [PySem.StrLaws.found_one]; exact q⟩)
theorem ev_inS {c : Nat} (ha : Ev ta σ H (.str ⟨#[c]⟩)) (hb : Ev tb σ H (.str y)) : Ev (tOp (fun x y H Q => ∃ i j, x = .str i ∧ y = .str j ∧ Q (.bl (!(Builtin.Str.occurrences j i 0 j.length 1).isEmpty)) H) ta tb) σ H (.bl (decide (c ∈ cp y))) := fun Q q => ha _ (hb _ ⟨_, y, rfl, rfl, by rw [PySem.StrLaws.found_one]; exact q⟩)
theorem ev_ixS {c : Nat} {i : Int} (ha : Ev ta σ H (.str x)) (hb : Ev tb σ H (.int i)) (hz : x.length ≤ sizeLine) (he : atI (cp x) i = some c) : Ev (tOp rIxS ta tb) σ H (.str ⟨#[c]⟩) := fun _ q => ha _ (hb _ ⟨x, i, c, rfl, rfl, hz, he, q⟩)
theorem ev_lenS (ha : Ev ta σ H (.str x)) (hz : x.length ≤ sizeLine) {K : PySem.W.Frag} : Ev (tCB (fun xs H Q => ∃ x n, xs = [x] ∧ LenV K x H n ∧ Q (.int n) H) (tCons ta tNil)) σ H (.int (x.length : Nat)) := fun _ q => ha _ ⟨_, _, rfl, ⟨hz, rfl⟩, q⟩
end
end L2
namespace L2
open PySem PySem.Spec PyProof.Rows
section
variable {X : Cx}
def FX (X : Cx) (e : Expr) (c : St → Hp → Str → Prop) : Prop := ∀ (pins : List (Addr × Obj)) (σ : St) (H : Hp) (s : Shared) (y : Str) (Q : Value → Shared → Prop), Inv X pins σ H s → c σ H y →
  (∀ t s', Inv X pins σ H s' → y.length ≤ 6000 → Q (.str y t) s') → wpAny (model X.prog X.w) X.A (eval e X.env) Q X.xe s
inductive FXs (X : Cx) : List Expr → (St → Hp → List Str → Prop) → Prop where
  | nil : FXs X [] fun _ _ ys => ys = []
  | cons {e es c cs} : FX X e c → FXs X es cs → FXs X (e :: es) fun σ H ys => ∃ y r, ys = y :: r ∧ c σ H y ∧ cs σ H r
end
end L2
namespace L2
open PySem PySem.Spec PyProof.Rows
open AutoSeq1 (wpAny_loadPart')
section
variable {prog : Program} {w : World} {A : Around} {E : Value → Shared → Prop} {s : Shared}
end
theorem Inv.turnedLaid {X : Cx} {pins : List (Addr × Obj)} {σ : St} {H : Hp} {s : Shared} {h' : Heap} {t' : Nat} {a : Addr} {o : HO} {fp : List Addr} (I : Inv X pins σ H s) (hf : ∀ b ∈ fp, FpOk X pins H b)
    (k : ∀ b u, b ∉ fp → s.heap.get? b = some u → h'.get? b = some u) (hn : s.heap.get? a = none) (new : ObjOk X.prog X.w (upd H a o) h' a o) : Inv X pins σ (upd H a o) { s with heap := h', toks := t' } := by
  have hHa : H a = none := I.hok.none_of hn
  have trk : ∀ b u, H b = some u → b ∉ fp := fun b u e z => by rw [(hf b z).1] at e; cases e
  have nea : ∀ b u, s.heap.get? b = some u → b ≠ a := fun b u e z => by rw [z, hn] at e; cases e
  refine I.step (g' := s.gens) (d' := s.drawn) (ch := fp) (fun b hb => ⟨(hf b hb).2.2.2.1, (hf b hb).2.1, (hf b hb).2.2.2.2.1, (hf b hb).2.2.2.2.2⟩) (fun b u _ _ hc e _ => k b u hc e) (fun b u _ _ hc e _ => ⟨u.slots, k b u hc e⟩) (fun b u _ e n => by rw [upd_ne (nea b u e)]; exact n)
    (fun b u hc e => ⟨u, k b u hc e⟩) (fun b xs e => by rw [upd_ne (ne_of_none e hHa)]; exact e) (fun b u xs e => by rw [upd_ne (ne_of_none e hHa)]; exact e) (fun b ps e => ⟨#[], by rw [upd_ne (ne_of_none e hHa), e]; simp⟩) (fun m hm => ?_) (fun b u e => ?_) I.bare
  · obtain ⟨o', es, ep, ho, r⟩ := hm
    exact ⟨o', es, ep, k _ o' (fun z => (hf _ z).2.1 rfl) ho, r⟩
  · by_cases hb : b = a
    · subst hb; rw [upd_same] at e; cases e; exact new
    · rw [upd_ne hb] at e
      refine (I.hok b u e).stay (fun c v hc q => k c v ?_ q) (fun c q => by rw [upd_ne (ne_of_none q hHa)]; exact q) fun c xs q => by rw [upd_ne (ne_of_none q hHa)]; exact q
      rcases hc with rfl | hc
      · exact trk _ _ e
      · exact trk _ _ hc
section
variable {X : Cx}
theorem pg_tupK {pos : Pos} {K : PySem.W.Frag} {es : List Expr} {k : Nat} {t : TGs} {n : Nat} (hc : X.calm = true) (e : X.K = K) (h : PGs X es t)
    (hn : (assignEach es X.env).length = n) (hst : (assignEach es X.env).findIdx? (·.1) = none) : PG X (.Tuple es k pos) (gTup K n t) := by subst e; exact pg_tup hc h hn hst
end
end L2
namespace L2
open PySem PySem.Spec PyProof.Rows
inductive Cs (A : Around) (s : Shared) (op : CmpOp) : List Value → List Value → List (Bool × Bool) → Prop
  | nil : Cs A s op [] [] []
  | cons {v w : Value} {e b : Bool} {vs ws : List Value} {cs : List (Bool × Bool)} (he : SeqAt.EqAt A s v w e)
      (hb : e = false → ∀ (prog : Program) (w' : World) (E : Value → Shared → Prop) (Q : Value → Shared → Prop), Q (.bool b) s → wpAny (model prog w') A (richCompare op v w) Q E s) (t : Cs A s op vs ws cs) : Cs A s op (v :: vs) (w :: ws) ((e, b) :: cs)
def res : List (Bool × Bool) → Bool → Bool
  | [], z => z
  | (true, _) :: r, z => res r z
  | (false, b) :: _, _ => b
theorem Cs.len {A : Around} {s : Shared} {op : CmpOp} : ∀ {vs ws : List Value} {cs : List (Bool × Bool)}, Cs A s op vs ws cs → vs.length = ws.length
  | _, _, _, .nil => rfl
  | _, _, _, .cons _ _ t => by rw [List.length_cons, List.length_cons, t.len]
section
open PySem.SeqAt
open PySem.AutoSeq1 (wpAny_loadPart')
open PySem.MeetsSeq PySem.MeetsSeq2 PySem.MeetsSeq3
end
def Mrk (K : PySem.W.Frag) (H : Hp) (kd : Bool) (m : V) (l : List Int) : Prop :=
  (kd = false ∧ ∃ i, m = .int i ∧ l = [i]) ∨ (kd = true ∧ ∃ b i j, m = .ref b ∧ SqT K H b [.int i, .int j] ∧ l = [i, j])
def Pr (K : PySem.W.Frag) (H : Hp) (kd : Bool) (v : V) (k : List Int) : Prop := ∃ a p m l, v = .ref a ∧ SqT K H a [.int p, m] ∧ Mrk K H kd m l ∧ k = p :: l
theorem Mrk.same {K : PySem.W.Frag} {H H' : Hp} {kd : Bool} {m : V} {l : List Int} (h : Mrk K H kd m l) (k : ∀ b xs, SqT K H b xs → SqT K H' b xs) : Mrk K H' kd m l := by
  rcases h with h | ⟨h, b, i, j, e, q, r⟩
  · exact .inl h
  · exact .inr ⟨h, b, i, j, e, k _ _ q, r⟩
theorem Pr.same {K : PySem.W.Frag} {H H' : Hp} {kd : Bool} {m : V} {l : List Int} (h : Pr K H kd m l) (k : ∀ b xs, SqT K H b xs → SqT K H' b xs) : Pr K H' kd m l := by
  obtain ⟨a, p, m, l, e, q, r, z⟩ := h
  exact ⟨a, p, m, l, e, k _ _ q, r.same k, z⟩
section
variable {X : Cx}
theorem Mrk.cs {pins : List (Addr × Obj)} {σ : St} {H : Hp} {s : Shared} {kd : Bool} {x y : V} {u v : Value} {l1 l2 : List Int} {A : Around} (I : Inv X pins σ H s) (hu : A.units + 10 < cLine) (hx : Mrk X.K H kd x l1) (hy : Mrk X.K H kd y l2) (rx : RelV x u) (ry : RelV y v) :
    SeqAt.EqAt A s u v (decide (l1 = l2)) ∧ (∀ (prog : Program) (w' : World) (E : Value → Shared → Prop) (Q : Value → Shared → Prop), Q (.bool (HT.lexLt l1 l2)) s → wpAny (model prog w') A (richCompare .Lt u v) Q E s) := by
  rcases hx with ⟨rfl, i, rfl, rfl⟩ | ⟨rfl, b, i, j, rfl, hb, rfl⟩
  · rcases hy with ⟨_, i', rfl, rfl⟩ | ⟨h, _⟩
    · obtain ⟨t, rfl⟩ := rx
      obtain ⟨t', rfl⟩ := ry
      refine ⟨?_, fun prog w' E Q q => ?_⟩
      · have := SeqAt.EqAt.int_int (A := A) (s := s) i t i' t'
        have e : (i == i') = decide ([i] = [i']) := by simp [Bool.beq_eq_decide_eq]
        rw [← e]; exact this
      · have e : HT.lexLt [i] [i'] = decide (i < i') := by
          rw [HT.lexLt_cons]
          by_cases h : i = i'
          · subst h; simp [HT.lexLt_nil_nil]
          · rw [if_neg h]
        rw [e] at q
        exact HT.rcLt_int A s i t i' t' prog w' E Q q
    · cases h
  · rcases hy with ⟨h, _⟩ | ⟨_, b', i', j', rfl, hb', rfl⟩
    · cases h
    · cases rx
      cases ry
      refine ⟨?_, fun prog w' E Q q => ?_⟩
      · have d1 : Dp X.K H (.ref b) (.tuple [.int i, .int j]) := Dp.ints (ns := [i, j]) hb
        have d2 : Dp X.K H (.ref b') (.tuple [.int i', .int j']) := Dp.ints (ns := [i', j']) hb'
        obtain ⟨as, r1⟩ := d1.reads I rfl
        obtain ⟨bs, r2⟩ := d2.reads I rfl
        have hd := depth_tints [i, j]
        have := SeqAt.eqAt_reads _ _ A s _ _ as bs r1 r2 d1.lay d2.lay (Nat.lt_of_le_of_lt (Nat.add_le_add_left (Nat.le_trans (Nat.min_le_left _ _) hd) _) (by omega))
        rw [show PyData.eqv (.tuple [.int i, .int j]) (.tuple [.int i', .int j']) = decide ([i, j] = [i', j']) from eqv_tints [i, j] [i', j']] at this
        exact this
      · obtain ⟨its, r1, p1, _⟩ := I.tuple hb
        obtain ⟨its2, r2, p2, _⟩ := I.tuple hb'
        exact HT.lt_tupInts p1 p2 (intsAre_of (ns := [i, j]) r1) (intsAre_of (ns := [i', j']) r2) (by omega) q
end
end L2
namespace L2
open PySem PySem.Spec PyProof.Rows
theorem one_of_nodup {α : Type} (f : α → Int) (c : Int) : ∀ (l : List α), (l.map f).Nodup → (l.filter fun x => f x == c).length ≤ 1
  | [], _ => by simp
  | a :: r, h => by
    rw [List.map_cons, List.nodup_cons] at h
    have ih := one_of_nodup f c r h.2
    by_cases e : f a = c
    · have z : (r.filter fun x => f x == c) = [] := by
        refine List.filter_eq_nil_iff.mpr fun x hx q => h.1 ?_
        rw [e]
        exact List.mem_map.mpr ⟨x, hx, by simpa using q⟩
      rw [List.filter_cons_of_pos (p := fun x => f x == c) (by simpa using e), z]
      exact Nat.le_refl _
    · rw [List.filter_cons_of_neg (p := fun x => f x == c) (by simpa using e)]
      exact ih
section
variable {prog : Program} {w : World} {A : Around} {E : Value → Shared → Prop} {s : Shared}
theorem quiet_tup {b : Addr} {Q : Bool → Shared → Prop} (hT : s.TypeIs (.ref b) "tuple") (h : Q false s) : wpAny (model prog w) A (Builtin.Dict.quietEq (.ref b)) Q E s := by
  unfold Builtin.Dict.quietEq
  refine wpAny_bind (wpAny_specialOf hT F.slot_tuple_eq.lookup (wpAny_pure ?_))
  exact h
theorem entries_tup {id : String} {d : Addr} {o : Obj} {es : Array DictEntry} {ep : Nat} {Q : Array DictEntry → Shared → Prop} (ho : s.heap.get? d = some o) (hd : o.data = .dict es ep)
    (hk : ∀ e ∈ es, ∃ b, e.key = .ref b ∧ s.TypeIs (.ref b) "tuple") (hn : (es.toList.map (·.hash)).Nodup) (h : Q es s) : wpAny (model prog w) A (Builtin.Dict.entriesForEmpty id d) Q E s := by
  unfold Builtin.Dict.entriesForEmpty
  refine wpAny_bind (wpAny_dictEntries ho hd (wpAny_bind ?_))
  rw [← Array.forIn_toList]
  refine wpAny_forIn_list _ (fun rest _ s' => s' = s ∧ ∀ e ∈ rest, e ∈ es) _ ?_ ?_ _ _ ⟨rfl, fun e he => Array.mem_toList_iff.mp he⟩
  · rintro e rest u s' ⟨rfl, hin⟩
    obtain ⟨b, eb, hT⟩ := hk e (hin e List.mem_cons_self)
    rw [eb]
    refine wpAny_bind (quiet_tup hT ?_)
    rw [if_pos (by decide)]
    have one : ¬ (es.filter (·.hash == e.hash)).size > 1 := by
      have := one_of_nodup (fun x : DictEntry => x.hash) e.hash es.toList hn
      rw [← Array.length_toList, Array.toList_filter]
      omega
    rw [if_neg one]
    exact wpAny_pure ⟨rfl, fun x hx => hin x (List.mem_cons_of_mem _ hx)⟩
  · rintro u s' ⟨rfl, _⟩
    exact wpAny_pure h
theorem merge_tup {nm : String} {d o : Addr} {od oo : Obj} {es : Array DictEntry} {ep ep' : Nat} {Q : Unit → Shared → Prop} (hdo : d ≠ o) (hoS : (o == sysModules) = false)
    (hd : s.heap.get? d = some od) (hde : od.ExactDict) (hdd : od.data = .dict #[] ep') (ho : s.heap.get? o = some oo) (hod : oo.data = .dict es ep)
    (hk : ∀ e ∈ es, ∃ b, e.key = .ref b ∧ s.TypeIs (.ref b) "tuple") (hn : (es.toList.map (·.hash)).Nodup) (hz : es.size ≤ sizeLine)
    (hQ : ∀ h', (∃ o' ep'', h'.get? d = some o' ∧ o'.ExactDict ∧ o'.data = .dict es ep'') → Heap.SameBut d s.heap h' → Q () { s with heap := h' }) :
    wpAny (model prog w) A (Builtin.Dict.mergeDict nm d o) Q E s := by
  unfold Builtin.Dict.mergeDict
  rw [if_neg (by simpa using hdo)]
  unfold Builtin.Dict.showsAll
  rw [if_neg (by rw [hoS]; exact Bool.false_ne_true)]
  refine wpAny_bind (wpAny_pure (wpAny_bind (wpAny_dictEntries ho hod ?_)))
  dsimp only
  by_cases he : es = #[]
  · subst he
    rw [if_neg (by simp)]
    refine wpAny_bind (wpAny_dictEpoch ho hod (wpAny_bind (wpAny_dictEntries ho hod (wpAny_bind ?_))))
    rw [Std.Legacy.Range.forIn_eq_forIn_range']
    exact wpAny_pure (wpAny_pure (hQ s.heap ⟨od, ep', hd, hde, hdd⟩ (Heap.SameBut.refl _ _)))
  · have few : (decide (es.size ≤ 8) && es.all fun e => (keyPart e.key).isSome) = false := by
      rw [Bool.and_eq_false_iff]
      refine .inr (Bool.eq_false_iff.mpr fun z => he ?_)
      rw [← Array.all_toList, List.all_eq_true] at z
      refine Array.eq_empty_of_size_eq_zero (Nat.eq_zero_of_not_pos fun pz => ?_)
      have hm : es[0] ∈ es := Array.getElem_mem pz
      obtain ⟨b, eb, _⟩ := hk _ hm
      have y := z _ (Array.mem_toList_iff.mpr hm)
      rw [eb] at y
      exact absurd y Bool.false_ne_true
    rw [few]
    rw [if_pos (by rfl)]
    refine wpAny_bind (wpAny_dictEntries hd hdd ?_)
    rw [if_pos (by rfl)]
    refine wpAny_bind (entries_tup ho hod hk hn ?_)
    rw [if_pos (by simpa using he)]
    exact wpAny_bind (wpAny_updateDictKeysTo hd hdd (wpAny_pure (hQ _ ⟨_, ep' + 1, Heap.get?_update_self _ hd (Obj.isFreed_of_dict (Obj.data_mapDictKeys hdd _)), hde.mapDictKeys _, Obj.data_mapDictKeys hdd _⟩ (Heap.SameBut.update ..))) (by omega))
theorem call_dict_tup {o : Addr} {oo : Obj} {es : Array DictEntry} {ep : Nat} {Q : Value → Shared → Prop} (hoS : (o == sysModules) = false) (ho : s.heap.get? o = some oo) (hoe : oo.ExactDict) (hod : oo.data = .dict es ep)
    (hk : ∀ e ∈ es, ∃ b, e.key = .ref b ∧ s.TypeIs (.ref b) "tuple") (hn : (es.toList.map (·.hash)).Nodup) (hz : es.size ≤ sizeLine)
    (h : ∀ h', (∃ o' ep'', h'.get? s.heap.objs.size = some o' ∧ o'.ExactDict ∧ o'.data = .dict es ep'') → (∀ b u, s.heap.get? b = some u → h'.get? b = some u) → Q (.ref s.heap.objs.size) { s with heap := h' }) :
    wpAny (model prog w) A (call (.type "dict") [.ref o]) Q E s := by
  refine callType_codes (Q₁ := fun v s₁ => v = .ref s.heap.objs.size ∧ s₁ = { s with heap := s.heap.push { cls := .type "dict", data := .dict #[] } }) F.kt_called_dict (F.kt_typeCall_dict_1 _) F.entry_dict_init (kt_code_dict_new _ ⟨rfl, rfl⟩) ?_
  rintro v s₁ ⟨rfl, rfl⟩
  have keep : ∀ b u, s.heap.get? b = some u → (s.heap.push { cls := .type "dict", data := .dict #[] }).get? b = some u := fun b u x => Heap.get?_push_of_some _ x
  have nT : Shared.TypeIs { s with heap := s.heap.push { cls := .type "dict", data := .dict #[] } } (.ref s.heap.objs.size) "dict" := ⟨_, Heap.get?_push_size _ rfl, rfl⟩
  have oT : Shared.TypeIs { s with heap := s.heap.push { cls := .type "dict", data := .dict #[] } } (.ref o) "dict" := ⟨oo, keep _ _ ho, hoe.1⟩
  have hlt : o < s.heap.objs.size := Heap.lt_size ho
  refine ⟨nT, F.args_dict_init_2 _ _, ?_⟩
  unfold Builtin.«dict.__init__»
  refine wpAny_bind ?_
  unfold Builtin.Dict.selfAndRest
  refine wpAny_bind (wpAny_notOrdered_dict nT ?_)
  show wpAny _ _ (pure (s.heap.objs.size, [Value.ref o])) _ _ _
  refine wpAny_pure ?_
  show wpAny _ _ (Builtin.Dict.updateFrom "dict.__init__" s.heap.objs.size (.ref o) [] .none) _ _ _
  unfold Builtin.Dict.updateFrom
  refine wpAny_bind (wpAny_typeOf oT ?_)
  rw [if_neg (by decide)]
  refine wpAny_bind ?_
  unfold Builtin.Dict.merge
  refine wpAny_bind ?_
  unfold Builtin.Dict.readDirectly
  refine wpAny_bind (wpAny_isInstance oT isSubtype_dict_dict ?_)
  simp only [Bool.not_true, Bool.false_eq_true, if_false]
  refine wpAny_bind (wpAny_specialOf oT F.slot_dict_iter.lookup (wpAny_pure ?_))
  simp only [beq_self_eq_true, if_true]
  refine wpAny_bind (wpAny_pure ?_)
  refine merge_tup (Nat.ne_of_gt hlt) hoS (Heap.get?_push_size _ rfl) ⟨rfl, rfl, rfl⟩ rfl (keep _ _ ho) hod (fun e he => ?_) hn hz fun h' new sb => ?_
  · obtain ⟨b, e1, o1, e2, e3⟩ := hk e he
    exact ⟨b, e1, o1, keep _ _ e2, e3⟩
  · exact wpAny_bind (wpAny_pure (wpAny_pure ⟨rfl, h h' new fun b u x => sb.extBut b u (Nat.ne_of_lt (Heap.lt_size x)) (keep _ _ x)⟩))
end
def HashNd (P : Program) (w : World) (kvs : List (List Key × V)) : Prop := (kvs.map fun p => tupleKeyHash (mixKind P w) p.1).Nodup
theorem KT.keys {H : Hp} {kvs : List (List Key × V)} {xs : List (List Key × Addr × Value)} (r : KT H kvs xs) : kvs.map (·.1) = xs.map (·.1) := by
  induction r with
  | nil => rfl
  | cons h _ ih => rw [List.map_cons, List.map_cons, ih, h.1]
section
variable {X : Cx} {pins : List (Addr × Obj)} {σ : St} {H : Hp} {s : Shared} {a : Addr} {A : Around} {E : Value → Shared → Prop}
theorem d_copyT {kvs : List (List Key × V)} {Q : Value → Shared → Prop} (I : Inv X pins σ H s) (e : Rd H a (.dT kvs)) (hh : HashNd X.prog X.w kvs) (h : ∀ p s', H p = none → Inv X pins σ (upd H p (.dT kvs)) s' → Q (.ref p) s') : wpAny (model X.prog X.w) A (call (.type "dict") [.ref a]) Q E s := by
  obtain ⟨z, hd, xs, rel, o, es, ep, ho, hc, hdat, he, his, hn⟩ := dt_rd I.hok e
  have hl : es.size = xs.length := size_of_entries he
  have hl' : kvs.length = xs.length := Paired.length rel
  refine call_dict_tup hd ho hc hdat (fun x hx => ?_) ?_ (by omega) fun h' new keep => ?_
  · have hm : x ∈ xs.map (entryOfKey (tupleKind (mixKind X.prog X.w))) := he ▸ Array.mem_toList_iff.mpr hx
    obtain ⟨y, hy, rfl⟩ := List.mem_map.mp hm
    obtain ⟨ob, _, _, h1, h2, _⟩ := his y hy
    exact ⟨y.2.1, rfl, ob, h1, h2⟩
  · rw [he, List.map_map]
    have : xs.map ((fun x : DictEntry => x.hash) ∘ entryOfKey (tupleKind (mixKind X.prog X.w))) = kvs.map fun p => tupleKeyHash (mixKind X.prog X.w) p.1 := by
      have e1 : xs.map ((fun x : DictEntry => x.hash) ∘ entryOfKey (tupleKind (mixKind X.prog X.w))) = (xs.map (·.1)).map (tupleKeyHash (mixKind X.prog X.w)) := by rw [List.map_map]; rfl
      rw [e1, ← rel.keys, List.map_map]; rfl
    rw [this]; exact hh
  · obtain ⟨o', ep', h1, h2, h3⟩ := new
    have fr : H s.heap.objs.size = none := I.hok.fresh (Nat.le_refl _)
    refine h _ _ fr (I.laid (a := s.heap.objs.size) (o := .dT kvs) (t' := s.toks) keep (Nat.le_refl _) ⟨z, beq_eq_false_iff_ne.mpr (Ne.symm (Nat.ne_of_lt I.big)), xs, rel.keeps fun b ys q => ?_, o', es, ep', h1, h2, h3, he, hn⟩)
    rw [upd_ne (ne_of_none q fr)]; exact q
end
def rDict (P : Program) (w : World) : List V → Hp → VK → Prop := fun xs H Q => ∃ a, xs = [.ref a] ∧
  ((∃ kvs, Rd H a (.dK kvs) ∧ ∀ p, H p = none → Q (.ref p) (upd H p (.dK kvs))) ∨ ∃ kvs, Rd H a (.dT kvs) ∧ HashNd P w kvs ∧ ∀ p, H p = none → Q (.ref p) (upd H p (.dT kvs)))
theorem call_dict {X : Cx} : CallR X (.type "dict") (rDict X.prog X.w) := by
  intro pins s σ H xs us Q I r h
  obtain ⟨a, rfl, h⟩ := h
  obtain ⟨u, rfl, ru⟩ := vals1 r
  cases ru
  rcases h with ⟨kvs, e, q⟩ | ⟨kvs, e, hh, q⟩
  · exact d_copyOf I e fun p s' hp I' => ⟨.ref p, _, I', rfl, q p hp⟩
  · exact d_copyT I e hh fun p s' hp I' => ⟨.ref p, _, I', rfl, q p hp⟩
def eqOk : V → Bool
  | .flt _ => false
  | .byt _ => false
  | _ => true
theorem eq_relV {A : Around} {s : Shared} {v : V} {u u' : Value} (hf : eqOk v = true) (r : RelV v u) (r' : RelV v u') : SeqAt.EqAt A s u u' true := by
  cases v with
  | non => cases (show u = Value.none from r); cases (show u' = Value.none from r'); exact SeqAt.EqAt.same _
  | bl b => cases (show u = Value.bool b from r); cases (show u' = Value.bool b from r'); exact SeqAt.EqAt.same _
  | int i => obtain ⟨t, rfl⟩ := r; obtain ⟨t', rfl⟩ := r'; have h := SeqAt.EqAt.int_int (A := A) (s := s) i t i t'; rwa [beq_self_eq_true] at h
  | str x => obtain ⟨t, rfl⟩ := r; obtain ⟨t', rfl⟩ := r'; have h := SeqAt.EqAt.str_str (A := A) (s := s) x t x t'; simpa using h
  | byt b => exact absurd hf (by simp [eqOk])
  | flt b => exact absurd hf (by simp [eqOk])
  | ref a => cases (show u = Value.ref a from r); cases (show u' = Value.ref a from r'); exact SeqAt.EqAt.same _
  | ty n => cases (show u = Value.type n from r); cases (show u' = Value.type n from r'); exact SeqAt.EqAt.same _
def SmV (K : PySem.W.Frag) (H : Hp) (v v' : V) : Prop := (v = v' ∧ eqOk v = true) ∨ ∃ d e, Dp K H v d ∧ Dp K H v' e ∧ d.depth ≤ 60 ∧ PyData.eqv d e = true
theorem SmV.at {X : Cx} {pins : List (Addr × Obj)} {σ : St} {H : Hp} {s : Shared} {A : Around} {v v' : V} {u u' : Value} (I : Inv X pins σ H s) (h : SmV X.K H v v') (r : RelV v u) (r' : RelV v' u') (hu : A.units + 60 < cLine) : SeqAt.EqAt A s u u' true := by
  rcases h with ⟨rfl, h⟩ | ⟨d, e, h1, h2, hd, he⟩
  · exact eq_relV h r r'
  · obtain ⟨as, r1⟩ := h1.reads I r
    obtain ⟨bs, r2⟩ := h2.reads I r'
    have := SeqAt.eqAt_reads d e A s u u' as bs r1 r2 h1.lay h2.lay (by omega)
    rwa [he] at this
section
variable {prog : Program} {w : World} {K : Type} [DecidableEq K] {knd : HeapKind prog w K} {A : Around} {E : Value → Shared → Prop} {s : Shared}
end
section
variable {X : Cx}
end
section
variable {prog : Program} {w : World} {A : Around} {E : Value → Shared → Prop} {s : Shared} {I : Addr} {fp wr : List Addr} {G : Array GenState → Array GenState → Prop} {n : Nat} {P : Nat → Value → Prop} {St : Nat → Shared → Prop}
end
theorem Room.one {k : Nat} {A : Around} (r : Room k A) : A.units + 1 < cLine := by have := r.un; omega
end L2
namespace L2
open PySem PySem.Spec PyProof.Rows
section
variable {X : Cx} {pins : List (Addr × Obj)} {σ : St} {H : Hp} {s : Shared} {d : Addr} {u : HO} {o : Obj}
theorem ObjOk.upd {P : Program} {w : World} {h : Heap} {b : Addr} {x v : HO} (ok : ObjOk P w H h b x) (nt : ∀ xs, H d ≠ some (.tup xs)) (no : ∀ y, H d ≠ some (.own y)) : ObjOk P w (L2.upd H d v) h b x :=
  ok.stay (fun _ _ _ q => q) (fun c q => by rw [upd_ne (fun z => by rw [z] at q; exact no _ q)]; exact q) fun c xs q => by rw [upd_ne (fun z => by rw [z] at q; exact nt _ q)]; exact q
theorem Inv.freeze (I : Inv X pins σ H s) (e : H d = some u) (mu : Mut (some u)) : ∃ o, Inv X pins σ (upd H d (.frz o u)) s ∧ s.heap.get? d = some o := by
  have ok := I.hok d u e
  obtain ⟨o, ho⟩ : ∃ o, s.heap.get? d = some o := by
    cases u with
    | lst xs => obtain ⟨_, _, _, _, z⟩ := ok; exact ⟨_, z⟩
    | dK kvs => obtain ⟨_, _, _, _, o, _, _, z, _⟩ := ok; exact ⟨o, z⟩
    | dT kvs => obtain ⟨_, _, _, _, o, _, _, z, _⟩ := ok; exact ⟨o, z⟩
    | set S n => obtain ⟨o, _, _, _, z, _⟩ := ok; exact ⟨o, z⟩
    | ins C dx fs => obtain ⟨_, _, _, z, _⟩ := ok; exact ⟨_, z⟩
    | ext φ => obtain ⟨_, z, _⟩ := ok; exact z
    | _ => exact mu.elim
  have mu' : Mut (H d) := by rw [e]; exact mu
  refine ⟨o, I.write (t' := s.toks) (h' := s.heap) (x := d) (e := d) (o := .frz o u) mu' (.inl rfl) (fun b v _ q => q) ⟨o, ho⟩ ⟨ho, ?_⟩, ho⟩
  exact ok.upd (fun xs z => by rw [z] at mu'; exact mu') (fun y z => by rw [z] at mu'; exact mu')
theorem Inv.thaw (I : Inv X pins σ H s) (e : H d = some (.frz o u)) (nb : ∀ o' u', X.H₀ d ≠ some (.frz o' u')) : Inv X pins σ (upd H d u) s := by
  have ne : ∀ b, H b = none → b ≠ d := fun b n z => by rw [z, e] at n; cases n
  have nt : ∀ xs, H d ≠ some (.tup xs) := fun xs z => by rw [e] at z; cases z
  have no : ∀ y, H d ≠ some (.own y) := fun y z => by rw [e] at z; cases z
  have B := I.base
  refine ⟨I.ok, I.os, I.bare, ⟨B.keep, B.slot, fun b v q n hx => ?_, B.there, fun b xs q => ?_, fun b v w q => ?_, fun b ps q => ?_⟩, I.loc, I.cell, ?_, fun x c q => ?_, fun p hp => ?_, fun b v q => ?_, I.len⟩
  · have := B.free b v q n hx
    rw [upd_ne (ne b this)]; exact this
  · have := B.tups b xs q
    rw [upd_ne (fun z => by rw [z] at this; exact nt _ this)]; exact this
  · have := B.frzs b v w q
    rw [upd_ne (fun z => by rw [z] at q; exact nb _ _ q)]; exact this
  · obtain ⟨more, this⟩ := B.tbls b ps q
    exact ⟨more, by rw [upd_ne (fun z => by rw [z, e] at this; cases this)]; exact this⟩
  · rw [upd_ne (ne _ I.free)]; exact I.free
  · rw [upd_ne (ne _ (I.freeC x c q))]; exact I.freeC x c q
  · obtain ⟨h1, h2, h3⟩ := I.pin p hp
    exact ⟨h1, by rw [upd_ne (ne _ h2)]; exact h2, h3⟩
  · by_cases hb : b = d
    · subst hb
      rw [upd_same] at q; cases q
      obtain ⟨_, z⟩ := I.hok b _ e
      exact z.upd nt no
    · rw [upd_ne hb] at q
      exact (I.hok b v q).upd nt no
end
def frzD (D : Ends) (d : Addr) (o : Obj) (u : HO) : Ends :=
  ⟨fun σ1 H1 => H1 d = some (.frz o u) ∧ D.nx σ1 (upd H1 d u), fun v H1 => H1 d = some (.frz o u) ∧ D.rt v (upd H1 d u), fun σ1 H1 => H1 d = some (.frz o u) ∧ D.bk σ1 (upd H1 d u), fun σ1 H1 => H1 d = some (.frz o u) ∧ D.ct σ1 (upd H1 d u)⟩
def tFrz (t : TS) : TS := fun D σ H => ∃ d u, H d = some u ∧ Mut (some u) ∧ ∀ o, t (frzD D d o u) σ (upd H d (.frz o u))
theorem ps_frz {X : Cx} {a : Stmt} {t : TS} (h : PS X a t) : PS X a (tFrz t) := by
  intro pins s σ H D I ht
  obtain ⟨d, u, e, mu, q⟩ := ht
  have nb : ∀ o' u', X.H₀ d ≠ some (.frz o' u') := fun o' u' z => by
    have := I.base.frzs d o' u' z
    rw [e] at this; cases this; exact mu
  obtain ⟨o, I1, _⟩ := I.freeze e mu
  refine thn (h pins s σ _ _ I1 (q o)) fun f s' hf => ?_
  cases f with
  | next => obtain ⟨σ', H', I', e', k⟩ := hf; exact ⟨σ', _, I'.thaw e' nb, k⟩
  | brk => obtain ⟨σ', H', I', e', k⟩ := hf; exact ⟨σ', _, I'.thaw e' nb, k⟩
  | cont => obtain ⟨σ', H', I', e', k⟩ := hf; exact ⟨σ', _, I'.thaw e' nb, k⟩
  | ret v => obtain ⟨x, σ', H', I', r, e', k⟩ := hf; exact ⟨x, σ', _, I'.thaw e' nb, r, k⟩
def szU : HO → Nat
  | .dK kvs => kvs.length
  | .dT kvs => kvs.length
  | _ => 0
def DictU : HO → Prop
  | .dK _ => True
  | .dT _ => True
  | _ => False
def KeyAt (H : Hp) : HO → Nat → V → V → Prop
  | .dK kvs, i, x, v => ∃ k, kvs[i]? = some (k, v) ∧ x = kV k
  | .dT kvs, i, x, v => ∃ k b, kvs[i]? = some (k, v) ∧ x = .ref b ∧ H b = some (.tup (k.map kV))
  | _, _, _, _ => False
theorem paired_get {α β : Type} {R : α → β → Prop} : ∀ {xs : List α} {ys : List β} (_ : Paired R xs ys) (i : Nat) (hi : i < ys.length), ∃ x, xs[i]? = some x ∧ R x ys[i]
  | _, _, .nil, i, hi => absurd hi (Nat.not_lt_zero _)
  | _, _, .cons r _, 0, _ => ⟨_, rfl, r⟩
  | _, _, .cons _ t, i + 1, hi => by
    obtain ⟨x, h1, h2⟩ := paired_get t i (by simpa using hi)
    exact ⟨x, by simpa using h1, by simpa using h2⟩
theorem raw_of {P : Program} {w : World} {H : Hp} {h : Heap} {d : Addr} {o : Obj} {u : HO} (ok : HOk P w H h) (e : H d = some (.frz o u)) (hu : DictU u) : (d == sysModules) = false ∧ h.get? d = some o ∧ o.ExactDict ∧
    ∃ es ep, o.data = .dict es ep ∧ es.size = szU u ∧ ∀ i (hi : i < es.size), ∃ x v, KeyAt H u i x v ∧ RelV x es[i].key ∧ RelV v es[i].val := by
  obtain ⟨ho, k⟩ := ok d _ e
  cases u with
  | dK kvs =>
    obtain ⟨z, hs, vs, rel, o', es, ep, h1, h2, h3, h4, h5, h6⟩ := k
    rw [ho] at h1; cases h1
    have hl : es.size = vs.length := by rw [← h5.length]; simp
    refine ⟨hs, ho, h2, es, ep, h3, by rw [hl, ← rel.length]; rfl, fun i hi => ?_⟩
    obtain ⟨p, hp, e1, r1⟩ := paired_get rel i (by omega)
    obtain ⟨q1, q2⟩ := h5.get? (i := i) (e := es[i]) (k := vs[i].1) (v := vs[i].2) (by simp [hi]) (by rw [List.getElem?_eq_getElem])
    refine ⟨kV p.1, p.2, ⟨p.1, hp, rfl⟩, ?_, by rw [q2]; exact r1⟩
    rw [← e1] at q1
    rcases keyIs_shape q1 with ⟨j, t, ek, ev⟩ | ⟨j, t, ek, ev⟩ <;> rw [ek, ev] <;> exact ⟨t, rfl⟩
  | dT kvs =>
    obtain ⟨z, hs, xs, rel, o', es, ep, h1, h2, h3, h4, h5⟩ := k
    rw [ho] at h1; cases h1
    have hl : es.size = xs.length := size_of_entries h4
    refine ⟨hs, ho, h2, es, ep, h3, by rw [hl, ← Paired.length rel]; rfl, fun i hi => ?_⟩
    obtain ⟨p, hp, e1, e2, r1⟩ := paired_get rel i (by omega)
    have ee : es[i] = entryOfKey (tupleKind (mixKind P w)) xs[i] := by
      have := entry_at h4 i
      rw [List.getElem?_eq_getElem (by omega), Array.getElem?_eq_getElem hi] at this
      exact Option.some.inj this
    refine ⟨.ref xs[i].2.1, p.2, ⟨p.1, _, hp, rfl, e2⟩, ?_, ?_⟩
    · rw [ee]; rfl
    · rw [ee]; exact r1
  | _ => exact hu.elim
section
variable {prog : Program} {w : World} {A : Around} {E : Value → Shared → Prop} {s : Shared} {d it : Addr} {o : Obj} {es : Array DictEntry} {i ep : Nat}
theorem rk_iter {Q : Value → Shared → Prop} (hd : (d == sysModules) = false) (ho : s.heap.get? d = some o) (hc : o.ExactDict) (hdat : o.data = .dict es ep)
    (hQ : Q (.ref s.heap.objs.size) { s with heap := s.heap.push { cls := .type "dict_keyiterator", data := .fields #[.ref d, .int 0 0, .int es.size 0, .int ep 0] } }) : wpAny (model prog w) A (pyIter (.ref d)) Q E s := by
  have hT : s.TypeIs (.ref d) "dict" := ⟨o, ho, hc.1⟩
  refine wpAny_pyIter_slot hT F.slot_dict_iter (wpAny_call_entry F.slot_dict_iter hT F.entry_dict_iter ?_ (F.args_dict_iter_1 _))
  unfold Builtin.«dict.__iter__» Builtin.Dict.dictSlotNone
  refine wpAny_bind (wpAny_bind (wpAny_notOrdered_dict hT ?_))
  show wpAny _ _ (pure (Value.ref d)) _ _ s
  refine wpAny_pure ?_
  show wpAny _ _ (Builtin.Dict.showsAll d >>= _) _ _ s
  unfold Builtin.Dict.showsAll
  rw [if_neg (by rw [hd]; exact Bool.false_ne_true)]
  refine wpAny_bind (wpAny_pure (wpAny_bind (wpAny_dictEntries ho hdat (wpAny_bind (wpAny_dictEpoch ho hdat ?_)))))
  refine wpAny_bind (wpAny_newObj_type (wpAny_pure ⟨_, rfl, "dict_keyiterator", _, ⟨_, Heap.get?_push_size _ rfl, rfl⟩, F.slot_dict_keyiterator_next.lookup, ?_⟩))
  simpa [rawInt] using hQ
theorem rk_next {Q : Option Value → Shared → Prop} (hit : s.heap.IsKeyIter it d i es.size ep) (hod : s.heap.get? d = some o) (hdd : o.data = .dict es ep) (hi : i < es.size)
    (hQ : ∀ h', h'.IsKeyIter it d (i + 1) es.size ep → Heap.SameBut it s.heap h' → Q (some es[i].key) { s with heap := h' }) : wpAny (model prog w) A (pyNext (.ref it)) Q E s := by
  obtain ⟨oi, ho, hc, hd⟩ := id hit
  unfold pyNext
  refine wpAny_bind (wpAny_attempt (wpAny_callSpecial?_slot (name := Str.ofString "__next__") hit.typeIs F.slot_dict_keyiterator_next
    (wpAny_call_entry F.slot_dict_keyiterator_next hit.typeIs F.entry_dict_keyiterator_next ?_ (F.args_dict_keyiterator_next_1 _))))
  refine wpAny_bind (wpAny_pure (wpAny_bind (wpAny_bind ?_)))
  first | refine wpAny_bind (wpAny_typeNameOfWhole_keyiter hit.typeIs (wpAny_pure ?_)) | refine wpAny_bind (wpAny_typeNameOf_keyiter hit.typeIs (wpAny_pure ?_))
  refine wpAny_bind (wpAny_fieldsOf ho hd ?_)
  simp only [show Builtin.Dict_items.ownsTuple "dict_keyiterator" = false by decide, Bool.false_eq_true, if_false]
  show wpAny _ _ (if (Value.ref d == Value.none) = true then _ else _) _ _ s
  rw [if_neg (show ¬ ((Value.ref d == Value.none) = true) from Bool.false_ne_true)]
  refine wpAny_bind (wpAny_pure (wpAny_bind (wpAny_dictEntries hod hdd ?_)))
  rw [if_neg (by simp)]
  refine wpAny_bind (wpAny_pure (wpAny_bind (wpAny_dictEpoch hod hdd ?_)))
  rw [if_neg (by simp)]
  refine wpAny_pure ?_
  simp only [show ¬ ((i : Int) < 0) from by omega, if_false, Int.toNat_natCast, Array.getElem?_eq_getElem hi]
  refine wpAny_bind ?_
  first | refine wpAny_bind (wpAny_typeNameOfWhole_keyiter hit.typeIs (wpAny_pure ?_)) | refine wpAny_bind (wpAny_typeNameOf_keyiter hit.typeIs (wpAny_pure ?_))
  refine wpAny_bind (wpAny_isOneOf_keyiter hit.typeIs ?_)
  show wpAny _ _ (setField (.ref it) 1 (rawInt ((i : Int) + 1)) >>= _) _ _ s
  refine wpAny_bind (wpAny_setField ho hd (by simp) ?_)
  have new : (s.heap.update it (Obj.mapFields (·.setIfInBounds 1 (rawInt ((i : Int) + 1))))).IsKeyIter it d (i + 1) es.size ep :=
    ⟨_, Heap.get?_update_self _ ho (Obj.isFreed_of_fields (Obj.data_mapFields hd _)), (Obj.cls_mapFields ..).trans hc, by rw [Obj.data_mapFields hd]; simp [rawInt]⟩
  refine wpAny_bind (wpAny_holding (wpAny_bind (wpAny_isOneOf_keyiter (s := { s with heap := s.heap.update it (Obj.mapFields (·.setIfInBounds 1 (rawInt ((i : Int) + 1)))) }) new.typeIs ?_)))
  show wpAny _ _ (pure es[i].key) _ _ _
  exact wpAny_pure (wpAny_pure ⟨_, rfl, wpAny_pure (hQ _ new (Heap.SameBut.update ..))⟩)
theorem rk_end {Q : Option Value → Shared → Prop} (hh : A.handled = none) (hit : s.heap.IsKeyIter it d i es.size ep) (hod : s.heap.get? d = some o) (hdd : o.data = .dict es ep) (hi : es.size ≤ i)
    (hQ : ∀ h', Heap.ExtBut it s.heap h' → Q none { s with heap := h' }) : wpAny (model prog w) A (pyNext (.ref it)) Q E s := by
  obtain ⟨oi, ho, hc, hd⟩ := id hit
  unfold pyNext
  refine wpAny_bind (wpAny_attempt (wpAny_callSpecial?_slot (name := Str.ofString "__next__") hit.typeIs F.slot_dict_keyiterator_next
    (wpAny_call_entry F.slot_dict_keyiterator_next hit.typeIs F.entry_dict_keyiterator_next ?_ (F.args_dict_keyiterator_next_1 _))))
  refine wpAny_bind (wpAny_pure (wpAny_bind (wpAny_bind ?_)))
  first | refine wpAny_bind (wpAny_typeNameOfWhole_keyiter hit.typeIs (wpAny_pure ?_)) | refine wpAny_bind (wpAny_typeNameOf_keyiter hit.typeIs (wpAny_pure ?_))
  refine wpAny_bind (wpAny_fieldsOf ho hd ?_)
  simp only [show Builtin.Dict_items.ownsTuple "dict_keyiterator" = false by decide, Bool.false_eq_true, if_false]
  show wpAny _ _ (if (Value.ref d == Value.none) = true then _ else _) _ _ s
  rw [if_neg (show ¬ ((Value.ref d == Value.none) = true) from Bool.false_ne_true)]
  refine wpAny_bind (wpAny_pure (wpAny_bind (wpAny_dictEntries hod hdd ?_)))
  rw [if_neg (by simp)]
  refine wpAny_bind (wpAny_pure (wpAny_bind (wpAny_dictEpoch hod hdd ?_)))
  rw [if_neg (by simp)]
  refine wpAny_pure ?_
  simp only [show ¬ ((i : Int) < 0) from by omega, if_false, Int.toNat_natCast, Array.getElem?_eq_none hi]
  refine wpAny_bind ?_
  first | refine wpAny_bind (wpAny_typeNameOfWhole_keyiter hit.typeIs (wpAny_pure ?_)) | refine wpAny_bind (wpAny_typeNameOf_keyiter hit.typeIs (wpAny_pure ?_))
  show wpAny _ _ (setField (.ref it) 0 .none >>= _) _ _ s
  refine wpAny_bind (wpAny_setField ho hd (by simp) ?_)
  show wpAny _ _ (newExc (.type "StopIteration") [] >>= _) _ _ _
  refine wpAny_bind ?_
  simp only [newExc, newTuple]
  refine wpAny_bind (wpAny_newObj_type ?_ (by size_fits))
  refine wpAny_bind (m := firstArgMember _ _) (wpAny_of_eq (a := Value.none) (by first | rfl | (simp only [firstArgMember]; rfl)) (wpAny_newObj_type ?_ (by size_fits)))
  simp only [raiseNew]
  refine wpAny_bind (wpAny_handled ?_)
  rw [show A.in1.handled = none from hh]
  refine wpAny_bind (wpAny_pure (wpAny_throw ?_))
  refine wpAny_bind (wpAny_isInstance (T := "StopIteration") (b := true) ⟨_, Heap.get?_push_size _ rfl, rfl⟩ isSubtype_stop ?_)
  exact wpAny_pure (hQ _ (((Heap.SameBut.update ..).extBut.push _).push _))
end
def Itk (d : Addr) (o : Obj) (u : HO) : It :=
  ⟨fun i H => H d = some (.frz o u) ∧ i < szU u, fun i H x H' => H' = H ∧ ∃ v, KeyAt H u i x v, fun i H => H d = some (.frz o u) ∧ szU u ≤ i⟩
theorem keyiter_at {h h' : Heap} {it d : Addr} {i n ep : Nat} (x : h.IsKeyIter it d i n ep) (k : ∀ o, h.get? it = some o → h'.get? it = some o) : h'.IsKeyIter it d i n ep := let ⟨o, ho, r⟩ := x; ⟨o, k _ ho, r⟩
theorem turn_keys {P : Program} {w : World} {K : PySem.W.Frag} {tg : Expr} (d it : Addr) (o : Obj) (u : HO) (hu : DictU u) (es : Array DictEntry) (ep : Nat) (hd : o.data = .dict es ep) :
    Turn P w K tg (Itk d o u) [it] it (fun i h => h.IsKeyIter it d i es.size ep) where
  mem := by simp
  obj := fun i h st b hb => by
    rw [List.mem_singleton.mp hb]
    obtain ⟨oi, e, c, q⟩ := st
    exact ⟨oi, e, fun v z => by rw [q] at z; cases z⟩
  keep := fun i h h' st k => keyiter_at st fun oi e => k it (by simp) oi e
  item := by
    intro X hP hw hK hc i pins s σ H E I hf st hg
    subst hP hw hK
    obtain ⟨hH, hi⟩ := hg
    obtain ⟨_, hod, _, es', ep', hd', hz, hall⟩ := raw_of I.hok hH hu
    rw [hd] at hd'; cases hd'
    obtain ⟨f0, f1, f2, f3, f4, f5⟩ := hf it (by simp)
    have hi' : i < es.size := by omega
    obtain ⟨x, v, hk, r1, r2⟩ := hall i hi'
    refine rk_next st hod hd hi' fun h' st' sb => ?_
    have I1 : Inv X pins σ H { s with heap := h' } := I.turned (t' := s.toks) (fun b ob hb e => (sb.2 b hb).trans e) f0 f1 f3 f4 f5
    obtain ⟨oi, e, c, q⟩ := id st'
    exact ⟨_, rfl, go_of (s := { s with heap := h' }) e c q (by decide) ⟨x, H, I1, r1, ⟨rfl, v, hk⟩, st', fun b hb => (hf b hb).1⟩⟩
  done := by
    intro X hP hw hK hc i pins s σ H E I hf st hg
    subst hP hw hK
    obtain ⟨hH, hi⟩ := hg
    obtain ⟨_, hod, _, es', ep', hd', hz, hall⟩ := raw_of I.hok hH hu
    rw [hd] at hd'; cases hd'
    obtain ⟨f0, f1, f2, f3, f4, f5⟩ := hf it (by simp)
    exact rk_end (I.ok.hd hc) st hod hd (by omega) fun h' eb => ⟨rfl, I.turned (t' := s.toks) (fun b ob hb e => eb b ob hb e) f0 f1 f3 f4 f5⟩
  self := fun A i s Q E st h => by
    refine wpAny_pyIter_slot st.typeIs F.slot_dict_keyiterator_iter (wpAny_call_entry F.slot_dict_keyiterator_iter st.typeIs F.entry_dict_keyiterator_iter ?_ (F.args_dict_keyiterator_iter_1 _))
    show wpAny _ _ (ret (.ref it)) _ _ s
    exact wpAny_pure ⟨_, rfl, "dict_keyiterator", _, st.typeIs, F.slot_dict_keyiterator_next.lookup, h⟩
def iKeys (te : TE) : TI := fun σ H R => te σ H fun x H1 => ∃ d o u, x = .ref d ∧ H1 d = some (.frz o u) ∧ DictU u ∧ R (Itk d o u) H1
theorem pi_keys {X : Cx} {tg e : Expr} {te : TE} (he : PE X e te) : PI X tg e (iKeys te) := by
  intro pins s σ H R I h
  refine thn (he pins s σ H _ I h) fun v s1 ⟨x, H1, I1, r, d, o, u, ex, hd, hu, q⟩ => ?_
  subst ex
  cases (show v = Value.ref d from r)
  obtain ⟨hS, hod, hc, es, ep, hdd, hz, _⟩ := raw_of I1.hok hd hu
  refine rk_iter hS hod hc hdd ?_
  have kk : ∀ b ob, s1.heap.get? b = some ob → (s1.heap.push { cls := .type "dict_keyiterator", data := .fields #[.ref d, .int 0 0, .int es.size 0, .int ep 0] }).get? b = some ob := fun b ob z => Heap.get?_push_of_some _ z
  refine ⟨s1.heap.objs.size, [s1.heap.objs.size], _, _, H1, rfl, I1.kept (t' := s1.toks) kk, turn_keys d _ o u hu es ep hdd, ⟨_, Heap.get?_push_size _ rfl, rfl, rfl⟩, fun b hb => ?_, q⟩
  rw [List.mem_singleton.mp hb]
  exact I1.fpOk (Nat.le_refl _) (I1.hok.fresh (Nat.le_refl _))
section
variable {prog : Program} {w : World} {A : Around} {E : Value → Shared → Prop} {s : Shared} {d it v : Addr} {o : Obj} {es : Array DictEntry} {i ep : Nat} {ok ov : Value}
end
theorem for_keys {d : Addr} {o : Obj} {u : HO} {g : TG} {tb : TS} {D : Ends} {σ : St} {H : Hp} (Pv : Nat → St → Hp → Prop) (h0 : Pv 0 σ H) (hl : ∀ i σ H, i ≤ szU u → Pv i σ H → H d = some (.frz o u))
    (hs : ∀ i x v σ H, KeyAt H u i x v → i < szU u → Pv i σ H → g x σ H fun σ2 H2 => tb { D with nx := Pv (i + 1), ct := Pv (i + 1), bk := D.nx } σ2 H2) (hd : ∀ σ H, Pv (szU u) σ H → D.nx σ H) :
    ∃ W : Nat → Nat → St → Hp → Prop, (∃ m, W 0 m σ H) ∧ ∀ i m σ H, W i m σ H →
      ((Itk d o u).stop i H ∧ D.nx σ H) ∨ ((Itk d o u).go i H ∧ ∃ N : St → Hp → Prop, (∀ σ' H', N σ' H' → ∃ m', m' < m ∧ W (i + 1) m' σ' H') ∧ ∀ x H', (Itk d o u).yld i H x H' → g x σ H' fun σ2 H2 => tb { D with nx := N, ct := N, bk := D.nx } σ2 H2) := by
  refine ⟨fun i m σ H => m = szU u - i ∧ i ≤ szU u ∧ Pv i σ H, ⟨szU u, by simp, Nat.zero_le _, h0⟩, ?_⟩
  rintro i m σ H ⟨rfl, hi, p⟩
  have q := hl i σ H hi p
  by_cases hlt : i < szU u
  · refine .inr ⟨⟨q, hlt⟩, Pv (i + 1), fun σ' H' p' => ⟨szU u - (i + 1), by omega, rfl, hlt, p'⟩, fun x H' y => ?_⟩
    obtain ⟨e, v, k⟩ := y
    subst e
    exact hs i x v σ _ k hlt p
  · have e : i = szU u := by omega
    subst e
    exact .inl ⟨⟨q, Nat.le_refl _⟩, hd σ H p⟩
end L2
namespace L2
open PySem PySem.Spec PyProof.Rows
section
variable {X : Cx}
end
section
variable {prog : Program} {w : World} {A : Around} {E : Value → Shared → Prop} {s : Shared} {d : Addr} {o : Obj} {es : Array DictEntry} {ep : Nat}
end
section
variable {X : Cx}
end
section
variable {X : Cx}
end
end L2
namespace L2
open PySem PySem.Spec PyProof.Rows
def hAt (es : Array (Int × Value)) (i : Nat) : Int := (es[i]?.map (·.1)).getD 0
def addT (t : SetTable) (es : Array (Int × Value)) (h : Int) (x : Value) : Option (SetTable × Array (Int × Value)) :=
  if t.gaveWay = true then none else
  match t.probe (hAt es) h (t.probeStart h) with
  | some (.empty j none) => if (t.put j).1.tooFull = true then none else if (t.put j).1.fits (SetTable.insertAt es (t.put j).2 (h, x)).size = true then some ((t.put j).1, SetTable.insertAt es (t.put j).2 (h, x)) else none
  | _ => none
section
variable {prog : Program} {w : World} {A : Around} {E : Value → Shared → Prop} {s : Shared}
theorem hbv_ints {b : Addr} {o : Obj} {items : Array Value} {n : Nat} {Q : Bool → Shared → Prop} (ho : s.heap.get? b = some o) (hc : o.cls = .type "tuple") (hd : o.data = .seq items n) (hi : ∀ v ∈ items, ∃ i t, v = Value.int i t) (h : Q true s) :
    wpAny (model prog w) A (hashByValue 8 (.ref b)) Q E s := by
  have hT : s.TypeIs (.ref b) "tuple" := ⟨o, ho, hc⟩
  unfold hashByValue
  refine wpAny_bind (wpAny_specialOf hT F.slot_tuple_hash.lookup ?_)
  dsimp only
  refine wpAny_bind ?_
  unfold seqItems?
  refine wpAny_bind (wpAny_load ho ?_)
  rw [hd]
  refine wpAny_pure (wpAny_bind ?_)
  show wpAny _ _ (forIn items _ _) _ _ _
  rw [← Array.forIn_toList]
  refine wpAny_forIn_list _ (fun rest q s' => s' = s ∧ q = (none, ()) ∧ ∀ v ∈ rest, ∃ i t, v = Value.int i t) _ ?_ ?_ _ _ ⟨rfl, rfl, fun v hv => hi v (Array.mem_toList_iff.mp hv)⟩
  · rintro v rest q s' ⟨rfl, rfl, hr⟩
    obtain ⟨i, t, rfl⟩ := hr v List.mem_cons_self
    have e : hashByValue 7 (.int i t) = pure true := by simp [hashByValue]
    rw [e]
    exact wpAny_bind (wpAny_pure (by
      show wpAny _ _ (if (!true) = true then _ else _) _ _ _
      rw [if_neg (by decide)]
      exact wpAny_pure ⟨rfl, rfl, fun x hx => hr x (List.mem_cons_of_mem _ hx)⟩))
  · rintro q s' ⟨rfl, rfl, _⟩
    exact wpAny_pure h
theorem setAdd_free {K : Type} [DecidableEq K] {knd : HeapKind prog w K} {a b : Addr} {k : K} {o : Obj} {es es' : Array (Int × Value)} {ep : Nat} {t t' : SetTable} {Q : Bool → Shared → Prop} (hr : knd.room A) (hk : knd.is s.heap k b) (ho : s.heap.get? a = some o) (hd : o.data = .set es ep t) (hf : t.fits es.size = true) (hz : es'.size < 1000)
    (hv : ∀ (tk : Nat) (Q' : Bool → Shared → Prop), Q' true { s with toks := tk } → wpAny (model prog w) A (hashByValue 8 (.ref b)) Q' E { s with toks := tk })
    (e : addT t es (knd.hash k) (.ref b) = some (t', es'))
    (h : ∀ h', Heap.SameBut a s.heap h' → h'.get? a = some { o with data := .set es' (ep + 1) t' } → Q true { s with heap := h', toks := s.toks + knd.draws k }) :
    wpAny (model prog w) A (setAdd a (.ref b)) Q E s := by
  unfold addT at e
  split at e
  · cases e
  · rename_i hg
    split at e
    · rename_i j hp
      split at e
      · cases e
      · rename_i hfull
        split at e
        · rename_i hfit
          injection e with e
          injection e with e1 e2
          unfold setAdd
          refine wpAny_holding (wpAny_bind (knd.pyHash hr hk ?_))
          unfold setAddHashed
          refine wpAny_holding ?_
          show wpAny _ _ (setAddHashedIn a (.ref b) (knd.hash k) (99999 + 1)) _ _ _
          unfold setAddHashedIn
          refine wpAny_bind (wpAny_setState_of (s := { s with toks := s.toks + knd.draws k }) ho hd hf ?_)
          dsimp only
          rw [if_neg (show ¬ byScan (.ref b) es = true by simp [byScan, Value.scannable])]
          refine wpAny_bind ?_
          unfold setSearch
          show wpAny _ _ (setSearchFrom a (.ref b) (knd.hash k) true (99999 + 1) none) _ _ _
          unfold setSearchFrom
          refine wpAny_bind (wpAny_setState_of (s := { s with toks := s.toks + knd.draws k }) ho hd hf ?_)
          dsimp only
          rw [if_neg hg]
          split
          · rename_i met hm
            have em : met = .empty j none := Option.some.inj (hm.symm.trans hp)
            subst em
            dsimp only
            refine wpAny_pure ?_
            dsimp only
            refine wpAny_bind (wpAny_setState_of (s := { s with toks := s.toks + knd.draws k }) ho hd hf ?_)
            dsimp only
            subst e1 e2
            have tail : wpAny (model prog w) A (storeSet a (SetTable.insertAt es (t.put j).2 (knd.hash k, .ref b)) (t.put j).1 >>= fun _ => if (!false && (t.put j).1.tooFull) = true then (setRelay a (SetTable.grown (es.size + 1)) >>= fun _ => pure true) else pure true) Q E { s with toks := s.toks + knd.draws k } := by
              refine wpAny_bind (wpAny_storeSet_of (s := { s with toks := s.toks + knd.draws k }) ho hd ?_ (by have : sizeLine = 2 ^ 24 := rfl; omega))
              rw [if_neg (by simpa using hfull)]
              refine wpAny_pure (h _ (Heap.SameBut.update ..) ?_)
              have := Heap.get?_update_self (Obj.putSet (SetTable.insertAt es (t.put j).2 (knd.hash k, .ref b)) (t.put j).1) ho (by rw [putSet_of _ _ hd]; rfl)
              rw [putSet_of _ _ hd] at this
              exact this
            split
            · refine wpAny_bind (hv _ _ ?_)
              rw [if_pos (rfl : true = true)]
              exact tail
            · refine wpAny_bind (wpAny_pure ?_)
              rw [if_pos (rfl : true = true)]
              exact tail
          · rename_i hm
            exact (hm _ hp).elim
        · cases e
    · cases e
end
section
variable {prog : Program} {w : World} {A : Around} {R : Result → Shared → Prop} {I : Addr} {fp wr : List Addr} {G : Array GenState → Array GenState → Prop} {n : Nat} {P : Nat → Value → Prop} {St : Nat → Shared → Prop}
def ITup (h : Heap) (k : List Int) (b : Addr) : Prop := ∃ o items c, h.get? b = some o ∧ o.cls = .type "tuple" ∧ o.data = .seq items c ∧ IntsAre items.toList k
theorem loop_tups (W : WalksS prog w A.in1 I fp wr G n P St) (S : Addr) (hSf : S ∉ fp) (knd : HeapKind prog w (List Int)) (hroom : knd.room A.in1) (his : ∀ h k b, ITup h k b → knd.is h k b) (ad : Nat → Addr) (key : Nat → List Int) (hval : ∀ i v, P i v → v = .ref (ad i))
    (had : ∀ i, i < n → ad i ≠ S ∧ ad i ∉ wr) (T : Nat → SetTable) (Es : Nat → Array (Int × Value)) (hadd : ∀ i, i < n → addT (T i) (Es i) (knd.hash (key i)) (.ref (ad i)) = some (T (i + 1), Es (i + 1))) (hfit : ∀ i, i ≤ n → (T i).fits (Es i).size = true ∧ (Es i).size < 1000) :
    ∀ (k i : Nat) (s : Shared), n - i = k → i ≤ n → St i s → (∀ j, j < n → ITup s.heap (key j) (ad j)) → (∃ o ep, s.heap.get? S = some o ∧ o.ExactSet ∧ o.data = .set (Es i) ep (T i)) →
      (∀ s', Moved (S :: wr) G s s' → (∃ o ep, s'.heap.get? S = some o ∧ o.ExactSet ∧ o.data = .set (Es n) ep (T n)) → R (.ok (.ret .none)) s') →
      codeAny (model prog w) A (.builtin "set.update.loop" ⟨[.ref S, .ref I], []⟩) R s := by
  have hSw : S ∉ wr := fun h => hSf (W.sub _ h)
  have more : ∀ b ∈ wr, b ∈ S :: wr := fun b hb => List.mem_cons_of_mem _ hb
  have it_kept : ∀ {h h' : Heap} {k b}, ITup h k b → (∀ o, h.get? b = some o → h'.get? b = some o) → ITup h' k b := fun ⟨o, its, c, h1, h2⟩ f => ⟨o, its, c, f o h1, h2⟩
  intro k
  induction k with
  | zero =>
    intro i s hk hi hst ht hS hR
    obtain rfl : i = n := by omega
    refine codeAny_builtin F.entry_set_update_loop ?_
    rw [Around.under_plainId F.plain_set_update_loop _]
    show wpAny _ A.in1 (pyNext (.ref I) >>= _) _ _ s
    refine wpAny_bind (W.done s _ _ hst fun s' hm => wpAny_pure (hR s' (hm.mono more) ?_))
    obtain ⟨o, ep, h1, h2⟩ := hS
    exact ⟨o, ep, hm.heap S _ hSw h1, h2⟩
  | succ k ih =>
    intro i s hk hi hst ht hS hR
    have hlt : i < n := by omega
    refine codeAny_builtin F.entry_set_update_loop ?_
    rw [Around.under_plainId F.plain_set_update_loop _]
    show wpAny _ A.in1 (pyNext (.ref I) >>= _) _ _ s
    refine wpAny_bind (W.item i s _ _ hlt hst fun v s' hP hst' hm => ?_)
    obtain rfl := hval i v hP
    obtain ⟨o, ep, h1, h2, h3⟩ := hS
    have ht' : ∀ j, j < n → ITup s'.heap (key j) (ad j) := fun j hj => it_kept (ht j hj) fun o q => hm.heap _ o (had j hj).2 q
    obtain ⟨ob, its, c, g1, g2, g3, g4⟩ := id (ht' i hlt)
    show wpAny _ A.in1 (holding [Value.ref (ad i)] (setAdd S (.ref (ad i))) >>= _) _ _ s'
    refine wpAny_bind (wpAny_holding ?_)
    refine setAdd_free (knd := knd) (s := s') hroom (his _ _ _ (ht' i hlt)) (hm.heap S _ hSw h1) h3 (hfit i hi).1 (hfit (i + 1) hlt).2 (fun tk Q' q => hbv_ints (s := { s' with toks := tk }) g1 g2 g3 (fun v hv => ?_) q) (hadd i hlt) fun h' sb hg => ?_
    · exact g4.allInts v (by simpa using hv)
    · refine wpAny_pure ⟨plainId_quiet F.plain_set_update_loop _, ih (i + 1) _ (by omega) hlt (W.frame _ s' _ _ hst' (Nat.le_add_right _ _) fun b hb o e => ?_) (fun j hj => it_kept (ht' j hj) fun o q => ?_) ⟨_, _, hg, h2, rfl⟩ fun s'' hm'' hS'' => ?_⟩
      · rw [sb.2 b (fun z => hSf (z ▸ hb))]; exact e
      · rw [sb.2 _ (had j hj).1]; exact q
      · refine hR s'' (Moved.trans W.gtrans ((hm.mono more).then_heap (Nat.le_add_right _ _) fun b o hb e => ?_) hm'') hS''
        rw [sb.2 b (fun z => hb (by rw [z]; exact List.mem_cons_self))]; exact e
end
abbrev set0 (led : Bool) : Obj := { cls := .type "set", dict := none, data := .set #[] 0 (.fresh 0 0 led) }
set_option maxHeartbeats 3200000 in
theorem call_set_tups {prog : Program} {w : World} {A : Around} {E : Value → Shared → Prop} {s : Shared} {l : Addr} {as : List Addr} {Q : Value → Shared → Prop} (hh : A.handled = none) (hl : s.heap.IsList l (as.map Value.ref).toArray)
    (knd : HeapKind prog w (List Int)) (hroom : knd.room A.in1.in1.in1) (his : ∀ h k b, ITup h k b → knd.is h k b) (key : Nat → List Int) (htup : ∀ j, j < as.length → ITup s.heap (key j) (as.getD j 0))
    (T : Bool → Nat → SetTable) (Es : Bool → Nat → Array (Int × Value)) (h0 : ∀ led, T led 0 = .fresh 0 0 led ∧ Es led 0 = #[]) (hadd : ∀ led i, i < as.length → addT (T led i) (Es led i) (knd.hash (key i)) (.ref (as.getD i 0)) = some (T led (i + 1), Es led (i + 1)))
    (hfit : ∀ led i, i ≤ as.length → (T led i).fits (Es led i).size = true ∧ (Es led i).size < 1000)
    (h : ∀ (led : Bool) (h' : Heap) (tk : Nat), (∃ o ep, h'.get? s.heap.objs.size = some o ∧ o.ExactSet ∧ o.data = .set (Es led as.length) ep (T led as.length)) → (∀ b o, b < s.heap.objs.size → s.heap.get? b = some o → h'.get? b = some o) →
      Q (.ref s.heap.objs.size) { s with heap := h', toks := tk }) : wpAny (model prog w) A (call (.type "set") [.ref l]) Q E s := by
  obtain ⟨c0, tl0, hmro⟩ := F.called_set.mro
  have made := F.called_set.made
  have sub := F.called_set.sub
  have nt := F.called_set.notType
  have cc := F.called_set.canCreate
  have ck := F.typeCall_set_1 (.ref l)
  refine wpAny_call (codeAny_of_tree ?_)
  show wpAny _ _ (callAny (.type "set") ⟨[.ref l], []⟩) _ _ _
  refine wpAny_pure ⟨Code.quiet_builtin _ (by decide +kernel), codeAny_builtin F.entry_type_call ?_⟩
  rw [Around.under_plain (weight_type_call_type "set" [.ref l] []) rfl]
  repeat (any_goals (first | assumption | wp_step))
  refine codeAny_mono (code_set_new_1 (.ref l) (E := E) (Q₁ := fun v s₁ => ∃ led : Bool, v = .ref s.heap.objs.size ∧ s₁ = { s with heap := s.heap.push (set0 led) }) fun led => ⟨led, rfl, rfl⟩) fun r s₁ hr => ?_
  match r, hr with
  | .error e, hr => exact hr
  | .ok (.ret v), ⟨led, ev, es⟩ =>
    subst ev es
    have hS : (s.heap.push (set0 led)).get? s.heap.objs.size = some (set0 led) := Heap.get?_push_size _ rfl
    have hT : Shared.TypeIs { s with heap := s.heap.push (set0 led) } (.ref s.heap.objs.size) "set" := ⟨_, hS, rfl⟩
    have li := F.called_set.init.lookup
    have bi := F.called_set.init.bind (.ref s.heap.objs.size)
    repeat (any_goals (first | assumption | wp_step))
    refine codeAny_mono (codeAny_call_builtin (R := wants (fun r s₂ => r = .none ∧ ∃ h' tk, s₂ = { s with heap := h', toks := tk } ∧ (∃ o ep, h'.get? s.heap.objs.size = some o ∧ o.ExactSet ∧ o.data = .set (Es led as.length) ep (T led as.length)) ∧
      ∀ b o, b < s.heap.objs.size → s.heap.get? b = some o → h'.get? b = some o) E) F.called_set.init.plain F.entry_set_init (check_set_init_1 hT ?_)) fun r₂ s₂ hr₂ => ?_
    · have lt : l < s.heap.objs.size := by obtain ⟨o, ho, _⟩ := hl; exact Heap.lt_size ho
      obtain ⟨⟨oc, od, odt, osl⟩, hol, hcl, nl, hdl⟩ := id hl
      simp only at hcl hdl
      subst hcl hdl
      have hol' : (s.heap.push (set0 led)).get? l = some ⟨.type "list", od, .seq (as.map Value.ref).toArray nl, osl⟩ := Heap.get?_push_of_some _ hol
      have n1 := F.sub_list_set
      have n2 := F.sub_list_frozenset
      have n3 : (Value.type "list" == Value.type "dict") = false := by decide
      have hl1 : (s.heap.push (set0 led)).IsList l (as.map Value.ref).toArray := ⟨_, hol', rfl, nl, rfl⟩
      unfold Builtin.«set.__init__» noKeywords Builtin.Frozenset.updateFrom
      generalize ePI : pyIter = PI
      wp_walk
      subst ePI
      refine wpAny_pyIter_list hl1 (wpAny_bind (wpAny_runValue ?_))
      have sz1 : (s.heap.push (set0 led)).objs.size = s.heap.objs.size + 1 := Heap.size_push ..
      have hd3 : A.in1.in1.in1.handled = none := by simp [hh]
      have neI : l ≠ (s.heap.push (set0 led)).objs.size := by rw [sz1]; exact Nat.ne_of_lt (Nat.lt_succ_of_lt lt)
      have nS : s.heap.objs.size ∉ [(s.heap.push (set0 led)).objs.size, l] := by
        rw [sz1]
        intro z
        rcases List.mem_cons.mp z with z | z
        · exact absurd z (Nat.ne_of_lt (Nat.lt_succ_self _))
        · exact absurd (List.mem_singleton.mp z) (Nat.ne_of_gt lt)
      have hld : ∀ j, j < as.length → as.getD j 0 < s.heap.objs.size := fun j hj => by obtain ⟨o, _, _, h1, _⟩ := htup j hj; exact Heap.lt_size h1
      refine loop_tups ((Walks.list hd3 _ l neI (as.map Value.ref).toArray).toS) s.heap.objs.size nS knd hroom his (fun i => as.getD i 0) key (fun i v hv => ?_) (fun i hi => ?_) (T led) (Es led) (fun i hi => hadd led i (by simpa using hi)) (fun i hi => hfit led i (by simpa using hi))
        ((as.map Value.ref).toArray.size - 0) 0 _ (by omega) (Nat.zero_le _) ⟨⟨_, Heap.get?_push_size _ rfl, rfl, rfl⟩, (hl1.push _)⟩ (fun j hj => ?_) ?_ fun s' hm hS' => ?_
      · have hv' : (as.map Value.ref).toArray[i]? = some v := hv
        rw [List.getElem?_toArray, List.getElem?_map] at hv'
        obtain ⟨x, hx, rfl⟩ := Option.map_eq_some_iff.mp hv'
        show _ = Value.ref (as.getD i 0)
        rw [List.getD_eq_getElem?_getD, hx]; rfl
      · have hi' : i < as.length := by simpa using hi
        have := hld i hi'
        refine ⟨Nat.ne_of_lt this, fun z => ?_⟩
        have z' := List.mem_singleton.mp z
        rw [sz1] at z'
        exact absurd z' (Nat.ne_of_lt (Nat.lt_succ_of_lt this))
      · obtain ⟨o, its, c, q1, q2⟩ := htup j (by simpa using hj)
        exact ⟨o, its, c, Heap.get?_push_of_some _ (Heap.get?_push_of_some _ q1), q2⟩
      · refine ⟨_, 0, Heap.get?_push_of_some _ hS, ⟨rfl, rfl, rfl⟩, ?_⟩
        rw [(h0 led).1, (h0 led).2]
      · obtain ⟨h', g', d', tk', os'⟩ := s'
        obtain rfl : g' = s.gens := hm.gens
        obtain rfl : d' = s.drawn := hm.drawn
        obtain rfl : os' = s.os := hm.os
        refine wpAny_pure ?_
        show wpAny _ _ (ret Value.none) _ _ _
        refine wpAny_pure ⟨rfl, h', tk', rfl, by simpa using hS', fun b o hb e => hm.heap b o (fun z => ?_) (Heap.get?_push_of_some _ (Heap.get?_push_of_some _ e))⟩
        rcases List.mem_cons.mp z with z | z
        · exact absurd z (Nat.ne_of_lt hb)
        · have z' := List.mem_singleton.mp z
          rw [sz1] at z'
          exact absurd z' (Nat.ne_of_lt (Nat.lt_succ_of_lt hb))
    · match r₂, hr₂ with
      | .error e, z => exact z
      | .ok (.ret v), ⟨e1, h', tk, e2, z1, z2⟩ =>
        subst e1 e2
        repeat (any_goals (first | assumption | wp_step))
        exact h led h' tk z1 z2
      | .ok .next, z => exact z.elim
      | .ok .brk, z => exact z.elim
      | .ok .cont, z => exact z.elim
  | .ok .next, hr => exact hr.elim
  | .ok .brk, hr => exact hr.elim
  | .ok .cont, hr => exact hr.elim
end L2
namespace L2
open PySem PySem.Spec PyProof.Rows
def addH (t : SetTable) (hs : Array Int) (h : Int) : Option (SetTable × Array Int) :=
  if t.gaveWay = true then none else
  match t.probe (fun i => (hs[i]?).getD 0) h (t.probeStart h) with
  | some (.empty j none) => if (t.put j).1.tooFull = true then none else if (t.put j).1.fits (SetTable.insertAt hs (t.put j).2 h).size = true then some ((t.put j).1, SetTable.insertAt hs (t.put j).2 h) else none
  | _ => none
theorem map_insertAt {α β : Type} (f : α → β) (xs : Array α) (p : Nat) (x : α) : (SetTable.insertAt xs p x).map f = SetTable.insertAt (xs.map f) p (f x) := by
  unfold SetTable.insertAt
  simp [Array.map_append, Array.map_push, Array.map_extract]
theorem addT_of {t t' : SetTable} {es : Array (Int × Value)} {hs' : Array Int} {h : Int} (x : Value) (e : addH t (es.map (·.1)) h = some (t', hs')) : ∃ es', addT t es h x = some (t', es') ∧ es'.map (·.1) = hs' := by
  have eh : hAt es = fun i => ((es.map (·.1))[i]?).getD 0 := by
    funext i
    unfold hAt
    rw [Array.getElem?_map]
  unfold addH at e
  unfold addT
  rw [eh]
  split at e
  · cases e
  · rename_i hg
    rw [if_neg hg]
    split at e
    · rename_i j hp
      split at e
      · cases e
      · rename_i hf
        rw [if_neg hf]
        split at e
        · rename_i hfit
          injection e with e
          injection e with e1 e2
          have em := map_insertAt (fun q : Int × Value => q.1) es (t.put j).2 (h, x)
          have sz : (SetTable.insertAt es (t.put j).2 (h, x)).size = (SetTable.insertAt (es.map (·.1)) (t.put j).2 h).size := by rw [← em, Array.size_map]
          rw [sz, if_pos hfit]
          exact ⟨_, by rw [e1], by rw [em]; exact e2⟩
        · cases e
    · cases e
def allH : SetTable → Array Int → List Int → Bool
  | t, hs, [] => t.fits hs.size && decide (hs.size < 1000)
  | t, hs, h :: r => t.fits hs.size && decide (hs.size < 1000) && match addH t hs h with
    | some (t', hs') => allH t' hs' r
    | none => false
theorem allH_size : ∀ {r : List Int} {t : SetTable} {hs : Array Int}, allH t hs r = true → t.fits hs.size = true ∧ hs.size < 1000
  | [], t, hs, h => by simpa [allH] using h
  | x :: r, t, hs, h => by
    simp only [allH, Bool.and_eq_true, decide_eq_true_eq] at h
    exact h.1
theorem states : ∀ (r : List (Int × Value)) (t : SetTable) (es : Array (Int × Value)), allH t (es.map (·.1)) (r.map (·.1)) = true → ∃ (T : Nat → SetTable) (Es : Nat → Array (Int × Value)), T 0 = t ∧ Es 0 = es ∧
    (∀ i q, r[i]? = some q → addT (T i) (Es i) q.1 q.2 = some (T (i + 1), Es (i + 1))) ∧ (∀ i, i ≤ r.length → (T i).fits (Es i).size = true ∧ (Es i).size < 1000) ∧ (Es r.length).size = es.size + r.length
  | [], t, es, h => by
    have := allH_size h
    rw [Array.size_map] at this
    exact ⟨fun _ => t, fun _ => es, rfl, rfl, (fun i q z => by simp at z), (fun i _ => this), rfl⟩
  | q :: r, t, es, h => by
    have h0 := allH_size h
    rw [Array.size_map] at h0
    simp only [allH, List.map_cons, Bool.and_eq_true] at h
    cases e : addH t (es.map (·.1)) q.1 with
    | none => rw [e] at h; exact absurd h.2 Bool.false_ne_true
    | some z =>
      obtain ⟨t', hs'⟩ := z
      rw [e] at h
      obtain ⟨es', h1, h2⟩ := addT_of q.2 e
      have h3 : allH t' (es'.map (·.1)) (r.map (·.1)) = true := by rw [h2]; exact h.2
      obtain ⟨T, Es, a1, a2, a3, a4, a5⟩ := states r t' es' h3
      have hz : es'.size = es.size + 1 := by
        unfold addT at h1
        split at h1
        · cases h1
        · split at h1
          · split at h1
            · cases h1
            · split at h1
              · injection h1 with h1
                injection h1 with _ h1
                rw [← h1]
                unfold SetTable.insertAt
                simp only [Array.size_append, Array.size_push, Array.size_extract]
                omega
              · cases h1
          · cases h1
      refine ⟨fun i => match i with | 0 => t | j + 1 => T j, fun i => match i with | 0 => es | j + 1 => Es j, rfl, rfl, fun i p hp => ?_, fun i hi => ?_, ?_⟩
      · cases i with
        | zero => cases hp; show addT t es q.1 q.2 = some (T 0, Es 0); rw [a1, a2]; exact h1
        | succ j => exact a3 j p (by simpa using hp)
      · cases i with
        | zero => exact h0
        | succ j => exact a4 j (by simpa using hi)
      · show (Es r.length).size = _
        rw [a5, hz, List.length_cons]; omega
end L2
namespace L2
open PySem PySem.Spec PyProof.Rows
def hashT (k : List Int) : Int := reduceHash (Builtin.Tuple.tupleHashOf (k.map hashInt))
def SetOk (cs : List (List Int)) : Prop := ∀ led : Bool, allH (.fresh 0 0 led) #[] (cs.map hashT) = true
theorem itup_is {prog : Program} {w : World} {h : Heap} {k : List Int} {b : Addr} (t : ITup h k b) : (tupleKind (intKind prog w)).is h k b := by
  obtain ⟨o, its, c, h1, h2, h3, h4⟩ := t
  refine ⟨o, its, c, h1, h2, h3, ?_⟩
  have all : ∀ {us : List Value} {ns : List Int}, IntsAre us ns → PySem.ItemsAre (intKind prog w) ns us := by
    intro us ns z
    induction z with
    | nil => exact .nil
    | cons n t _ ih => exact .cons (intKind_is _ _ _ _) ih
  exact all h4
def stO (a : Addr) (n : Nat) : HO := .ext fun h => ∃ o es ep t, h.get? a = some o ∧ o.ExactSet ∧ o.data = .set es ep t ∧ SetTable.fits t es.size = true ∧ es.size = n
theorem tup_itup {P : Program} {w : World} {H : Hp} {h : Heap} {b : Addr} {c : List Int} (ok : HOk P w H h) (e : H b = some (.tup (c.map V.int))) : ITup h c b := by
  obtain ⟨_, its, rv, o, ho, hc, n, hd⟩ := ok b _ e
  exact ⟨o, its.toArray, n, ho, hc, hd, by simpa using intsAre_of rv⟩
theorem call_setT {X : Cx} (hc : X.calm = true) {k : Nat} (hr : Room k X.A) : CallR X (.type "set") (fun xs H Q => ∃ (l : Addr) (as : List Addr) (cs : List (List Int)), xs = [.ref l] ∧ SqL X.K H l (as.map V.ref) ∧ Tups H as cs ∧ SetOk cs ∧ ∀ p, H p = none → Q (.ref p) (upd H p (stO p cs.length))) := by
  intro pins s σ H xs us Q I r h
  obtain ⟨l, as, cs, rfl, hl, ht, hok, q⟩ := h
  obtain ⟨u, rfl, ru⟩ := vals1 r
  cases ru
  obtain ⟨its, rv, pl, hz⟩ := I.list hl
  obtain rfl := vals_refs rv
  have hu := hr.units
  have len : as.length = cs.length := Paired.length ht
  have hat : ∀ j, j < as.length → ITup s.heap (cs.getD j []) (as.getD j 0) := fun j hj => by
    obtain ⟨c, h1, h2⟩ := ht.at (i := j) (a := as.getD j 0) (by rw [List.getD_eq_getElem?_getD, List.getElem?_eq_getElem hj]; rfl)
    rw [List.getD_eq_getElem?_getD, h1]
    exact tup_itup I.hok h2
  have st : ∀ led : Bool, ∃ (T : Nat → SetTable) (Es : Nat → Array (Int × Value)), T 0 = .fresh 0 0 led ∧ Es 0 = #[] ∧ (∀ i, i < as.length → addT (T i) (Es i) (hashT (cs.getD i [])) (.ref (as.getD i 0)) = some (T (i + 1), Es (i + 1))) ∧
      (∀ i, i ≤ as.length → (T i).fits (Es i).size = true ∧ (Es i).size < 1000) ∧ (Es as.length).size = as.length := fun led => by
    have e1 : ((List.range as.length).map fun j => (hashT (cs.getD j []), Value.ref (as.getD j 0))).map (·.1) = cs.map hashT := by
      rw [List.map_map]
      refine List.ext_getElem? fun j => ?_
      rw [List.getElem?_map, List.getElem?_map]
      by_cases hj : j < as.length
      · rw [List.getElem?_range hj, List.getElem?_eq_getElem (show j < cs.length by omega)]
        show some (hashT (cs.getD j [])) = some (hashT cs[j])
        rw [List.getD_eq_getElem?_getD, List.getElem?_eq_getElem (show j < cs.length by omega)]; rfl
      · rw [List.getElem?_eq_none (by simpa using hj), List.getElem?_eq_none (by omega)]; rfl
    obtain ⟨T, Es, a1, a2, a3, a4, a5⟩ := states ((List.range as.length).map fun j => (hashT (cs.getD j []), Value.ref (as.getD j 0))) (.fresh 0 0 led) #[] (by rw [e1, Array.map_empty]; exact hok led)
    rw [List.length_map, List.length_range] at a4 a5
    refine ⟨T, Es, a1, a2, fun i hi => a3 i (hashT (cs.getD i []), Value.ref (as.getD i 0)) (by rw [List.getElem?_map, List.getElem?_range hi]; rfl), a4, by simpa using a5⟩
  refine call_set_tups (I.ok.hd hc) pl.isList (tupleKind (intKind X.prog X.w)) (show X.A.units + 1 + 1 + 1 < cLine by omega) (fun h k b t => itup_is t) (fun i => cs.getD i []) hat (fun led => Classical.choose (st led)) (fun led => Classical.choose (Classical.choose_spec (st led)))
    (fun led => ⟨(Classical.choose_spec (Classical.choose_spec (st led))).1, (Classical.choose_spec (Classical.choose_spec (st led))).2.1⟩) (fun led => (Classical.choose_spec (Classical.choose_spec (st led))).2.2.1) (fun led => (Classical.choose_spec (Classical.choose_spec (st led))).2.2.2.1) fun led h' tk hS hk => ?_
  have z := Classical.choose_spec (Classical.choose_spec (st led))
  obtain ⟨o, ep, h1, h2, h3⟩ := hS
  refine ⟨.ref s.heap.objs.size, _, I.laid (a := s.heap.objs.size) (o := stO s.heap.objs.size cs.length) (t' := tk) (fun b u e => hk b u (Heap.lt_size e) e) (Nat.le_refl _) ⟨⟨o, _, ep, _, h1, h2, h3, (z.2.2.2.1 _ (Nat.le_refl _)).1, z.2.2.2.2.trans len⟩, ⟨o, h1⟩, ?_⟩, rfl, q _ (I.hok.fresh (Nat.le_refl _))⟩
  rintro g1 g2 ⟨o', es, ep', t, e1, e2⟩ k'
  exact ⟨o', es, ep', t, k' _ e1, e2⟩
theorem call_lenSt {X : Cx} : CallR X (.builtin "len") (fun xs H Q => ∃ a n, xs = [V.ref a] ∧ H a = some (stO a n) ∧ n < 1000 ∧ Q (.int n) H) := by
  intro pins s σ H xs us Q I r h
  obtain ⟨a, n, rfl, ha, hn, q⟩ := h
  obtain ⟨u, rfl, ru⟩ := vals1 r
  cases ru
  obtain ⟨⟨o, es, ep, t, h1, h2, h3, h4, h5⟩, _⟩ := I.hok a _ ha
  subst h5
  exact call_len_set h1 h2 h3 h4 (by omega) ⟨.int es.size, H, I.tok _, ⟨_, rfl⟩, q⟩
end L2
namespace L2
open PySem PySem.Spec PyProof.Rows
structure ClsM (K : PySem.W.Frag) (C : Addr) (m : Str) (f : Addr) : Prop where
  ex : ∃ mc, PySem.W.readsIn K C mc = true ∧ PySem.W.findCls K (.ref C) mc m = some (.val (.ref f))
  hh : PySem.W.handedIn (.ref f) = true
  hg : PySem.W.specialIn K (.ref C) "__getattribute__" = some (some (.builtin "type.__getattribute__"))
  kp : PySem.W.keepIn K (.ref f) = true
structure ClsCallee (P : Program) (w : World) (K : PySem.W.Frag) (mg : Str → Option Value) (base : Heap) (C : Addr) (m : Str) (k : Nat) (ps : List Str) (sp : Sp) : Prop where
  ex : ∃ f fd, FnOk P w K mg base CX0 k f fd ps sp ∧ ClsM K C m f ∧ Binds K fd ps []
section
variable {X : Cx} {C : Addr} {k : Nat} {ps : List Str} {sp : Sp} {m : Str} {pos apos : Pos} {e o : Expr} {es : List Expr} {t : TA}
theorem pe_clsC {pl : Sem Bool} (he : PE X o (tC (.ref C))) (G : ClsCallee X.prog X.w X.K X.mg X.base C m k ps sp) (hr : Room k X.A) (ha : PA X (e :: es) t)
    (hst : starEach (e :: es) X.env = (false, eval e X.env) :: starEach es X.env := by rfl) (hpl : (backTo pos (starEach es X.env)).any (·.1) = false := by rfl)
    (ht : eval (.Call (.Attribute o m apos) (e :: es) [] pos) X.env = (do
      let ov ← eval o X.env
      standAt apos.atName
      let (f, first) ← holding [ov] (getMethod ov m pl)
      callWith pos f first (backTo pos (starEach (e :: es) X.env)) (backToKw pos (keywordEach [] X.env))) := by rfl) :
    PE X (.Call (.Attribute o m apos) (e :: es) [] pos) (tCall sp [] E0 t) := by
  obtain ⟨f, fd, F, hm, hb⟩ := G.ex
  obtain ⟨mc, h1, h2⟩ := hm.ex
  intro pins s σ H Q I h
  refine PySem.W.methodCall_KW (pl := pl) (thn (he pins s σ H (fun v H1 => v = .ref C ∧ H1 = H) I ⟨rfl, rfl⟩) fun u s1 ⟨x, H1, I1, rx, ex, eH⟩ => ?_) ht
  subst ex eH
  cases (show u = Value.ref C from rx)
  refine PySem.W.method_cls I1.kIn hm.hg (PySem.W.cls_value I1.kIn h1 h2 hm.hh ?_)
  have I2 := I1.tok (s1.toks + 1)
  refine PySem.W.callWith_K (first := []) (h₀ := X.base) I.ok.mod.kin hm.kp (thn (ha pos pins _ σ _ _ I2 h) fun us s2 ⟨vs, H2, I3, r, q2⟩ => ⟨I3.kIn, ?_⟩) hst hpl
  exact run_fn F hr hb .nil pass0 I3 r q2
end
structure FunD (K : PySem.W.Frag) (x qual : Str) (st : Stmt) (f : Addr) (fd : FuncData) : Prop where
  ex : ∃ (oc : Value) (od : Option Addr) (dV kV doc pm : Value) (an : Option Addr) (cdv ct : Value) (osl : Array (Option Value)),
    fd = PySem.W.fnOf x qual (defArgs st) (defBody st) (defScope st) dV kV doc pm an cdv ct ∧ K.lookup f = some ⟨oc, od, .func fd, osl⟩ ∧ PySem.W.codeIn K cdv qual = true
section
variable {P : Program} {w : World} {K : PySem.W.Frag} {mg : Str → Option Value} {base : Heap}
theorem FunD.ok {x qual : Str} {st : Stmt} {f : Addr} {fd : FuncData} {N ps : List Str} {k : Nat} {sp : Sp} (F : FunD K x qual st f fd) (S : FnScope N ps (defScope st)) (len : ∀ vs H Q E, sp vs H Q E → vs.length = ps.length)
    (hbody : ∀ (cdv : Value) (A : Around) (outer : List Env) (s : Shared) (H : Hp) (vs : List V) (Q : VK) (E : XK), Room k (A.deeper (envOfC qual (defScope st) s.heap.objs.size f cdv)) → sp vs H Q E →
      ∃ t, PSs (cxOf CX0 P w K mg base N qual (defScope st) f cdv A outer s H E).nox (defBody st) t ∧ t { nx := fun _ H' => Q .non H', rt := Q } (start N vs) H) : FnOk P w K mg base CX0 (k + 1) f fd ps sp := by
  obtain ⟨oc, od, dV, kV, doc, pm, an, cdv, ct, osl, rfl, lk, hcd⟩ := F.ex
  refine fn_of lk hcd S len fun A outer s H vs Q E hr hsp => ?_
  obtain ⟨t, h, q⟩ := hbody cdv A outer s H vs Q E hr hsp
  exact ⟨t, h.nox, q⟩
theorem fund_mk {x qual : Str} {st : Stmt} {f : Addr} {oc : Value} {od an : Option Addr} {osl : Array (Option Value)} {dV kV doc pm cdv ct : Value} (l : K.lookup f = some ⟨oc, od, .func (PySem.W.fnOf x qual (defArgs st) (defBody st) (defScope st) dV kV doc pm an cdv ct), osl⟩)
    (c : PySem.W.codeIn K cdv qual = true) : FunD K x qual st f (PySem.W.fnOf x qual (defArgs st) (defBody st) (defScope st) dV kV doc pm an cdv ct) := ⟨⟨oc, od, dV, kV, doc, pm, an, cdv, ct, osl, rfl, l, c⟩⟩
theorem bindsD {fd : FuncData} {ps : List Str} {T : Addr} {oc : Value} {od : Option Addr} {sl : Array (Option Value)} {items : Array Value} {n : Nat} (hd : fd.defaults = .ref T) (ho : K.lookup T = some ⟨oc, od, .seq items n, sl⟩)
    (h : ∀ us : List Value, us.length = ps.length → ∃ k, bindArgs fd ⟨us, []⟩ = (seqItems? fd.defaults >>= k) ∧ k (some items) = pure (ps.zip us)) : Binds K fd ps [] := fun s us hX hl => by
  rw [List.append_nil] at hl ⊢
  obtain ⟨k, h1, h2⟩ := h us hl
  exact PySem.W.binds_K hX hd ho rfl h1 h2
end
end L2
namespace L2
open PySem PySem.Spec PyProof.Rows
theorem sub_attr : isSubtype (.type "AttributeError") (.type "AttributeError") = pure true := by rw [isSubtype_type]; kernel_rfl
section
variable {prog : Program} {w : World} {A : Around} {h : Heap} {g : Array GenState} {d : Drawn} {t : Nat} {os : OsState} {a : Addr}
abbrev excA (T : Addr) : Obj := { cls := .type "AttributeError", data := .fields #[.ref T, .none, .none, .none, .bool false, .none, unsetMember, unsetMember] }
theorem note_attr {e T : Addr} {nm : Value} {Q : Unit → Shared → Prop} {E : Value → Shared → Prop} (hx : h.get? e = some (excA T))
    (hq : ∀ h', Heap.SameBut e h h' → Shared.TypeIs ⟨h', g, d, t, os⟩ (.ref e) "AttributeError" → Q () ⟨h', g, d, t, os⟩) : wpAny (model prog w) A (noteAttr (.ref e) (.ref a) nm) Q E ⟨h, g, d, t, os⟩ := by
  have hT : (⟨h, g, d, t, os⟩ : Shared).TypeIs (.ref e) "AttributeError" := ⟨_, hx, rfl⟩
  unfold noteAttr lacksNameAndObj
  refine wpAny_bind (wpAny_bind (wpAny_isInstance hT sub_attr ?_))
  rw [if_neg (by decide)]
  refine wpAny_bind (wpAny_load hx ?_)
  dsimp only
  rw [if_neg (by with_unfolding_all exact Bool.false_ne_true), if_neg (by with_unfolding_all exact Bool.false_ne_true)]
  refine wpAny_pure ?_
  rw [if_pos rfl]
  refine wpAny_bind (wpAny_rule (wpAny_bind (wpAny_typeOf hT ?_)))
  dsimp only
  unfold layMembers
  refine wpAny_bind (wpAny_load hx ?_)
  dsimp only
  refine wpAny_update hx ?_
  refine hq _ (Heap.SameBut.update ..) ⟨_, Heap.get?_update_self _ hx (by rfl), by rfl⟩
theorem raise_attr {α : Type} {name msg : Str} {Q : α → Shared → Prop} {E : Value → Shared → Prop} (hh : A.handled = none) (hm : msg.length ≤ sizeLine)
    (hE : ∀ e h' tk, (∀ b u, h.get? b = some u → h'.get? b = some u) → Shared.TypeIs ⟨h', g, d, tk, os⟩ (.ref e) "AttributeError" → E (.ref e) ⟨h', g, d, tk, os⟩) :
    wpAny (model prog w) A (raiseAttrError (.ref a) name msg) Q E ⟨h, g, d, t, os⟩ := by
  unfold raiseAttrError
  refine wpAny_bind (wpAny_mkStr (hx := hm) ?_)
  refine wpAny_bind ?_
  simp only [newExc, newTuple]
  refine wpAny_bind (wpAny_newObj_type ?_ (by size_fits))
  refine wpAny_bind (m := firstArgMember _ _) (wpAny_of_eq (a := Value.none) (by first | rfl | (simp only [firstArgMember]; rfl)) ?_)
  refine wpAny_newObj_type ?_ (by first | size_fits | decide)
  refine wpAny_bind (wpAny_mkText (wpAny_bind ?_))
  have e1 : h.objs.size < (h.push { cls := .type "tuple", data := .seq #[Value.str msg t] }).objs.size := by rw [Heap.size_push]; exact Nat.lt_succ_self _
  have k1 : ∀ b u, h.get? b = some u → (h.push { cls := .type "tuple", data := .seq #[Value.str msg t] }).get? b = some u := fun b u z => Heap.get?_push_of_some _ z
  revert e1 k1
  show _ → _ → wpAny _ _ (noteAttr (.ref (h.push { cls := .type "tuple", data := .seq #[Value.str msg t] }).objs.size) (.ref a) (.str name (t + 1))) _ _ ⟨(h.push { cls := .type "tuple", data := .seq #[Value.str msg t] }).push (excA h.objs.size), g, d, t + 1 + 1, os⟩
  generalize h.push { cls := .type "tuple", data := .seq #[Value.str msg t] } = h1
  intro e1 k1
  refine note_attr (Heap.get?_push_size _ rfl) fun h' sb hT => ?_
  simp only [raiseNew]
  refine wpAny_bind (wpAny_handled ?_)
  rw [hh]
  refine wpAny_bind (wpAny_pure (wpAny_throw ?_))
  exact hE _ h' _ (fun b u z => by
    have z1 := k1 b u z
    rw [sb.2 b (Nat.ne_of_lt (Heap.lt_size z1))]
    exact Heap.get?_push_of_some _ z1) hT
theorem ga_keys {items : Array Value} {n : Nat} {tk : Tok} {Q : Fin → Shared → Prop} {E' : Value → Shared → Prop} (hh : A.handled = none) (hx : h.get? a = some { cls := .type "list", data := .seq items n })
    (hE : ∀ e h' tk, (∀ b u, h.get? b = some u → h'.get? b = some u) → Shared.TypeIs ⟨h', g, d, tk, os⟩ (.ref e) "AttributeError" → E' (.ref e) ⟨h', g, d, tk, os⟩) :
    wpAny (model prog w) A (Builtin.«object.__getattribute__» ⟨[.ref a, .str "keys" tk], []⟩) Q E' ⟨h, g, d, t, os⟩ := by
  have hT : (⟨h, g, d, t, os⟩ : Shared).TypeIs (.ref a) "list" := ⟨_, hx, rfl⟩
  have f4 : typeLookup (.type "list") "keys" = pure none := by rw [typeLookup_type, builtinLookup_eq_fast]; kernel_rfl
  repeat (any_goals (first | assumption | wp_step))
  exact raise_attr hh (by decide +kernel) hE
theorem no_keys {items : Array Value} {n : Nat} {Q : Option Value → Shared → Prop} {E : Value → Shared → Prop} (hh : A.handled = none) (hx : h.get? a = some { cls := .type "list", data := .seq items n })
    (hq : ∀ h' tk, (∀ b u, h.get? b = some u → h'.get? b = some u) → Q none ⟨h', g, d, tk, os⟩) : wpAny (model prog w) A (getAttr? (.ref a) "keys") Q E ⟨h, g, d, t, os⟩ := by
  have hT : (⟨h, g, d, t, os⟩ : Shared).TypeIs (.ref a) "list" := ⟨_, hx, rfl⟩
  have hT1 : (⟨h, g, d, t + 1, os⟩ : Shared).TypeIs (.ref a) "list" := ⟨_, hx, rfl⟩
  have f2 := F.slot_list_getattribute.lookup
  have f3 := F.slot_list_getattribute.bind (.ref a)
  have f5 : typeLookup (.type "list") "__getattr__" = pure none := by rw [typeLookup_type, builtinLookup_eq_fast]; kernel_rfl
  unfold getAttr? getAttrBy?
  refine wpAny_bind (wpAny_mkText (wpAny_bind (wpAny_attempt ?_)))
  unfold getAttrBy
  refine wpAny_holding (wpAny_bind (wpAny_typeOf hT1 ?_))
  rw [f2]
  refine wpAny_bind (wpAny_pure ?_)
  dsimp only
  rw [if_neg (by decide)]
  unfold getAttrByItsOwn hookBefore
  rw [if_neg (by decide)]
  refine wpAny_bind (wpAny_pure (wpAny_bind (wpAny_attempt (wpAny_holding ?_))))
  unfold callGetattribute
  rw [if_neg (by decide)]
  unfold boundAndCalled
  rw [f3]
  refine wpAny_bind (wpAny_pure ?_)
  show wpAny _ _ (call (.builtin "list.__getattribute__") [.ref a, .str "keys" t]) _ _ _
  refine wpAny_call (codeAny_call_builtin F.slot_list_getattribute.plain F.entry_list_ga (F.slot_list_getattribute.check _ _ _ _ _ _ _ _ hT1 (F.args_list_getattribute_2 _ _) (ga_keys (show A.in1.handled = none from hh) hx fun e h' tk keep hTe => ?_)))
  show wpAny _ _ (getattributeRaised (.ref a) (.str "keys" t) (.type "list") (.ref e) none false false) _ _ _
  unfold getattributeRaised hookBehind
  refine wpAny_bind (wpAny_isInstance hTe sub_attr ?_)
  rw [if_pos rfl, if_neg (by decide), f5]
  refine wpAny_bind (wpAny_pure ?_)
  show wpAny _ _ (attributeErrorLeaves (.ref a) (.str "keys" t) (.ref e) false false) _ _ _
  unfold attributeErrorLeaves
  dsimp only
  rw [if_pos (show (!false) = true from rfl)]
  refine wpAny_bind (wpAny_throw (wpAny_bind (wpAny_isInstance hTe sub_attr ?_)))
  rw [if_pos rfl]
  exact wpAny_pure (hq _ _ keep)
end
end L2
namespace L2
open PySem PySem.Spec PyProof.Rows
theorem entry_dul : entryFor table "dict.update.loop" = some Builtin.«dict.update.loop» := entryFor_of_tree (by kernel_rfl)
theorem plain_dul : plainId "dict.update.loop" = true := by decide +kernel
def IPair (h : Heap) (p k : Addr) (v : Value) : Prop := ∃ o c, h.get? p = some o ∧ o.cls = .type "tuple" ∧ o.data = .seq #[.ref k, v] c
section
variable {prog : Program} {w : World} {A : Around} {R : Result → Shared → Prop} {I : Addr} {fp wr : List Addr} {G : Array GenState → Array GenState → Prop} {n : Nat} {P : Nat → Value → Prop} {St : Nat → Shared → Prop} {K : Type} [DecidableEq K]
theorem loop_pairs (W : WalksS prog w A.in1 I fp wr G n P St) (D : Addr) (hDf : D ∉ fp) (knd : HeapKind prog w K) (hroom : knd.room A.in1) (ad ka : Nat → Addr) (key : Nat → K) (vv : Nat → Value) (hval : ∀ i v, P i v → v = .ref (ad i))
    (had : ∀ i, i < n → ad i ≠ D ∧ ad i ∉ wr) (hks : ∀ i, i < n → ∀ h h' : Heap, (∀ b o, b ≠ D → b ∉ wr → h.get? b = some o → h'.get? b = some o) → knd.is h (key i) (ka i) → knd.is h' (key i) (ka i))
    (xs : Nat → List (K × Addr × Value)) (hstep : ∀ i, i < n → xs (i + 1) = storedH (xs i) (key i) (ka i) (vv i)) (hlen : ∀ i, i ≤ n → (xs i).length ≤ sizeLine)
    (hkx : ∀ (i : Nat), i ≤ n → ∀ (h h' : Heap), (∀ b o, b ∉ wr → h.get? b = some o → h'.get? b = some o) → h.DictOfH knd D (xs i) → h'.DictOfH knd D (xs i)) :
    ∀ (k i : Nat) (ti : Tok) (s : Shared), n - i = k → i ≤ n → St i s → (∀ j, j < n → IPair s.heap (ad j) (ka j) (vv j) ∧ knd.is s.heap (key j) (ka j)) → s.heap.DictOfH knd D (xs i) →
      (∀ s', Moved (D :: wr) G s s' → s'.heap.DictOfH knd D (xs n) → R (.ok (.ret .none)) s') →
      codeAny (model prog w) A (.builtin "dict.update.loop" ⟨[.ref D, .ref I, .int (i : Nat) ti, .none], []⟩) R s := by
  have hDw : D ∉ wr := fun h => hDf (W.sub _ h)
  have more : ∀ b ∈ wr, b ∈ D :: wr := fun b hb => List.mem_cons_of_mem _ hb
  intro k
  induction k with
  | zero =>
    intro i ti s hk hi hst ht hD hR
    obtain rfl : i = n := by omega
    refine codeAny_builtin entry_dul ?_
    rw [Around.under_plainId plain_dul _]
    show wpAny _ A.in1 (pyNext (.ref I) >>= _) _ _ s
    refine wpAny_bind (W.done s _ _ hst fun s' hm => ?_)
    show wpAny _ _ (Builtin.Dict.addKeywords D [] >>= _) _ _ _
    refine wpAny_bind ?_
    unfold Builtin.Dict.addKeywords
    refine wpAny_pure (wpAny_pure (hR s' (hm.mono more) (hkx _ hi _ _ (fun b o hb e => hm.heap b o hb e) hD)))
  | succ k ih =>
    intro i ti s hk hi hst ht hD hR
    have hlt : i < n := by omega
    refine codeAny_builtin entry_dul ?_
    rw [Around.under_plainId plain_dul _]
    show wpAny _ A.in1 (pyNext (.ref I) >>= _) _ _ s
    refine wpAny_bind (W.item i s _ _ hlt hst fun v s' hP hst' hm => ?_)
    obtain rfl := hval i v hP
    have ht' : ∀ j, j < n → IPair s'.heap (ad j) (ka j) (vv j) ∧ knd.is s'.heap (key j) (ka j) := fun j hj => by
      obtain ⟨⟨o, c, h1, h2⟩, h3⟩ := ht j hj
      exact ⟨⟨o, c, hm.heap _ o (had j hj).2 h1, h2⟩, hks j hj _ _ (fun b o _ hb e => hm.heap b o hb e) h3⟩
    have hD' := hkx i hi _ _ (fun b o hb e => hm.heap b o hb e) hD
    obtain ⟨⟨o, c, h1, h2, h3⟩, h4⟩ := ht' i hlt
    have hT : s'.TypeIs (.ref (ad i)) "tuple" := ⟨o, h1, h2⟩
    refine wpAny_bind (wpAny_holding (wpAny_bind (wpAny_tryCatch ?_)))
    unfold Builtin.Dict.pairItems
    refine wpAny_bind (wpAny_typeOf hT ?_)
    rw [if_pos (by decide)]
    refine wpAny_bind ?_
    unfold seqItems?
    refine wpAny_bind (wpAny_load h1 ?_)
    rw [h3]
    refine wpAny_pure (wpAny_pure ?_)
    show wpAny _ _ (holding [Value.ref (ka i), vv i] (dictSet D (.ref (ka i)) (vv i))) _ _ _
    refine wpAny_holding (wpAny_dictSet_heap hroom h4 hD' (fun h' hd' sb => ?_) (hlen i hi))
    refine wpAny_pure ⟨plainId_quiet plain_dul _, ?_⟩
    have e : ((i : Nat) : Int) + 1 = ((i + 1 : Nat) : Int) := by omega
    show codeAny _ _ (.builtin "dict.update.loop" ⟨[.ref D, .ref I, .int (((i : Nat) : Int) + 1) 0, .none], []⟩) _ _
    rw [e]
    refine ih (i + 1) _ _ (by omega) hlt (W.frame _ s' _ _ hst' (Nat.le_add_right _ _) fun b hb o q => ?_) (fun j hj => ?_) (by rw [hstep i hlt]; exact hd') fun s'' hm'' hD'' => ?_
    · rw [sb.2 b (fun z => hDf (z ▸ hb))]; exact q
    · obtain ⟨⟨o, c, q1, q2⟩, q3⟩ := ht' j hj
      refine ⟨⟨o, c, ?_, q2⟩, hks j hj _ _ (fun b o hb _ q => ?_) q3⟩
      · rw [sb.2 _ (had j hj).1]; exact q1
      · rw [sb.2 b hb]; exact q
    · refine hR s'' (Moved.trans W.gtrans ((hm.mono more).then_heap (Nat.le_add_right _ _) fun b o hb q => ?_) hm'') hD''
      rw [sb.2 b (fun z => hb (by rw [z]; exact List.mem_cons_self))]; exact q
end
theorem storedH_mem {K : Type} [DecidableEq K] {xs : List (K × Addr × Value)} {k : K} {a : Addr} {v : Value} {P : Addr → Prop} (h : ∀ x ∈ xs, P x.2.1) (ha : P a) : ∀ x ∈ storedH xs k a v, P x.2.1 := by
  unfold storedH
  split
  · intro x hx
    obtain ⟨y, hy, rfl⟩ := List.mem_map.mp hx
    unfold putAt
    split
    · exact h y hy
    · exact h y hy
  · intro x hx
    rcases List.mem_append.mp hx with hx | hx
    · exact h x hx
    · rw [List.mem_singleton.mp hx]; exact ha
theorem storedH_len {K : Type} [DecidableEq K] {xs : List (K × Addr × Value)} {k : K} {a : Addr} {v : Value} : (storedH xs k a v).length ≤ xs.length + 1 := by
  unfold storedH
  split
  · rw [List.length_map]; omega
  · simp
def foldH {K : Type} [DecidableEq K] (key : Nat → K) (ka : Nat → Addr) (vv : Nat → Value) : Nat → List (K × Addr × Value)
  | 0 => []
  | i + 1 => storedH (foldH key ka vv i) (key i) (ka i) (vv i)
theorem foldH_mem {K : Type} [DecidableEq K] {key : Nat → K} {ka : Nat → Addr} {vv : Nat → Value} {P : Addr → Prop} : ∀ (i : Nat), (∀ j, j < i → P (ka j)) → ∀ x ∈ foldH key ka vv i, P x.2.1
  | 0, _ => fun _ h => nomatch h
  | i + 1, h => storedH_mem (foldH_mem i fun j hj => h j (by omega)) (h i (Nat.lt_succ_self _))
theorem foldH_len {K : Type} [DecidableEq K] {key : Nat → K} {ka : Nat → Addr} {vv : Nat → Value} : ∀ (i : Nat), (foldH key ka vv i).length ≤ i
  | 0 => Nat.le_refl _
  | i + 1 => Nat.le_trans storedH_len (Nat.succ_le_succ (foldH_len i))
section
variable {prog : Program} {w : World} {A : Around} {E : Value → Shared → Prop} {s : Shared} {K : Type} [DecidableEq K]
theorem call_dict_pairs {l : Addr} {as : List Addr} {c : Nat} {Q : Value → Shared → Prop} (hh : A.handled = none) (hl : s.heap.get? l = some { cls := .type "list", data := .seq (as.map Value.ref).toArray c })
    (knd : HeapKind prog w K) (hroom : knd.room A.in1.in1) (ka : Nat → Addr) (key : Nat → K) (vv : Nat → Value) (hp : ∀ j, j < as.length → IPair s.heap (as.getD j 0) (ka j) (vv j) ∧ knd.is s.heap (key j) (ka j) ∧ ka j < s.heap.objs.size)
    (hks : ∀ (h h' : Heap) (k : K) (b : Addr), (∀ o, h.get? b = some o → h'.get? b = some o) → knd.is h k b → knd.is h' k b) (hz : as.length ≤ sizeLine)
    (h : ∀ (h' : Heap) (tk : Nat), h'.DictOfH knd s.heap.objs.size (foldH key ka vv as.length) → (∀ b o, s.heap.get? b = some o → h'.get? b = some o) → Q (.ref s.heap.objs.size) { s with heap := h', toks := tk }) :
    wpAny (model prog w) A (call (.type "dict") [.ref l]) Q E s := by
  refine callType_codes (Q₁ := fun v s₁ => v = .ref s.heap.objs.size ∧ s₁ = { s with heap := s.heap.push { cls := .type "dict", data := .dict #[] } }) F.kt_called_dict (F.kt_typeCall_dict_1 _) F.entry_dict_init (kt_code_dict_new _ ⟨rfl, rfl⟩) ?_
  rintro v s₁ ⟨rfl, rfl⟩
  have keep0 : ∀ b u, s.heap.get? b = some u → (s.heap.push { cls := .type "dict", data := .dict #[] }).get? b = some u := fun b u x => Heap.get?_push_of_some _ x
  have nT : Shared.TypeIs { s with heap := s.heap.push { cls := .type "dict", data := .dict #[] } } (.ref s.heap.objs.size) "dict" := ⟨_, Heap.get?_push_size _ rfl, rfl⟩
  have lT : Shared.TypeIs { s with heap := s.heap.push { cls := .type "dict", data := .dict #[] } } (.ref l) "list" := ⟨_, keep0 _ _ hl, rfl⟩
  have d0 : (s.heap.push { cls := .type "dict", data := .dict #[] }).get? s.heap.objs.size = some { cls := .type "dict", data := .dict #[] } := Heap.get?_push_size _ rfl
  have sz0 : (s.heap.push { cls := .type "dict", data := .dict #[] }).objs.size = s.heap.objs.size + 1 := Heap.size_push ..
  revert keep0 nT lT d0 sz0
  generalize s.heap.push { cls := .type "dict", data := .dict #[] } = h0
  intro keep0 nT lT d0 sz0
  refine ⟨nT, F.args_dict_init_2 _ _, ?_⟩
  unfold Builtin.«dict.__init__»
  refine wpAny_bind ?_
  unfold Builtin.Dict.selfAndRest
  refine wpAny_bind (wpAny_notOrdered_dict nT ?_)
  show wpAny _ _ (pure (s.heap.objs.size, [Value.ref l])) _ _ _
  refine wpAny_pure ?_
  show wpAny _ _ (Builtin.Dict.updateFrom "dict.__init__" s.heap.objs.size (.ref l) [] .none) _ _ _
  unfold Builtin.Dict.updateFrom
  refine wpAny_bind (wpAny_typeOf lT ?_)
  rw [if_pos (by decide)]
  refine wpAny_bind (no_keys (show A.in1.in1.handled = none from hh) (keep0 _ _ hl) fun h1 tk1 keep1 => ?_)
  rw [if_pos (show (none : Option Value).isNone = true from rfl)]
  refine wpAny_bind (wpAny_rule (wpAny_bind ?_))
  have hl1 : h1.get? l = some { cls := .type "list", data := .seq (as.map Value.ref).toArray c } := keep1 _ _ (keep0 _ _ hl)
  have isl : h1.IsList l (as.map Value.ref).toArray := ⟨_, hl1, rfl, c, rfl⟩
  refine wpAny_pyIter_list isl (wpAny_pure ⟨plainId_quiet plain_dul _, ?_⟩)
  have le1 : s.heap.objs.size + 1 ≤ h1.objs.size := Heap.lt_size (keep1 _ _ d0)
  have ltl : l < s.heap.objs.size := Heap.lt_size hl
  have neI : l ≠ h1.objs.size := Nat.ne_of_lt (Heap.lt_size hl1)
  have nD : s.heap.objs.size ∉ [h1.objs.size, l] := fun z => by
    rcases List.mem_cons.mp z with z | z
    · exact absurd z (Nat.ne_of_lt (Nat.lt_of_succ_le le1))
    · exact absurd (List.mem_singleton.mp z) (Nat.ne_of_gt ltl)
  have nI : ∀ {b : Addr}, b < s.heap.objs.size → b ∉ [h1.objs.size] := fun hb z => absurd (List.mem_singleton.mp z) (Nat.ne_of_lt (Nat.lt_of_lt_of_le hb (Nat.le_of_succ_le le1)))
  have lt_of : ∀ {b : Addr} {o : Obj}, s.heap.get? b = some o → b < s.heap.objs.size := fun e => Heap.lt_size e
  have hd2 : A.in1.in1.handled = none := by simpa using hh
  refine loop_pairs (A := A.in1) ((Walks.list hd2 _ l neI (as.map Value.ref).toArray).toS) s.heap.objs.size nD knd hroom (fun i => as.getD i 0) ka key vv (fun i v hv => ?_) (fun i hi => ?_) (fun i hi g g' hg z => ?_) (foldH key ka vv) (fun i _ => rfl) (fun i hi => Nat.le_trans (foldH_len i) (Nat.le_trans hi (by simpa using hz))) (fun i hi g g' hg z => ?_)
    ((as.map Value.ref).toArray.size - 0) 0 0 _ (by omega) (Nat.zero_le _) ⟨⟨_, Heap.get?_push_size _ rfl, rfl, rfl⟩, isl.push _⟩ (fun j hj => ?_) ?_ fun s' hm hD' => ?_
  · have hv' : (as.map Value.ref).toArray[i]? = some v := hv
    rw [List.getElem?_toArray, List.getElem?_map] at hv'
    obtain ⟨x, hx, rfl⟩ := Option.map_eq_some_iff.mp hv'
    show _ = Value.ref (as.getD i 0)
    rw [List.getD_eq_getElem?_getD, hx]; rfl
  · obtain ⟨⟨o, c', q1, _⟩, _⟩ := hp i (by simpa using hi)
    exact ⟨Nat.ne_of_lt (lt_of q1), nI (lt_of q1)⟩
  · obtain ⟨_, _, q3⟩ := hp i (by simpa using hi)
    exact hks _ _ _ _ (fun o q => hg _ o (Nat.ne_of_lt q3) (nI q3) q) z
  · obtain ⟨o, es, ep, a1, a2, a3, a4, a5, a6⟩ := z
    refine ⟨o, es, ep, hg _ _ (fun y => absurd (List.mem_singleton.mp y) (Nat.ne_of_lt (Nat.lt_of_succ_le le1))) a1, a2, a3, a4, fun x hx => hks _ _ _ _ (fun o q => hg _ o (nI (foldH_mem (P := fun b => b < s.heap.objs.size) i (fun j hj => (hp j (by have := hi; simp at this; omega)).2.2) x hx)) q) (a5 x hx), a6⟩
  · obtain ⟨⟨o, c', q1, q2⟩, q3, q4⟩ := hp j (by simpa using hj)
    have up : ∀ b u, s.heap.get? b = some u → (h1.push { cls := .type "list_iterator", data := .fields #[.ref l, .int 0 0] }).get? b = some u := fun b u z => Heap.get?_push_of_some _ (keep1 _ _ (keep0 _ _ z))
    exact ⟨⟨o, c', up _ _ q1, q2⟩, hks _ _ _ _ (fun o q => up _ o q) q3⟩
  · exact ⟨_, #[], 0, Heap.get?_push_of_some _ (keep1 _ _ d0), ⟨rfl, rfl, rfl⟩, rfl, rfl, (fun _ z => nomatch z), List.nodup_nil⟩
  · obtain ⟨h', g', d', tk', os'⟩ := s'
    obtain rfl : g' = s.gens := hm.gens
    obtain rfl : d' = s.drawn := hm.drawn
    obtain rfl : os' = s.os := hm.os
    refine ⟨rfl, h h' tk' (by simpa using hD') fun b o e => hm.heap b o (fun z => ?_) (Heap.get?_push_of_some _ (keep1 _ _ (keep0 _ _ e)))⟩
    rcases List.mem_cons.mp z with z | z
    · exact absurd z (Nat.ne_of_lt (lt_of e))
    · exact nI (lt_of e) z
end
end L2
namespace L2
open PySem PySem.Spec PyProof.Rows
abbrev Prs (H : Hp) (as : List Addr) (kvs : List (List Key × V)) : Prop := Paired (fun a (kv : List Key × V) => ∃ b, H a = some (.tup [.ref b, kv.2]) ∧ H b = some (.tup (kv.1.map kV))) as kvs
def mkD (kvs : List (List Key × V)) : List (List Key × V) := kvs.foldl (fun acc kv => putK acc kv.1 kv.2) []
theorem mkD_snoc {kvs : List (List Key × V)} {p : List Key × V} : mkD (kvs ++ [p]) = putK (mkD kvs) p.1 p.2 := by unfold mkD; rw [List.foldl_append]; rfl
theorem mkD_len {kvs : List (List Key × V)} : (mkD kvs).length ≤ kvs.length := by
  have all : ∀ (l acc : List (List Key × V)), (l.foldl (fun acc kv => putK acc kv.1 kv.2) acc).length ≤ acc.length + l.length := by
    intro l
    induction l with
    | nil => intro acc; exact Nat.le_refl _
    | cons a r ih =>
      intro acc
      have h1 := ih (putK acc a.1 a.2)
      have h2 := length_putK acc a.1 a.2
      rw [List.foldl_cons, List.length_cons]
      omega
  have h := all kvs []
  unfold mkD
  simpa using h
theorem call_dictPairs {X : Cx} (hc : X.calm = true) {k : Nat} (hr : Room k X.A) : CallR X (.type "dict") (fun xs H Q => ∃ (l : Addr) (as : List Addr) (kvs : List (List Key × V)), xs = [.ref l] ∧ H l = some (.lst (as.map V.ref)) ∧ Prs H as kvs ∧ ∀ p, H p = none → Q (.ref p) (upd H p (.dT (mkD kvs)))) := by
  intro pins s σ H xs us Q I r h
  obtain ⟨l, as, kvs, rfl, hl, hp, q⟩ := h
  obtain ⟨u, rfl, ru⟩ := vals1 r
  cases ru
  obtain ⟨hz, its, c, rv, hl'⟩ := I.hok l _ hl
  obtain rfl := vals_refs rv
  have hu := hr.units
  have len : as.length = kvs.length := Paired.length hp
  have ex : ∀ j, ∃ (b : Addr) (u : Value), j < as.length → IPair s.heap (as.getD j 0) b u ∧ H b = some (.tup ((kvs.getD j ([], .non)).1.map kV)) ∧ RelV (kvs.getD j ([], .non)).2 u := fun j => by
    by_cases hj : j < as.length
    · have hj2 : j < kvs.length := by omega
      obtain ⟨a, ha, b, h1, h2⟩ := paired_get hp j hj2
      obtain ⟨_, ii, rr, o, ho, hcl, n, hd⟩ := I.hok a _ h1
      obtain ⟨u1, u2, rfl, r1, r2⟩ := vals2 rr
      cases (show u1 = Value.ref b from r1)
      refine ⟨b, u2, fun _ => ?_⟩
      have e1 : as.getD j 0 = a := by rw [List.getD_eq_getElem?_getD, ha]; rfl
      have e2 : kvs.getD j ([], .non) = kvs[j] := by rw [List.getD_eq_getElem?_getD, List.getElem?_eq_getElem hj2]; rfl
      rw [e1, e2]
      exact ⟨⟨o, n, ho, hcl, hd⟩, h2, r2⟩
    · exact ⟨0, .none, fun z => absurd z hj⟩
  obtain ⟨ka, hka⟩ : ∃ ka : Nat → Addr, ∀ j, ∃ u : Value, j < as.length → IPair s.heap (as.getD j 0) (ka j) u ∧ H (ka j) = some (.tup ((kvs.getD j ([], .non)).1.map kV)) ∧ RelV (kvs.getD j ([], .non)).2 u := ⟨fun j => Classical.choose (ex j), fun j => Classical.choose_spec (ex j)⟩
  obtain ⟨vv, hvv⟩ : ∃ vv : Nat → Value, ∀ j, j < as.length → IPair s.heap (as.getD j 0) (ka j) (vv j) ∧ H (ka j) = some (.tup ((kvs.getD j ([], .non)).1.map kV)) ∧ RelV (kvs.getD j ([], .non)).2 (vv j) := ⟨fun j => Classical.choose (hka j), fun j => Classical.choose_spec (hka j)⟩
  have kt : ∀ i, i ≤ as.length → KT H (mkD (kvs.take i)) (foldH (fun j => (kvs.getD j ([], .non)).1) ka vv i) := by
    intro i
    induction i with
    | zero => intro _; exact .nil
    | succ i ih =>
      intro hi
      obtain ⟨_, h2, h3⟩ := hvv i hi
      have hi2 : i < kvs.length := by omega
      have e2 : kvs[i]? = some (kvs.getD i ([], .non)) := by rw [List.getD_eq_getElem?_getD, List.getElem?_eq_getElem hi2]; rfl
      have et : kvs.take (i + 1) = kvs.take i ++ [kvs.getD i ([], .non)] := by rw [List.take_succ, e2]; rfl
      rw [et, mkD_snoc]
      exact KT.put (ih (by omega)) _ h2 h3
  refine call_dict_pairs (I.ok.hd hc) hl' (tupleKind (mixKind X.prog X.w)) (show X.A.units + 1 + 1 < cLine by omega) ka (fun j => (kvs.getD j ([], .non)).1) vv (fun j hj => ?_) (fun g g' k b hg z => ?_) (by simpa using hz) fun h' tk hd hk => ?_
  · obtain ⟨h1, h2, _⟩ := hvv j hj
    exact ⟨h1, key_of I.hok h2, I.hok.lt h2⟩
  · obtain ⟨o, items, n, z1, z2⟩ := z
    exact ⟨o, items, n, hg o z1, z2⟩
  · have kn := kt as.length (Nat.le_refl _)
    rw [len, List.take_length] at kn
    rw [len] at hd
    obtain ⟨o, es, ep, h1, h2, h3, h4, h5, h6⟩ := hd
    have fr : H s.heap.objs.size = none := I.hok.fresh (Nat.le_refl _)
    refine ⟨.ref s.heap.objs.size, _, I.laid (a := s.heap.objs.size) (o := .dT (mkD kvs)) (t' := tk) hk (Nat.le_refl _) ⟨Nat.le_trans mkD_len (by rw [← len]; simpa using hz), beq_eq_false_iff_ne.mpr (Ne.symm (Nat.ne_of_lt I.big)), _, kn.keeps fun b ys z => ?_, o, es, ep, h1, h2, h3, h4, h6⟩, rfl, q _ fr⟩
    rw [upd_ne (ne_of_none z fr)]; exact z
end L2
namespace L2
open PySem PySem.Spec PyProof.Rows
structure Nx (prog : Program) (w : World) (A : Around) (it src : Addr) (vals : Array Value) (St : Nat → Heap → Prop) : Prop where
  obj : ∀ i h, St i h → ∃ o vs, h.get? it = some o ∧ o.data = .fields vs ∧ o.cls ≠ .type "zip" ∧ ∃ o', h.get? src = some o'
  keep : ∀ i h h', St i h → (∀ o, h.get? it = some o → h'.get? it = some o) → (∀ o, h.get? src = some o → h'.get? src = some o) → St i h'
  item : ∀ (i : Nat) (s : Shared) (Q : Value → Shared → Prop) (E : Value → Shared → Prop) (x : Value), St i s.heap → vals[i]? = some x → (∀ h', St (i + 1) h' → Heap.SameBut it s.heap h' → Q x { s with heap := h' }) → wpAny (model prog w) A (Builtin.SmallTypes.nextOf (.ref it)) Q E s
  done : ∀ (i : Nat) (s : Shared) (Q : Value → Shared → Prop) (E : Value → Shared → Prop), A.handled = none → St i s.heap → vals[i]? = none →
    (∀ h' e, Heap.ExtBut it s.heap h' → (∃ o, h'.get? e = some o ∧ o.cls = .type "StopIteration") → E (.ref e) { s with heap := h' }) → wpAny (model prog w) A (Builtin.SmallTypes.nextOf (.ref it)) Q E s
section
variable {prog : Program} {w : World} {A : Around} {E : Value → Shared → Prop} {s : Shared}
theorem Nx.list {it l : Addr} {items : Array Value} (hne : l ≠ it) : Nx prog w A it l items (fun i h => h.IsListIter it l i ∧ h.IsList l items) where
  obj := fun i h ⟨⟨o, h1, h2, h3⟩, ⟨o', h4, _⟩⟩ => ⟨o, _, h1, h3, by rw [h2]; decide, o', h4⟩
  keep := fun i h h' ⟨x, y⟩ k1 k2 => ⟨x.at k1, y.at k2⟩
  item := fun i s Q E x ⟨h1, h2⟩ hx hQ => wpAny_nextOf_list_item h1 h2 hx fun h' a b => hQ h' ⟨a, h2.at fun o e => b.extBut _ _ hne e⟩ b
  done := fun i s Q E hh ⟨h1, h2⟩ hx hE => wpAny_nextOf_list_end hh h1 h2 hx hE
theorem nx_tup_item {it t : Addr} {i : Nat} {items : Array Value} {x : Value} {Q : Value → Shared → Prop} (hit : IsTupIter s.heap it t i) (ht : IsTup s.heap t items) (hx : items[i]? = some x)
    (hQ : ∀ h', IsTupIter h' it t (i + 1) → Heap.SameBut it s.heap h' → Q x { s with heap := h' }) : wpAny (model prog w) A (Builtin.SmallTypes.nextOf (.ref it)) Q E s := by
  obtain ⟨o, ho, hc, hd⟩ := id hit
  obtain ⟨ol, hol, _, nl, hdl⟩ := ht
  unfold Builtin.SmallTypes.nextOf
  refine wpAny_bind (wpAny_callSpecial?_slot (name := Str.ofString "__next__") hit.typeIs slot_tupleiter_next (wpAny_call_entry slot_tupleiter_next hit.typeIs entry_tupleiter_next ?_ (args_tupleiter_next _)))
  show wpAny _ _ (field (.ref it) 0 >>= _) _ _ s
  refine wpAny_bind (wpAny_field ho hd (x := .ref t) rfl ?_)
  show wpAny _ _ (if (Value.ref t == Value.none) = true then _ else _) _ _ s
  rw [if_neg (show ¬ ((Value.ref t == Value.none) = true) from Bool.false_ne_true)]
  show wpAny _ _ (field (.ref it) 1 >>= _) _ _ s
  refine wpAny_bind (wpAny_field ho hd (x := .int i 0) rfl ?_)
  show wpAny _ _ (seqItems? (.ref t) >>= _) _ _ s
  refine wpAny_bind (wpAny_seqItems hol hdl ?_)
  simp only [Int.toNat_natCast, hx]
  refine wpAny_bind (wpAny_setField ho hd (by simp) (wpAny_pure ⟨x, rfl, wpAny_pure (hQ _ ?_ (Heap.SameBut.update ..))⟩))
  exact ⟨_, Heap.get?_update_self _ ho (Obj.isFreed_of_fields (Obj.data_mapFields hd _)), (Obj.cls_mapFields ..).trans hc, by rw [Obj.data_mapFields hd]; simp [rawInt]⟩
theorem nx_tup_end {it t : Addr} {i : Nat} {items : Array Value} {Q : Value → Shared → Prop} (hh : A.handled = none) (hit : IsTupIter s.heap it t i) (ht : IsTup s.heap t items) (hx : items[i]? = none)
    (hE : ∀ h' e, Heap.ExtBut it s.heap h' → (∃ o, h'.get? e = some o ∧ o.cls = .type "StopIteration") → E (.ref e) { s with heap := h' }) : wpAny (model prog w) A (Builtin.SmallTypes.nextOf (.ref it)) Q E s := by
  obtain ⟨o, ho, hc, hd⟩ := id hit
  obtain ⟨ol, hol, _, nl, hdl⟩ := ht
  unfold Builtin.SmallTypes.nextOf
  refine wpAny_bind (wpAny_callSpecial?_slot (name := Str.ofString "__next__") hit.typeIs slot_tupleiter_next (wpAny_call_entry slot_tupleiter_next hit.typeIs entry_tupleiter_next ?_ (args_tupleiter_next _)))
  show wpAny _ _ (field (.ref it) 0 >>= _) _ _ s
  refine wpAny_bind (wpAny_field ho hd (x := .ref t) rfl ?_)
  show wpAny _ _ (if (Value.ref t == Value.none) = true then _ else _) _ _ s
  rw [if_neg (show ¬ ((Value.ref t == Value.none) = true) from Bool.false_ne_true)]
  show wpAny _ _ (field (.ref it) 1 >>= _) _ _ s
  refine wpAny_bind (wpAny_field ho hd (x := .int i 0) rfl ?_)
  show wpAny _ _ (seqItems? (.ref t) >>= _) _ _ s
  refine wpAny_bind (wpAny_seqItems hol hdl ?_)
  simp only [Int.toNat_natCast, hx]
  refine wpAny_bind (wpAny_rule (wpAny_bind (wpAny_setField ho hd (by simp) ?_)))
  show wpAny _ _ (newExc (.type "StopIteration") [] >>= _) _ _ _
  refine wpAny_bind ?_
  simp only [newExc, newTuple]
  refine wpAny_bind (wpAny_newObj_type ?_ (by size_fits))
  refine wpAny_bind (m := firstArgMember _ _) (wpAny_of_eq (a := Value.none) (by first | rfl | (simp only [firstArgMember]; rfl)) (wpAny_newObj_type ?_ (by size_fits)))
  simp only [raiseNew]
  refine wpAny_bind (wpAny_handled ?_)
  first | rw [show A.in1.handled = none from hh] | rw [hh]
  refine wpAny_bind (wpAny_pure (wpAny_throw ?_))
  exact hE _ _ (((Heap.SameBut.update ..).extBut.push _).push _) ⟨_, Heap.get?_push_size _ rfl, rfl⟩
theorem Nx.tup {it t : Addr} {items : Array Value} (hne : t ≠ it) : Nx prog w A it t items (fun i h => IsTupIter h it t i ∧ IsTup h t items) where
  obj := fun i h ⟨⟨o, h1, h2, h3⟩, ⟨o', h4, _⟩⟩ => ⟨o, _, h1, h3, by rw [h2]; decide, o', h4⟩
  keep := fun i h h' ⟨⟨o, h1, h2⟩, ⟨o', h4, h5⟩⟩ k1 k2 => ⟨⟨o, k1 _ h1, h2⟩, ⟨o', k2 _ h4, h5⟩⟩
  item := fun i s Q E x ⟨h1, h2⟩ hx hQ => nx_tup_item h1 h2 hx fun h' a b => hQ h' ⟨a, h2.extBut b.extBut hne⟩ b
  done := fun i s Q E hh ⟨h1, h2⟩ hx hE => nx_tup_end hh h1 h2 hx hE
structure ZA (z TI TO i1 i2 s1 s2 : Addr) : Prop where
  TIz : TI ≠ z
  TOz : TO ≠ z
  i1z : i1 ≠ z
  i2z : i2 ≠ z
  TITO : TI ≠ TO
  TIi1 : TI ≠ i1
  TIi2 : TI ≠ i2
  TOi1 : TO ≠ i1
  TOi2 : TO ≠ i2
  i12 : i1 ≠ i2
  s1z : s1 ≠ z
  s1TO : s1 ≠ TO
  s1i2 : s1 ≠ i2
  s2z : s2 ≠ z
  s2TO : s2 ≠ TO
  s2i1 : s2 ≠ i1
theorem zn_item {z TI TO i1 i2 s1 s2 : Addr} {xs ys : Array Value} {S1 S2 : Nat → Heap → Prop} {i : Nat} {x y a b : Value} {Q : Value → Shared → Prop} (D : ZA z TI TO i1 i2 s1 s2) (N1 : Nx prog w A i1 s1 xs S1) (N2 : Nx prog w A i2 s2 ys S2)
    (hz : IsZip s.heap z TI TO .none) (hTI : IsPair s.heap TI (.ref i1) (.ref i2)) (hTO : IsPair s.heap TO a b) (h1 : S1 i s.heap) (h2 : S2 i s.heap) (hx : xs[i]? = some x) (hy : ys[i]? = some y)
    (hQ : ∀ h', IsZip h' z TI TO (rawInt s.heap.objs.size) → IsPair h' TO x y → S1 (i + 1) h' → S2 (i + 1) h' → IsPair h' s.heap.objs.size x y → h'.objs.size = s.heap.objs.size + 1 →
      (∀ c o, c ≠ z → c ≠ TO → c ≠ i1 → c ≠ i2 → s.heap.get? c = some o → h'.get? c = some o) → Q (.ref s.heap.objs.size) { s with heap := h' }) :
    wpAny (model prog w) A (Builtin.«zip.__next__» ⟨[.ref z], []⟩) (fun fin s' => ∃ v, fin = .done (.ret v) ∧ Q v s') E s := by
  show wpAny _ _ (field (.ref z) 2 >>= _) _ _ _
  refine wpAny_bind (wpAny_field hz rfl (x := .bool false) rfl ?_)
  show wpAny _ _ (field (.ref z) 3 >>= _) _ _ _
  refine wpAny_bind (wpAny_field hz rfl (x := .ref TI) rfl (wpAny_bind (wpAny_seqItems hTI rfl ?_)))
  show wpAny _ _ (Builtin.SmallTypes.ownedTupleIsFree (.ref z) >>= _) _ _ _
  refine wpAny_bind ?_
  unfold Builtin.SmallTypes.ownedTupleIsFree
  refine wpAny_bind (wpAny_field hz rfl (x := .none) rfl (wpAny_pure ?_))
  simp only [if_true]
  refine wpAny_bind (wpAny_rule (wpAny_bind (wpAny_field hz rfl (x := .ref TO) rfl (wpAny_bind (wpAny_setField_rec hz (by simp) fun g1 z1 k1 => ?_)))))
  replace z1 : IsZip g1 z TI TO .ellipsis := z1
  refine wpAny_bind ?_
  simp only [List.zipIdx_cons, List.zipIdx_nil, List.forIn_cons, List.forIn_nil]
  refine wpAny_bind (wpAny_bind (wpAny_onRaise ?_))
  show wpAny _ _ (Builtin.SmallTypes.nextOf (.ref i1) >>= _) _ _ _
  refine wpAny_bind (N1.item i { s with heap := g1 } _ _ x (N1.keep _ _ _ h1 (fun o e => k1.extBut _ _ D.i1z e) (fun o e => k1.extBut _ _ D.s1z e)) hx fun g2 a1 k2 => wpAny_pure ?_)
  have t2 : IsPair g2 TO a b := k2.extBut _ _ D.TOi1 (k1.extBut _ _ D.TOz hTO)
  refine wpAny_bind (wpAny_seqItems t2 rfl (wpAny_bind (wpAny_updateSeq_pair t2 fun g3 t3 k3 => ?_)))
  replace t3 : IsPair g3 TO x b := t3
  refine wpAny_bind (wpAny_letGo (wpAny_pure ?_))
  refine wpAny_bind (wpAny_bind (wpAny_onRaise ?_))
  show wpAny _ _ (Builtin.SmallTypes.nextOf (.ref i2) >>= _) _ _ _
  refine wpAny_bind (N2.item i { s with heap := g3 } _ _ y (N2.keep _ _ _ h2 (fun o e => k3.extBut _ _ D.TOi2.symm (k2.extBut _ _ D.i12.symm (k1.extBut _ _ D.i2z e))) (fun o e => k3.extBut _ _ D.s2TO (k2.extBut _ _ D.s2i1 (k1.extBut _ _ D.s2z e)))) hy fun g4 a2 k4 => wpAny_pure ?_)
  have t4 : IsPair g4 TO x b := k4.extBut _ _ D.TOi2 t3
  refine wpAny_bind (wpAny_seqItems t4 rfl (wpAny_bind (wpAny_updateSeq_pair t4 fun g5 t5 k5 => ?_)))
  replace t5 : IsPair g5 TO x y := t5
  refine wpAny_bind (wpAny_letGo (wpAny_pure (wpAny_pure ?_)))
  refine wpAny_bind (wpAny_seqItems t5 rfl (wpAny_bind (wpAny_newTuple ?_)))
  have hsz : g5.objs.size = s.heap.objs.size := by rw [k5.1, k4.1, k3.1, k2.1, k1.1]
  have z5 : IsZip g5 z TI TO .ellipsis := k5.extBut _ _ D.TOz.symm (k4.extBut _ _ D.i2z.symm (k3.extBut _ _ D.TOz.symm (k2.extBut _ _ D.i1z.symm z1)))
  have all5 : ∀ c o, c ≠ z → c ≠ TO → c ≠ i1 → c ≠ i2 → s.heap.get? c = some o → g5.get? c = some o := fun c o c1 c2 c3 c4 e => k5.extBut _ _ c2 (k4.extBut _ _ c4 (k3.extBut _ _ c2 (k2.extBut _ _ c3 (k1.extBut _ _ c1 e))))
  have hz5 : z < g5.objs.size := Heap.lt_size z5
  show wpAny _ _ (Builtin.SmallTypes.ownedTupleHandOut (.ref z) (.ref g5.objs.size) >>= _) _ _ _
  refine wpAny_bind ?_
  unfold Builtin.SmallTypes.ownedTupleHandOut
  have z6 : IsZip (g5.push { cls := .type "tuple", data := .seq #[x, y] }) z TI TO .ellipsis := Heap.get?_push_of_some _ z5
  refine wpAny_bind (wpAny_setField_rec z6 (by simp) fun g7 z7 k7 => ?_)
  replace z7 : IsZip g7 z TI TO (rawInt g5.objs.size) := z7
  refine wpAny_setField_rec z7 (by simp) fun g8 z8 k8 => ?_
  replace z8 : IsZip g8 z TI TO (rawInt g5.objs.size) := z8
  have up : ∀ c o, c ≠ z → g5.get? c = some o → g8.get? c = some o := fun c o c1 e => k8.extBut _ _ c1 (k7.extBut _ _ c1 (Heap.get?_push_of_some _ e))
  have hT8 : IsPair g8 g5.objs.size x y := k8.extBut _ _ (Nat.ne_of_gt hz5) (k7.extBut _ _ (Nat.ne_of_gt hz5) (Heap.get?_push_size _ rfl))
  have sz8 : g8.objs.size = g5.objs.size + 1 := by rw [k8.1, k7.1, Heap.size_push]
  rw [hsz] at z8 hT8 sz8
  refine wpAny_pure ⟨_, rfl, ?_⟩
  show Q (.ref g5.objs.size) _
  rw [hsz]
  exact hQ g8 z8 (up _ _ D.TOz t5)
    (N1.keep _ _ _ a1 (fun o e => up _ o D.i1z (k5.extBut _ _ D.TOi1.symm (k4.extBut _ _ D.i12 (k3.extBut _ _ D.TOi1.symm e)))) (fun o e => up _ o D.s1z (k5.extBut _ _ D.s1TO (k4.extBut _ _ D.s1i2 (k3.extBut _ _ D.s1TO e)))))
    (N2.keep _ _ _ a2 (fun o e => up _ o D.i2z (k5.extBut _ _ D.TOi2.symm e)) (fun o e => up _ o D.s2z (k5.extBut _ _ D.s2TO e))) hT8 sz8 fun c o c1 c2 c3 c4 e => up c o c1 (all5 c o c1 c2 c3 c4 e)
theorem zn_end {z TI TO i1 i2 s1 s2 : Addr} {xs ys : Array Value} {S1 S2 : Nat → Heap → Prop} {i : Nat} {a b : Value} {Q : Fin → Shared → Prop} (hh : A.handled = none) (D : ZA z TI TO i1 i2 s1 s2) (N1 : Nx prog w A i1 s1 xs S1) (N2 : Nx prog w A i2 s2 ys S2)
    (hz : IsZip s.heap z TI TO .none) (hTI : IsPair s.heap TI (.ref i1) (.ref i2)) (hTO : IsPair s.heap TO a b) (h1 : S1 i s.heap) (h2 : S2 i s.heap) (hend : xs[i]? = none ∨ ys[i]? = none)
    (hE : ∀ h' e, (∀ c o, c ≠ z → c ≠ TO → c ≠ i1 → c ≠ i2 → s.heap.get? c = some o → h'.get? c = some o) → (∃ o, h'.get? e = some o ∧ o.cls = .type "StopIteration") → E (.ref e) { s with heap := h' }) :
    wpAny (model prog w) A (Builtin.«zip.__next__» ⟨[.ref z], []⟩) Q E s := by
  show wpAny _ _ (field (.ref z) 2 >>= _) _ _ _
  refine wpAny_bind (wpAny_field hz rfl (x := .bool false) rfl ?_)
  show wpAny _ _ (field (.ref z) 3 >>= _) _ _ _
  refine wpAny_bind (wpAny_field hz rfl (x := .ref TI) rfl (wpAny_bind (wpAny_seqItems hTI rfl ?_)))
  show wpAny _ _ (Builtin.SmallTypes.ownedTupleIsFree (.ref z) >>= _) _ _ _
  refine wpAny_bind ?_
  unfold Builtin.SmallTypes.ownedTupleIsFree
  refine wpAny_bind (wpAny_field hz rfl (x := .none) rfl (wpAny_pure ?_))
  simp only [if_true]
  refine wpAny_bind (wpAny_rule (wpAny_bind (wpAny_field hz rfl (x := .ref TO) rfl (wpAny_bind (wpAny_setField_rec hz (by simp) fun g1 z1 k1 => ?_)))))
  replace z1 : IsZip g1 z TI TO .ellipsis := z1
  refine wpAny_bind ?_
  simp only [List.zipIdx_cons, List.zipIdx_nil, List.forIn_cons, List.forIn_nil]
  refine wpAny_bind (wpAny_bind (wpAny_onRaise ?_))
  show wpAny _ _ (Builtin.SmallTypes.nextOf (.ref i1) >>= _) _ _ _
  have st1 := N1.keep _ _ g1 h1 (fun o e => k1.extBut _ _ D.i1z e) (fun o e => k1.extBut _ _ D.s1z e)
  cases hx : xs[i]? with
  | none =>
    refine wpAny_bind (N1.done i { s with heap := g1 } _ _ hh st1 hx fun g2 e k2 he => ?_)
    obtain ⟨oe, hoe, hce⟩ := he
    have z2 : IsZip g2 z TI TO .ellipsis := k2 _ _ D.i1z.symm z1
    have hez : e ≠ z := fun x => by subst x; rw [z2] at hoe; cases hoe; simp at hce
    exact wpAny_setField_rec z2 (by simp) fun g3 _ k3 => hE g3 e (fun c o c1 _ c3 _ x => k3.extBut _ _ c1 (k2 _ _ c3 (k1.extBut _ _ c1 x))) ⟨oe, k3.extBut _ _ hez hoe, hce⟩
  | some x =>
    have hy : ys[i]? = none := by rcases hend with h | h; rw [hx] at h; cases h; exact h
    refine wpAny_bind (N1.item i { s with heap := g1 } _ _ x st1 hx fun g2 a1 k2 => wpAny_pure ?_)
    have t2 : IsPair g2 TO a b := k2.extBut _ _ D.TOi1 (k1.extBut _ _ D.TOz hTO)
    refine wpAny_bind (wpAny_seqItems t2 rfl (wpAny_bind (wpAny_updateSeq_pair t2 fun g3 t3 k3 => ?_)))
    refine wpAny_bind (wpAny_letGo (wpAny_pure ?_))
    refine wpAny_bind (wpAny_bind (wpAny_onRaise ?_))
    show wpAny _ _ (Builtin.SmallTypes.nextOf (.ref i2) >>= _) _ _ _
    refine wpAny_bind (N2.done i { s with heap := g3 } _ _ hh (N2.keep _ _ _ h2 (fun o e => k3.extBut _ _ D.TOi2.symm (k2.extBut _ _ D.i12.symm (k1.extBut _ _ D.i2z e))) (fun o e => k3.extBut _ _ D.s2TO (k2.extBut _ _ D.s2i1 (k1.extBut _ _ D.s2z e)))) hy fun g4 e k4 he => ?_)
    obtain ⟨oe, hoe, hce⟩ := he
    have z4 : IsZip g4 z TI TO .ellipsis := k4 _ _ D.i2z.symm (k3.extBut _ _ D.TOz.symm (k2.extBut _ _ D.i1z.symm z1))
    have hez : e ≠ z := fun x => by subst x; rw [z4] at hoe; cases hoe; simp at hce
    exact wpAny_setField_rec z4 (by simp) fun g5 _ k5 => hE g5 e (fun c o c1 c2 c3 c4 x => k5.extBut _ _ c1 (k4 _ _ c4 (k3.extBut _ _ c2 (k2.extBut _ _ c3 (k1.extBut _ _ c1 x))))) ⟨oe, k5.extBut _ _ hez hoe, hce⟩
end
end L2
namespace L2
open PySem PySem.Spec PyProof.Rows
theorem sqT_ne {X : Cx} {pins : List (Addr × Obj)} {σ : St} {H : Hp} {s : Shared} {t b : Addr} {xs : List V} (I : Inv X pins σ H s) (h : SqT X.K H t xs) (f : FpOk X pins H b) : t ≠ b := fun z => by
  subst z
  obtain ⟨f0, f1, f2, f3, f4, f5⟩ := f
  rcases h with (h | ⟨_, h⟩) | ⟨o, its, n, hk, _⟩
  · rw [f0] at h; cases h
  · rw [f0] at h; cases h
  · have hb := I.ok.mod.kin _ _ hk
    rcases f3 with f3 | f3
    · exact I.ok.noex _ _ hb f3
    · exact absurd (Nat.lt_of_lt_of_le (Heap.lt_size (I.ok.bs _ _ hb).1) f3) (Nat.lt_irrefl _)
def ItzT (K : PySem.W.Frag) (t1 t2 : Addr) : It :=
  ⟨fun i H => ∃ xs ys x y, SqT K H t1 xs ∧ SqT K H t2 ys ∧ xs[i]? = some x ∧ ys[i]? = some y,
    fun i H x H' => ∃ p y1 y2, H p = none ∧ x = .ref p ∧ H' = upd H p (.tup [y1, y2]) ∧ (∀ xs, SqT K H t1 xs → xs[i]? = some y1) ∧ ∀ ys, SqT K H t2 ys → ys[i]? = some y2,
    fun i H => ∃ xs ys, SqT K H t1 xs ∧ SqT K H t2 ys ∧ (xs.length ≤ i ∨ ys.length ≤ i)⟩
def ZstT (z TI TO i1 i2 t1 t2 : Addr) (i : Nat) (h : Heap) : Prop := IsZip h z TI TO .none ∧ IsPair h TI (.ref i1) (.ref i2) ∧ (∃ a b, IsPair h TO a b) ∧ IsTupIter h i1 t1 i ∧ IsTupIter h i2 t2 i
theorem turn_zipT {P : Program} {w : World} {K : PySem.W.Frag} {elts : List Expr} {x1 : Nat} {pos : Pos} (z TI TO i1 i2 t1 t2 : Addr) (D0 : TI ≠ z ∧ TO ≠ z ∧ i1 ≠ z ∧ i2 ≠ z ∧ TI ≠ TO ∧ TI ≠ i1 ∧ TI ≠ i2 ∧ TO ≠ i1 ∧ TO ≠ i2 ∧ i1 ≠ i2) :
    Turn P w K (.Tuple elts x1 pos) (ItzT K t1 t2) [z, TI, TO, i1, i2] z (ZstT z TI TO i1 i2 t1 t2) where
  mem := by simp
  obj := fun i h st b hb => by
    obtain ⟨h1, h2, ⟨a, c, h3⟩, ⟨o4, h4, _, d4⟩, ⟨o5, h5, _, d5⟩⟩ := st
    simp only [List.mem_cons, List.not_mem_nil, or_false] at hb
    rcases hb with rfl | rfl | rfl | rfl | rfl
    · exact ⟨_, h1, fun v e => by have e' : Data.fields _ = Data.cell v := e; cases e'⟩
    · exact ⟨_, h2, fun v e => by have e' : Data.seq _ _ = Data.cell v := e; cases e'⟩
    · exact ⟨_, h3, fun v e => by have e' : Data.seq _ _ = Data.cell v := e; cases e'⟩
    · exact ⟨_, h4, fun v e => by rw [d4] at e; cases e⟩
    · exact ⟨_, h5, fun v e => by rw [d5] at e; cases e⟩
  keep := fun i h h' ⟨h1, h2, ⟨a, c, h3⟩, ⟨o4, h4, c4, d4⟩, ⟨o5, h5, c5, d5⟩⟩ k => ⟨k z (by simp) _ h1, k TI (by simp) _ h2, ⟨a, c, k TO (by simp) _ h3⟩, ⟨o4, k i1 (by simp) _ h4, c4, d4⟩, ⟨o5, k i2 (by simp) _ h5, c5, d5⟩⟩
  item := by
    intro X hP hw hK hc i pins s σ H E I hf st hg
    subst hP hw hK
    obtain ⟨xs, ys, x, y, hq1, hq2, hx, hy⟩ := hg
    obtain ⟨hz, hTI, ⟨a, b, hTO⟩, hi1, hi2⟩ := st
    obtain ⟨its1, r1, p1, _⟩ := I.tuple hq1
    obtain ⟨its2, r2, p2, _⟩ := I.tuple hq2
    obtain ⟨u1, hu1, ru1⟩ := r1.get hx
    obtain ⟨u2, hu2, ru2⟩ := r2.get hy
    obtain ⟨d1, d2, d3, d4, d5, d6, d7, d8, d9, d10⟩ := D0
    have ne1 : ∀ b ∈ [z, TI, TO, i1, i2], t1 ≠ b := fun b hb => sqT_ne I hq1 (hf b hb)
    have ne2 : ∀ b ∈ [z, TI, TO, i1, i2], t2 ≠ b := fun b hb => sqT_ne I hq2 (hf b hb)
    have D : ZA z TI TO i1 i2 t1 t2 := ⟨d1, d2, d3, d4, d5, d6, d7, d8, d9, d10, ne1 _ (by simp), ne1 _ (by simp), ne1 _ (by simp), ne2 _ (by simp), ne2 _ (by simp), ne2 _ (by simp)⟩
    have hT : s.TypeIs (.ref z) "zip" := ⟨_, hz, rfl⟩
    have nT : s.heap.get? s.heap.objs.size = none := Heap.get?_none_of_le (Nat.le_refl _)
    have lts : ∀ b ∈ [z, TI, TO, i1, i2], b < s.heap.objs.size := fun b hb => by
      obtain ⟨_, e4, _⟩ := hi1
      obtain ⟨_, e5, _⟩ := hi2
      simp only [List.mem_cons, List.not_mem_nil, or_false] at hb
      rcases hb with rfl | rfl | rfl | rfl | rfl
      · exact Heap.lt_size hz
      · exact Heap.lt_size hTI
      · exact Heap.lt_size hTO
      · exact Heap.lt_size e4
      · exact Heap.lt_size e5
    unfold pyNext
    refine wpAny_bind (wpAny_attempt (wpAny_callSpecial?_slot (name := Str.ofString "__next__") hT F.slot_zip_next (wpAny_call_entry F.slot_zip_next hT F.entry_zip_next
      (zn_item D (Nx.tup (items := its1.toArray) (ne1 _ (by simp))) (Nx.tup (items := its2.toArray) (ne2 _ (by simp))) hz hTI hTO ⟨hi1, p1⟩ ⟨hi2, p2⟩ (by simpa using hu1) (by simpa using hu2) fun h' a1 a2 a3 a4 a5 a6 hk => wpAny_pure ⟨_, rfl, ?_⟩) (F.args_zip_next_1 _))))
    refine wpAny_letOwnedTupleGo_zip (s := { s with heap := h' }) a1 fun h2 hz2 sb => ?_
    replace sb : Heap.SameBut z h' h2 := sb
    have zlt : z < s.heap.objs.size := lts z (by simp)
    have hT2 : h2.get? s.heap.objs.size = some { cls := .type "tuple", data := .seq #[u1, u2] } := (sb.2 _ (Nat.ne_of_gt zlt)).trans a5
    refine ⟨.ref s.heap.objs.size, upd H s.heap.objs.size (.tup [x, y]), Inv.turnedLaid (s := s) (h' := h2) (fp := [z, TI, TO, i1, i2]) (t' := s.toks) I hf (fun b v hb q => ?_) nT ?_, rfl, ⟨_, x, y, I.hok.none_of nT, rfl, rfl, fun l hl => by rw [I.tuple_inj hl hq1]; exact hx, fun l hl => by rw [I.tuple_inj hl hq2]; exact hy⟩,
      ⟨hz2, ?_, ⟨_, _, (sb.2 _ d2).trans a2⟩, ?_, ?_⟩, fun b hb => ?_⟩
    · have hbs : b ≠ z ∧ b ≠ TO ∧ b ≠ i1 ∧ b ≠ i2 := ⟨fun e => hb (by simp [e]), fun e => hb (by simp [e]), fun e => hb (by simp [e]), fun e => hb (by simp [e])⟩
      exact (sb.2 b hbs.1).trans (hk b v hbs.1 hbs.2.1 hbs.2.2.1 hbs.2.2.2 q)
    · exact ⟨by show 2 ≤ sizeLine; decide, _, .cons ru1 (.cons ru2 .nil), _, hT2, rfl, _, rfl⟩
    · exact (sb.2 _ d1).trans (hk _ _ d1 d5 d6 d7 hTI)
    · obtain ⟨o, e, r⟩ := a3.1
      exact ⟨o, (sb.2 _ d3).trans e, r⟩
    · obtain ⟨o, e, r⟩ := a4.1
      exact ⟨o, (sb.2 _ d4).trans e, r⟩
    · rw [upd_ne (Nat.ne_of_lt (lts b hb))]; exact (hf b hb).1
  done := by
    intro X hP hw hK hc i pins s σ H E I hf st hg
    subst hP hw hK
    obtain ⟨xs, ys, hq1, hq2, hend⟩ := hg
    obtain ⟨hz, hTI, ⟨a, b, hTO⟩, hi1, hi2⟩ := st
    obtain ⟨its1, r1, p1, _⟩ := I.tuple hq1
    obtain ⟨its2, r2, p2, _⟩ := I.tuple hq2
    have e1 := r1.length
    have e2 := r2.length
    obtain ⟨d1, d2, d3, d4, d5, d6, d7, d8, d9, d10⟩ := D0
    have ne1 : ∀ b ∈ [z, TI, TO, i1, i2], t1 ≠ b := fun b hb => sqT_ne I hq1 (hf b hb)
    have ne2 : ∀ b ∈ [z, TI, TO, i1, i2], t2 ≠ b := fun b hb => sqT_ne I hq2 (hf b hb)
    have D : ZA z TI TO i1 i2 t1 t2 := ⟨d1, d2, d3, d4, d5, d6, d7, d8, d9, d10, ne1 _ (by simp), ne1 _ (by simp), ne1 _ (by simp), ne2 _ (by simp), ne2 _ (by simp), ne2 _ (by simp)⟩
    have hT : s.TypeIs (.ref z) "zip" := ⟨_, hz, rfl⟩
    unfold pyNext
    refine wpAny_bind (wpAny_attempt (wpAny_callSpecial?_slot (name := Str.ofString "__next__") hT F.slot_zip_next (wpAny_call_entry F.slot_zip_next hT F.entry_zip_next
      (zn_end (show X.A.in1.handled = none from I.ok.hd hc) D (Nx.tup (items := its1.toArray) (ne1 _ (by simp))) (Nx.tup (items := its2.toArray) (ne2 _ (by simp))) hz hTI hTO ⟨hi1, p1⟩ ⟨hi2, p2⟩ ?_ fun h' e hk he => ?_) (F.args_zip_next_1 _))))
    · rcases hend with h | h
      · exact .inl (Array.getElem?_eq_none (by simp; omega))
      · exact .inr (Array.getElem?_eq_none (by simp; omega))
    · obtain ⟨o, ho, hoc⟩ := he
      refine wpAny_bind (wpAny_isInstance (T := "StopIteration") (b := true) ⟨o, ho, hoc⟩ isSubtype_stop ?_)
      refine wpAny_pure ⟨rfl, ?_⟩
      refine I.step (g' := s.gens) (d' := s.drawn) (t' := s.toks) (h' := h') (ch := [z, TI, TO, i1, i2]) (fun b hb => ⟨(hf b hb).2.2.2.1, (hf b hb).2.1, (hf b hb).2.2.2.2.1, (hf b hb).2.2.2.2.2⟩) (fun b u _ _ hc' q _ => ?_) (fun b u _ _ hc' q _ => ⟨u.slots, ?_⟩) (fun b u _ _ n => n) (fun b u hc' q => ⟨u, ?_⟩) (fun b xs q => q) (fun b u xs q => q) (fun b ps q => ⟨#[], by rw [q]; simp⟩) (fun m hm => ?_) (fun b u q => ?_) I.bare
      · exact hk b u (fun e => hc' (by simp [e])) (fun e => hc' (by simp [e])) (fun e => hc' (by simp [e])) (fun e => hc' (by simp [e])) q
      · exact hk b u (fun e => hc' (by simp [e])) (fun e => hc' (by simp [e])) (fun e => hc' (by simp [e])) (fun e => hc' (by simp [e])) q
      · exact hk b u (fun e => hc' (by simp [e])) (fun e => hc' (by simp [e])) (fun e => hc' (by simp [e])) (fun e => hc' (by simp [e])) q
      · obtain ⟨o', es, ep, ho', r⟩ := hm
        have nl : ∀ b ∈ [z, TI, TO, i1, i2], X.env.locals ≠ b := fun b hb => Ne.symm (hf b hb).2.1
        exact ⟨o', es, ep, hk _ o' (nl _ (by simp)) (nl _ (by simp)) (nl _ (by simp)) (nl _ (by simp)) ho', r⟩
      · have trk : ∀ b ∈ [z, TI, TO, i1, i2], ∀ c u, H c = some u → c ≠ b := fun b hb c u e z => by rw [z, (hf b hb).1] at e; cases e
        refine (I.hok b u q).stay (fun c v hc' e => ?_) (fun _ e => e) fun _ _ e => e
        have hcs : ∃ u', H c = some u' := by
          rcases hc' with rfl | hc'
          · exact ⟨_, q⟩
          · exact ⟨_, hc'⟩
        obtain ⟨u', hu'⟩ := hcs
        exact hk c v (trk _ (by simp) c u' hu') (trk _ (by simp) c u' hu') (trk _ (by simp) c u' hu') (trk _ (by simp) c u' hu') e
  self := fun A i s Q E st h => wpAny_pyIter_zip st.1 h
end L2
namespace L2
open PySem PySem.Spec PyProof.Rows
abbrev zq1T (h : Heap) (l1 : Addr) : Heap := h.push { cls := .type "tuple_iterator", data := .fields #[.ref l1, .int 0 0] }
abbrev zq2T (h : Heap) (l1 l2 : Addr) : Heap := (zq1T h l1).push { cls := .type "tuple_iterator", data := .fields #[.ref l2, .int 0 0] }
abbrev zq3T (h : Heap) (l1 l2 : Addr) : Heap := (zq2T h l1 l2).push { cls := .type "tuple", data := .seq #[.ref h.objs.size, .ref (zq1T h l1).objs.size] }
abbrev zq4T (h : Heap) (l1 l2 : Addr) : Heap := (zq3T h l1 l2).push { cls := .type "tuple", data := .seq #[.none, .none] }
abbrev zq5T (h : Heap) (l1 l2 : Addr) : Heap := (zq4T h l1 l2).push { cls := .type "zip", data := .fields #[.none, .bool false, .bool false, .ref (zq2T h l1 l2).objs.size, .ref (zq3T h l1 l2).objs.size] }
theorem zip_newT (l1 l2 : Addr) (xs ys : Array Value) : Meets (Builtin.«zip.__new__» ⟨[.type "zip", .ref l1, .ref l2], []⟩) (fun _ R s => IsTup s.heap l1 xs ∧ IsTup s.heap l2 ys ∧ R (.ok (.ret (.ref (zq4T s.heap l1 l2).objs.size))) { s with heap := zq5T s.heap l1 l2 }) :=
  .of_wp fun prog w A R s h => by
    obtain ⟨hp, g, d, tk, os⟩ := s; obtain ⟨a1, a2, h⟩ := h
    have sz := sub_zip
    have b1 : IsTup (Shared.heap ⟨hp, g, d, tk, os⟩) l1 xs := a1
    have b2 : IsTup (Shared.heap ⟨hp.push { cls := .type "tuple_iterator", data := .fields #[.ref l1, .int 0 0] }, g, d, tk, os⟩) l2 ys := IsTup.push a2 _
    wp_walk using iter_tuple b1, iter_tuple b2
    exact ⟨_, rfl, h⟩
theorem zip_callT {prog : Program} {w : World} {A : Around} {E : Value → Shared → Prop} {s : Shared} {l1 l2 : Addr} {xs ys : Array Value} {Q : Value → Shared → Prop} (hl1 : IsTup s.heap l1 xs) (hl2 : IsTup s.heap l2 ys)
    (h : ∀ h', ZstT (s.heap.objs.size + 4) (s.heap.objs.size + 2) (s.heap.objs.size + 3) s.heap.objs.size (s.heap.objs.size + 1) l1 l2 0 h' → h'.objs.size = s.heap.objs.size + 5 → (∀ c o, s.heap.get? c = some o → h'.get? c = some o) → Q (.ref (s.heap.objs.size + 4)) { s with heap := h' }) :
    wpAny (model prog w) A (call (.type "zip") [.ref l1, .ref l2]) Q E s := by
  refine callType_new F.called_zip (by decide) (F.typeCall_zip_2 _ _) (F.newCall_zip_2 _ _) (fun obj => F.args_object_init_3 obj _ _) F.entry_zip_new (zip_newT l1 l2 xs ys) ⟨hl1, hl2, ?_⟩
  have z1 : (zq1T s.heap l1).objs.size = s.heap.objs.size + 1 := Heap.size_push ..
  have z2 : (zq2T s.heap l1 l2).objs.size = s.heap.objs.size + 2 := by rw [Heap.size_push, z1]
  have z3 : (zq3T s.heap l1 l2).objs.size = s.heap.objs.size + 3 := by rw [Heap.size_push, z2]
  have z4 : (zq4T s.heap l1 l2).objs.size = s.heap.objs.size + 4 := by rw [Heap.size_push, z3]
  have z5 : (zq5T s.heap l1 l2).objs.size = s.heap.objs.size + 5 := by rw [Heap.size_push, z4]
  have g5 : (zq5T s.heap l1 l2).get? (zq4T s.heap l1 l2).objs.size = some _ := Heap.get?_push_size _ rfl
  have g4 : (zq5T s.heap l1 l2).get? (zq3T s.heap l1 l2).objs.size = some _ := Heap.get?_push_of_some _ (Heap.get?_push_size _ rfl)
  have g3 : (zq5T s.heap l1 l2).get? (zq2T s.heap l1 l2).objs.size = some _ := Heap.get?_push_of_some _ (Heap.get?_push_of_some _ (Heap.get?_push_size _ rfl))
  have g2 : (zq5T s.heap l1 l2).get? (zq1T s.heap l1).objs.size = some _ := Heap.get?_push_of_some _ (Heap.get?_push_of_some _ (Heap.get?_push_of_some _ (Heap.get?_push_size _ rfl)))
  have g1 : (zq5T s.heap l1 l2).get? s.heap.objs.size = some _ := Heap.get?_push_of_some _ (Heap.get?_push_of_some _ (Heap.get?_push_of_some _ (Heap.get?_push_of_some _ (Heap.get?_push_size _ rfl))))
  show _ ∧ _
  rw [z2, z3, z4] at g5
  rw [z1, z2] at g3
  rw [z3] at g4
  rw [z1] at g2
  rw [z4]
  exact ⟨⟨_, g5, rfl⟩, h _ ⟨g5, g3, ⟨_, _, g4⟩, ⟨_, g1, rfl, rfl⟩, ⟨_, g2, rfl, rfl⟩⟩ z5 fun c o x => Heap.get?_push_of_some _ (Heap.get?_push_of_some _ (Heap.get?_push_of_some _ (Heap.get?_push_of_some _ (Heap.get?_push_of_some _ x))))⟩
def iZipT (K : PySem.W.Frag) (ta : TA) : TI := fun σ H R => ta σ H fun vs H1 => ∃ a b, vs = [.ref a, .ref b] ∧ (∃ xs, SqT K H1 a xs) ∧ (∃ ys, SqT K H1 b ys) ∧ R (ItzT K a b) H1
theorem pi_zipT {X : Cx} {a b : Expr} {ta : TA} {elts : List Expr} {x1 : Nat} {p pos pt : Pos} (hg : Gl X "zip") (hm : X.mg "zip" = none) (ha : PA X [a, b] ta) (hs : starEach [a, b] X.env = [(false, eval a X.env), (false, eval b X.env)] := by rfl)
    (he : starEach [a, b] X.env = (false, eval a X.env) :: starEach [b] X.env := by rfl) (hpl : (backTo pos (starEach [b] X.env)).any (·.1) = false := by rfl) :
    PI X (.Tuple elts x1 pt) (.Call (.Name "zip" p) [a, b] [] pos) (iZipT X.K ta) := by
  intro pins s σ H R I h
  refine wpAny_Call_Name_kw (ld_blt I hg hm bt_zip ?_ (by decide) (by decide))
  refine PyProof.Rows.callWith_type1 (thn (ha pos pins s σ H _ I h) fun us s1 ⟨vs, H1, I1, r1, l1, l2, ev, ⟨xs, hq1⟩, ⟨ys, hq2⟩, q⟩ => ?_) he hpl
  subst ev
  obtain ⟨u1, u2, rfl, ru1, ru2⟩ := vals2 r1
  cases (show u1 = Value.ref l1 from ru1)
  cases (show u2 = Value.ref l2 from ru2)
  obtain ⟨its1, r1', p1, _⟩ := I1.tuple hq1
  obtain ⟨its2, r2', p2, _⟩ := I1.tuple hq2
  refine zip_callT p1 p2 fun h' st sz kk => ?_
  refine wpAny_pyIter_zip (s := { s1 with heap := h' }) st.1 ?_
  refine ⟨s1.heap.objs.size + 4, [s1.heap.objs.size + 4, s1.heap.objs.size + 2, s1.heap.objs.size + 3, s1.heap.objs.size, s1.heap.objs.size + 1], _, _, H1, rfl, I1.kept (t' := s1.toks) kk, turn_zipT _ _ _ _ _ l1 l2 ?_, st, fun b hb => ?_, q⟩
  · generalize s1.heap.objs.size = n
    refine ⟨?_, ?_, ?_, ?_, ?_, ?_, ?_, ?_, ?_, ?_⟩ <;> (intro z; have z' : (_ : Nat) = _ := z; omega)
  · have hb' : s1.heap.objs.size ≤ b := by
      simp only [List.mem_cons, List.not_mem_nil, or_false] at hb
      rcases hb with rfl | rfl | rfl | rfl | rfl
      · exact Nat.le_add_right _ _
      · exact Nat.le_add_right _ _
      · exact Nat.le_add_right _ _
      · exact Nat.le_refl _
      · exact Nat.le_add_right _ _
    exact I1.fpOk hb' (I1.hok.fresh hb')
theorem for_zipT {K : PySem.W.Frag} {a b : Addr} {xs ys : List V} {g : TG} {tb : TS} {D : Ends} {σ : St} {H : Hp} (hle : xs.length = ys.length) (Pv : Nat → St → Hp → Prop) (h0 : Pv 0 σ H) (hl : ∀ i σ H, i ≤ xs.length → Pv i σ H → SqT K H a xs ∧ SqT K H b ys)
    (hs : ∀ i x y p σ H, xs[i]? = some x → ys[i]? = some y → H p = none → Pv i σ H → g (.ref p) σ (upd H p (.tup [x, y])) fun σ2 H2 => tb { D with nx := Pv (i + 1), ct := Pv (i + 1), bk := D.nx } σ2 H2) (hd : ∀ σ H, Pv xs.length σ H → D.nx σ H) :
    ∃ W : Nat → Nat → St → Hp → Prop, (∃ m, W 0 m σ H) ∧ ∀ i m σ H, W i m σ H →
      ((ItzT K a b).stop i H ∧ D.nx σ H) ∨ ((ItzT K a b).go i H ∧ ∃ N : St → Hp → Prop, (∀ σ' H', N σ' H' → ∃ m', m' < m ∧ W (i + 1) m' σ' H') ∧ ∀ x H', (ItzT K a b).yld i H x H' → g x σ H' fun σ2 H2 => tb { D with nx := N, ct := N, bk := D.nx } σ2 H2) := by
  refine ⟨fun i m σ H => m = xs.length - i ∧ i ≤ xs.length ∧ Pv i σ H, ⟨xs.length, by simp, Nat.zero_le _, h0⟩, ?_⟩
  rintro i m σ H ⟨rfl, hi, p⟩
  obtain ⟨q1, q2⟩ := hl i σ H hi p
  by_cases hlt : i < xs.length
  · refine .inr ⟨⟨xs, ys, xs[i], ys[i], q1, q2, by simp [hlt], by simp [show i < ys.length by omega]⟩, Pv (i + 1), fun σ' H' p' => ⟨xs.length - (i + 1), by omega, rfl, hlt, p'⟩, fun x H' z => ?_⟩
    obtain ⟨P, y1, y2, hn, rfl, rfl, e1, e2⟩ := z
    exact hs i y1 y2 P σ _ (e1 xs q1) (e2 ys q2) hn p
  · have e : i = xs.length := by omega
    subst e
    exact .inl ⟨⟨xs, ys, q1, q2, .inl (Nat.le_refl _)⟩, hd σ H p⟩
end L2
namespace L2
open PySem PySem.Spec PyProof.Rows
section
variable {prog : Program} {w : World} {A : Around} {E : Value → Shared → Prop} {s : Shared} {d it v : Addr} {o : Obj} {es : Array DictEntry} {i ep : Nat}
theorem rv_view {Q : Value → Shared → Prop} (hd : (d == sysModules) = false) (ho : s.heap.get? d = some o) (hc : o.ExactDict)
    (h : Q (.ref s.heap.objs.size) { s with heap := s.heap.push { cls := .type "dict_values", data := .fields #[.ref d] } }) : wpAny (model prog w) A (call (.builtin "dict.values") [.ref d]) Q E s := by
  have hT : s.TypeIs (.ref d) "dict" := ⟨o, ho, hc.1⟩
  refine wpAny_call_entry F.slot_dict_values hT F.entry_dict_values ?_ (F.args_dict_values_1 _)
  refine wpAny_bind ?_
  unfold Builtin.Dict.noArgs
  refine wpAny_bind (wpAny_notOrdered_dict hT ?_)
  show wpAny _ _ (pure d) _ _ s
  refine wpAny_pure ?_
  show wpAny _ _ (Builtin.Dict.showsAll d >>= _) _ _ s
  unfold Builtin.Dict.showsAll
  rw [if_neg (by rw [hd]; exact Bool.false_ne_true)]
  exact wpAny_bind (wpAny_pure (wpAny_bind (wpAny_newObj_type (wpAny_pure ⟨_, rfl, h⟩))))
theorem rv_iter {Q : Value → Shared → Prop} (hv : s.heap.IsValuesView v d) (ho : s.heap.get? d = some o) (hdat : o.data = .dict es ep)
    (hQ : Q (.ref s.heap.objs.size) { s with heap := s.heap.push { cls := .type "dict_valueiterator", data := .fields #[.ref d, .int 0 0, .int es.size 0, .int ep 0] } }) : wpAny (model prog w) A (pyIter (.ref v)) Q E s := by
  obtain ⟨ob, hov, hcv, hdv⟩ := id hv
  refine wpAny_pyIter_slot hv.typeIs F.slot_dict_values_iter (wpAny_call_entry F.slot_dict_values_iter hv.typeIs F.entry_dict_values_iter ?_ (F.args_dict_values_iter_1 _))
  unfold Builtin.«dict_values.__iter__»
  refine wpAny_bind (wpAny_pure (wpAny_bind ?_))
  unfold Builtin.Dict_items.dictOf
  refine wpAny_bind (wpAny_field hov hdv (x := .ref d) rfl (wpAny_pure (wpAny_bind ?_)))
  unfold Builtin.Dict_items.newIterator
  refine wpAny_bind (wpAny_dictEntries ho hdat (wpAny_bind (wpAny_dictEpoch ho hdat ?_)))
  simp only [show Builtin.Dict_items.ownsTuple "dict_valueiterator" = false by decide, Bool.false_eq_true, if_false]
  refine wpAny_newObj_type (wpAny_pure ⟨_, rfl, "dict_valueiterator", _, ⟨_, Heap.get?_push_size _ rfl, rfl⟩, F.slot_dict_valueiterator_next.lookup, ?_⟩)
  simpa [rawInt] using hQ
theorem rv_next {Q : Option Value → Shared → Prop} (hit : s.heap.IsValIter it d i es.size ep) (hod : s.heap.get? d = some o) (hdd : o.data = .dict es ep) (hi : i < es.size)
    (hQ : ∀ h', h'.IsValIter it d (i + 1) es.size ep → Heap.SameBut it s.heap h' → Q (some es[i].val) { s with heap := h' }) : wpAny (model prog w) A (pyNext (.ref it)) Q E s := by
  obtain ⟨oi, ho, hc, hd⟩ := id hit
  unfold pyNext
  refine wpAny_bind (wpAny_attempt (wpAny_callSpecial?_slot (name := Str.ofString "__next__") hit.typeIs F.slot_dict_valueiterator_next
    (wpAny_call_entry F.slot_dict_valueiterator_next hit.typeIs F.entry_dict_valueiterator_next ?_ (F.args_dict_valueiterator_next_1 _))))
  refine wpAny_bind (wpAny_pure (wpAny_bind (wpAny_bind ?_)))
  first | refine wpAny_bind (wpAny_typeNameOfWhole_valiter hit.typeIs (wpAny_pure ?_)) | refine wpAny_bind (wpAny_typeNameOf_valiter hit.typeIs (wpAny_pure ?_))
  refine wpAny_bind (wpAny_fieldsOf ho hd ?_)
  simp only [show Builtin.Dict_items.ownsTuple "dict_valueiterator" = false by decide, Bool.false_eq_true, if_false]
  show wpAny _ _ (if (Value.ref d == Value.none) = true then _ else _) _ _ s
  rw [if_neg (show ¬ ((Value.ref d == Value.none) = true) from Bool.false_ne_true)]
  refine wpAny_bind (wpAny_pure (wpAny_bind (wpAny_dictEntries hod hdd ?_)))
  rw [if_neg (by simp)]
  refine wpAny_bind (wpAny_pure (wpAny_bind (wpAny_dictEpoch hod hdd ?_)))
  rw [if_neg (by simp)]
  refine wpAny_pure ?_
  simp only [show ¬ ((i : Int) < 0) from by omega, if_false, Int.toNat_natCast, Array.getElem?_eq_getElem hi]
  refine wpAny_bind ?_
  first | refine wpAny_bind (wpAny_typeNameOfWhole_valiter hit.typeIs (wpAny_pure ?_)) | refine wpAny_bind (wpAny_typeNameOf_valiter hit.typeIs (wpAny_pure ?_))
  refine wpAny_bind (wpAny_isOneOf_valiter hit.typeIs ?_)
  show wpAny _ _ (setField (.ref it) 1 (rawInt ((i : Int) + 1)) >>= _) _ _ s
  refine wpAny_bind (wpAny_setField ho hd (by simp) ?_)
  have new : (s.heap.update it (Obj.mapFields (·.setIfInBounds 1 (rawInt ((i : Int) + 1))))).IsValIter it d (i + 1) es.size ep :=
    ⟨_, Heap.get?_update_self _ ho (Obj.isFreed_of_fields (Obj.data_mapFields hd _)), (Obj.cls_mapFields ..).trans hc, by rw [Obj.data_mapFields hd]; simp [rawInt]⟩
  refine wpAny_bind (wpAny_holding (wpAny_bind (wpAny_isOneOf_valiter (s := { s with heap := s.heap.update it (Obj.mapFields (·.setIfInBounds 1 (rawInt ((i : Int) + 1)))) }) new.typeIs ?_)))
  refine wpAny_bind (wpAny_isOneOf_valiter (s := { s with heap := s.heap.update it (Obj.mapFields (·.setIfInBounds 1 (rawInt ((i : Int) + 1)))) }) new.typeIs ?_)
  show wpAny _ _ (pure es[i].val) _ _ _
  exact wpAny_pure (wpAny_pure ⟨_, rfl, wpAny_pure (hQ _ new (Heap.SameBut.update ..))⟩)
theorem rv_end {Q : Option Value → Shared → Prop} (hh : A.handled = none) (hit : s.heap.IsValIter it d i es.size ep) (hod : s.heap.get? d = some o) (hdd : o.data = .dict es ep) (hi : es.size ≤ i)
    (hQ : ∀ h', Heap.ExtBut it s.heap h' → Q none { s with heap := h' }) : wpAny (model prog w) A (pyNext (.ref it)) Q E s := by
  obtain ⟨oi, ho, hc, hd⟩ := id hit
  unfold pyNext
  refine wpAny_bind (wpAny_attempt (wpAny_callSpecial?_slot (name := Str.ofString "__next__") hit.typeIs F.slot_dict_valueiterator_next
    (wpAny_call_entry F.slot_dict_valueiterator_next hit.typeIs F.entry_dict_valueiterator_next ?_ (F.args_dict_valueiterator_next_1 _))))
  refine wpAny_bind (wpAny_pure (wpAny_bind (wpAny_bind ?_)))
  first | refine wpAny_bind (wpAny_typeNameOfWhole_valiter hit.typeIs (wpAny_pure ?_)) | refine wpAny_bind (wpAny_typeNameOf_valiter hit.typeIs (wpAny_pure ?_))
  refine wpAny_bind (wpAny_fieldsOf ho hd ?_)
  simp only [show Builtin.Dict_items.ownsTuple "dict_valueiterator" = false by decide, Bool.false_eq_true, if_false]
  show wpAny _ _ (if (Value.ref d == Value.none) = true then _ else _) _ _ s
  rw [if_neg (show ¬ ((Value.ref d == Value.none) = true) from Bool.false_ne_true)]
  refine wpAny_bind (wpAny_pure (wpAny_bind (wpAny_dictEntries hod hdd ?_)))
  rw [if_neg (by simp)]
  refine wpAny_bind (wpAny_pure (wpAny_bind (wpAny_dictEpoch hod hdd ?_)))
  rw [if_neg (by simp)]
  refine wpAny_pure ?_
  simp only [show ¬ ((i : Int) < 0) from by omega, if_false, Int.toNat_natCast, Array.getElem?_eq_none hi]
  refine wpAny_bind ?_
  first | refine wpAny_bind (wpAny_typeNameOfWhole_valiter hit.typeIs (wpAny_pure ?_)) | refine wpAny_bind (wpAny_typeNameOf_valiter hit.typeIs (wpAny_pure ?_))
  show wpAny _ _ (setField (.ref it) 0 .none >>= _) _ _ s
  refine wpAny_bind (wpAny_setField ho hd (by simp) ?_)
  show wpAny _ _ (newExc (.type "StopIteration") [] >>= _) _ _ _
  refine wpAny_bind ?_
  simp only [newExc, newTuple]
  refine wpAny_bind (wpAny_newObj_type ?_ (by size_fits))
  refine wpAny_bind (m := firstArgMember _ _) (wpAny_of_eq (a := Value.none) (by first | rfl | (simp only [firstArgMember]; rfl)) (wpAny_newObj_type ?_ (by size_fits)))
  simp only [raiseNew]
  refine wpAny_bind (wpAny_handled ?_)
  rw [show A.in1.handled = none from hh]
  refine wpAny_bind (wpAny_pure (wpAny_throw ?_))
  refine wpAny_bind (wpAny_isInstance (T := "StopIteration") (b := true) ⟨_, Heap.get?_push_size _ rfl, rfl⟩ isSubtype_stop ?_)
  exact wpAny_pure (hQ _ (((Heap.SameBut.update ..).extBut.push _).push _))
end
def Itv (d : Addr) (o : Obj) (u : HO) : It :=
  ⟨fun i H => H d = some (.frz o u) ∧ i < szU u, fun i H v H' => H' = H ∧ ∃ x, KeyAt H u i x v, fun i H => H d = some (.frz o u) ∧ szU u ≤ i⟩
theorem turn_vals {P : Program} {w : World} {K : PySem.W.Frag} {tg : Expr} (d it : Addr) (o : Obj) (u : HO) (hu : DictU u) (es : Array DictEntry) (ep : Nat) (hd : o.data = .dict es ep) :
    Turn P w K tg (Itv d o u) [it] it (fun i h => h.IsValIter it d i es.size ep) where
  mem := by simp
  obj := fun i h st b hb => by
    rw [List.mem_singleton.mp hb]
    obtain ⟨oi, e, c, q⟩ := st
    exact ⟨oi, e, fun v z => by rw [q] at z; cases z⟩
  keep := fun i h h' st k => Heap.IsValIter.at st fun oi e => k it (by simp) oi e
  item := by
    intro X hP hw hK hc i pins s σ H E I hf st hg
    subst hP hw hK
    obtain ⟨hH, hi⟩ := hg
    obtain ⟨_, hod, _, es', ep', hd', hz, hall⟩ := raw_of I.hok hH hu
    rw [hd] at hd'; cases hd'
    obtain ⟨f0, f1, f2, f3, f4, f5⟩ := hf it (by simp)
    have hi' : i < es.size := by omega
    obtain ⟨x, v, hk, r1, r2⟩ := hall i hi'
    refine rv_next st hod hd hi' fun h' st' sb => ?_
    have I1 : Inv X pins σ H { s with heap := h' } := I.turned (t' := s.toks) (fun b ob hb e => (sb.2 b hb).trans e) f0 f1 f3 f4 f5
    obtain ⟨oi, e, c, q⟩ := id st'
    exact ⟨_, rfl, go_of (s := { s with heap := h' }) e c q (by decide) ⟨v, H, I1, r2, ⟨rfl, x, hk⟩, st', fun b hb => (hf b hb).1⟩⟩
  done := by
    intro X hP hw hK hc i pins s σ H E I hf st hg
    subst hP hw hK
    obtain ⟨hH, hi⟩ := hg
    obtain ⟨_, hod, _, es', ep', hd', hz, hall⟩ := raw_of I.hok hH hu
    rw [hd] at hd'; cases hd'
    obtain ⟨f0, f1, f2, f3, f4, f5⟩ := hf it (by simp)
    exact rv_end (I.ok.hd hc) st hod hd (by omega) fun h' eb => ⟨rfl, I.turned (t' := s.toks) (fun b ob hb e => eb b ob hb e) f0 f1 f3 f4 f5⟩
  self := fun A i s Q E st h => by
    refine wpAny_pyIter_slot st.typeIs F.slot_dict_valueiterator_iter (wpAny_call_entry F.slot_dict_valueiterator_iter st.typeIs entry_dict_valueiterator_iter ?_ (F.args_dict_valueiterator_iter_1 _))
    show wpAny _ _ (ret (.ref it)) _ _ s
    exact wpAny_pure ⟨_, rfl, "dict_valueiterator", _, st.typeIs, F.slot_dict_valueiterator_next.lookup, h⟩
def iVals (te : TE) : TI := fun σ H R => te σ H fun x H1 => ∃ d o u, x = .ref d ∧ H1 d = some (.frz o u) ∧ DictU u ∧ R (Itv d o u) H1
theorem pi_values {X : Cx} {tg e : Expr} {te : TE} {apos cpos : Pos} (he : PE X e te)
    (hbase : attributeBase e "values" X.env (eval e X.env) = eval e X.env := by rfl) (hline : (apos.endLine == cpos.line) = true := by rfl) :
    PI X tg (.Call (.Attribute e "values" apos) [] [] cpos) (iVals te) := by
  intro pins s σ H R I h
  refine wpAny_Call_method0_late hbase hline (thn (he pins s σ H _ I h) fun v s1 ⟨x, H1, I1, r, d, o, u, ex, hd, hu, q⟩ => ?_)
  subst ex
  cases (show v = Value.ref d from r)
  obtain ⟨hS, hod, hc, es, ep, hdd, hz, _⟩ := raw_of I1.hok hd hu
  refine ⟨"dict", "dict.values", F.plainAttrs_dict, F.slot_dict_values, F.type_dict_values, ⟨o, hod, hc.1⟩, fun a e2 => by cases e2; exact ⟨o, hod, hc.2.1⟩, Calls.callWith_builtin rfl (PySem.evalArgs_none ?_)⟩
  refine rv_view hS hod hc ?_
  have k1 : ∀ b ob, s1.heap.get? b = some ob → (s1.heap.push { cls := .type "dict_values", data := .fields #[.ref d] }).get? b = some ob := fun b ob z => Heap.get?_push_of_some _ z
  refine rv_iter (s := { s1 with heap := s1.heap.push { cls := .type "dict_values", data := .fields #[.ref d] } }) ⟨_, Heap.get?_push_size _ rfl, rfl, rfl⟩ (k1 _ _ hod) hdd ?_
  have I2 := I1.kept (t' := s1.toks) k1
  refine ⟨_, [(s1.heap.push { cls := .type "dict_values", data := .fields #[.ref d] }).objs.size], _, _, H1, rfl, I2.kept (t' := s1.toks) (fun b ob z => Heap.get?_push_of_some _ z), turn_vals d _ o u hu es ep hdd, ⟨_, Heap.get?_push_size _ rfl, rfl, rfl⟩, fun b hb => ?_, q⟩
  rw [List.mem_singleton.mp hb]
  exact I2.fpOk (Nat.le_refl _) (I2.hok.fresh (Nat.le_refl _))
theorem for_vals {d : Addr} {o : Obj} {u : HO} {g : TG} {tb : TS} {D : Ends} {σ : St} {H : Hp} (Pv : Nat → St → Hp → Prop) (h0 : Pv 0 σ H) (hl : ∀ i σ H, i ≤ szU u → Pv i σ H → H d = some (.frz o u))
    (hs : ∀ i x v σ H, KeyAt H u i x v → i < szU u → Pv i σ H → g v σ H fun σ2 H2 => tb { D with nx := Pv (i + 1), ct := Pv (i + 1), bk := D.nx } σ2 H2) (hd : ∀ σ H, Pv (szU u) σ H → D.nx σ H) :
    ∃ W : Nat → Nat → St → Hp → Prop, (∃ m, W 0 m σ H) ∧ ∀ i m σ H, W i m σ H →
      ((Itv d o u).stop i H ∧ D.nx σ H) ∨ ((Itv d o u).go i H ∧ ∃ N : St → Hp → Prop, (∀ σ' H', N σ' H' → ∃ m', m' < m ∧ W (i + 1) m' σ' H') ∧ ∀ x H', (Itv d o u).yld i H x H' → g x σ H' fun σ2 H2 => tb { D with nx := N, ct := N, bk := D.nx } σ2 H2) := by
  refine ⟨fun i m σ H => m = szU u - i ∧ i ≤ szU u ∧ Pv i σ H, ⟨szU u, by simp, Nat.zero_le _, h0⟩, ?_⟩
  rintro i m σ H ⟨rfl, hi, p⟩
  have q := hl i σ H hi p
  by_cases hlt : i < szU u
  · refine .inr ⟨⟨q, hlt⟩, Pv (i + 1), fun σ' H' p' => ⟨szU u - (i + 1), by omega, rfl, hlt, p'⟩, fun x H' y => ?_⟩
    obtain ⟨e, v, k⟩ := y
    subst e
    exact hs i v x σ _ k hlt p
  · have e : i = szU u := by omega
    subst e
    exact .inl ⟨⟨q, Nat.le_refl _⟩, hd σ H p⟩
structure KCalleeN (P : Program) (w : World) (K : PySem.W.Frag) (mg : Str → Option Value) (base : Heap) (C : Addr) (x : Str) (k : Nat) (ps : List Str) (sp : Sp) : Prop where
  ex : ∃ f fd, FnOk P w K mg base CX0 k f fd ps sp ∧ Mk K C f ∧ mg x = some (.ref C) ∧ Binds K fd ps [Value.none]
theorem pe_mkN {X : Cx} {C : Addr} {k : Nat} {ps : List Str} {sp : Sp} {x : Str} {p pos : Pos} {e : Expr} {es : List Expr} {t : TA} (G : KCalleeN X.prog X.w X.K X.mg X.base C x k ps sp) (hr : Room (k + 1) X.A) (hg : Gl X x) (ha : PA X (e :: es) t) (hdb : (x == ("__debug__" : Str)) = false := by decide)
    (he : starEach (e :: es) X.env = (false, eval e X.env) :: starEach es X.env := by rfl) (hpl : (backTo pos (starEach es X.env)).any (·.1) = false := by rfl) : PE X (.Call (.Name x p) (e :: es) [] pos) (tMake C sp [.non] E0 t) := by
  obtain ⟨f, fd, F, M, hm, hb⟩ := G.ex
  exact pe_make M F hr hg hm hb (.cons rfl .nil) pass0 ha hdb he hpl
theorem bindsN {K : PySem.W.Frag} {fd : FuncData} {ps : List Str} {T : Addr} {oc : Value} {od : Option Addr} {sl : Array (Option Value)} {items : Array Value} {n : Nat} (hd : fd.defaults = .ref T) (ho : K.lookup T = some ⟨oc, od, .seq items n, sl⟩)
    (m : Nat) (hm : ps.length = m + 1) (h : ∀ us : List Value, us.length = m → ∃ k, bindArgs fd ⟨us, []⟩ = (seqItems? fd.defaults >>= k) ∧ k (some items) = pure (ps.zip (us ++ [Value.none]))) : Binds K fd ps [Value.none] := fun s us hX hl => by
  obtain ⟨k, h1, h2⟩ := h us (by rw [hm, List.length_append] at hl; exact Nat.succ.inj hl)
  exact PySem.W.binds_K hX hd ho rfl h1 h2
end L2
namespace K08
open PySem L2
def top (i : Nat) : Stmt := PySem.Challenge.pw_wirefloor_k08_fits.main.body.getD i (.Pass ⟨0, 0, 0, 0⟩)
abbrev sCell : Stmt := top 35
abbrev sInside : Stmt := top 8
abbrev sSquare : Stmt := top 9
abbrev sCSizes : Stmt := top 15
abbrev sCPrice : Stmt := top 16
abbrev sCPrices : Stmt := top 17
abbrev sCInside : Stmt := top 18
abbrev sFInit : Stmt := inClass (top 19) 0
abbrev sIsRock : Stmt := inClass (top 19) 5
abbrev sFits : Stmt := top 11
abbrev sName : Stmt := top 29
abbrev sUnlike : Stmt := top 30
abbrev sTInit : Stmt := inClass (top 31) 0
abbrev sNInit : Stmt := inClass (top 32) 0
abbrev sBInit : Stmt := inClass (top 33) 0
abbrev sSizes : Stmt := top 36
abbrev sRocks : Stmt := top 37
abbrev sMarks : Stmt := top 38
abbrev sLInside : Stmt := top 39
abbrev sDue : Stmt := top 40
abbrev sAsked : Stmt := top 41
abbrev slaw : Stmt := top 42
structure Txt (K : PySem.W.Frag) (mg : Str → Option Value) (cThing cNet cBundle cFloor cMS : Addr) : Prop where
  len_ : mg "len" = none
  range_ : mg "range" = none
  isinstance_ : mg "isinstance" = none
  bool_ : mg "bool" = none
  tuple_ : mg "tuple" = none
  set_ : mg "set" = none
  max_ : mg "max" = none
  min_ : mg "min" = none
  all_ : mg "all" = none
  any_ : mg "any" = none
  list_ : mg "list" = none
  dict_ : mg "dict" = none
  zip_ : mg "zip" = none
  cl_Thing : Cls K cThing
  mg_Thing : mg "Thing" = some (.ref cThing)
  cl_Net : Cls K cNet
  mg_Net : mg "Net" = some (.ref cNet)
  na_Net_name : NoAttr K cNet "name"
  na_Net_half : NoAttr K cNet "half"
  na_Net_room : NoAttr K cNet "room"
  na_Net_pins : NoAttr K cNet "pins"
  cl_Bundle : Cls K cBundle
  mg_Bundle : mg "Bundle" = some (.ref cBundle)
  na_Bundle_name : NoAttr K cBundle "name"
  na_Bundle_half : NoAttr K cBundle "half"
  na_Bundle_room : NoAttr K cBundle "room"
  na_Bundle_starts : NoAttr K cBundle "starts"
  na_Bundle_goals : NoAttr K cBundle "goals"
  cl_Floor : Cls K cFloor
  mg_Floor : mg "Floor" = some (.ref cFloor)
  na_Floor_sizes : NoAttr K cFloor "sizes"
  na_Floor_prices : NoAttr K cFloor "prices"
  na_Floor_vias : NoAttr K cFloor "vias"
  na_Floor_rocks : NoAttr K cFloor "rocks"
  na_Floor_tolls : NoAttr K cFloor "tolls"
  g_LETTERS : ∃ u, mg "LETTERS" = some u ∧ RelV (.str (Str.ofString "abcdefghijklmnopqrstuvwxyz")) u
  g_FIGURES : ∃ u, mg "FIGURES" = some u ∧ RelV (.str (Str.ofString "0123456789")) u
  g_MOST_PRICE : ∃ u, mg "MOST_PRICE" = some u ∧ RelV (.int 1000000000000) u
  g_MOST_SIGNS : ∃ u, mg "MOST_SIGNS" = some u ∧ RelV (.int 12) u
  g_MOST_HALF : ∃ u, mg "MOST_HALF" = some u ∧ RelV (.int 2) u
  g_MOST_ROOM : ∃ u, mg "MOST_ROOM" = some u ∧ RelV (.int 3) u
  g_MOST_PINS : ∃ u, mg "MOST_PINS" = some u ∧ RelV (.int 6) u
  g_MOST_STARTS : ∃ u, mg "MOST_STARTS" = some u ∧ RelV (.int 6) u
  g_MOST_GOALS : ∃ u, mg "MOST_GOALS" = some u ∧ RelV (.int 12) u
  g_MOST_SIZES : ∃ u, mg "MOST_SIZES" = some u ∧ RelV (.ref cMS) u
  t_MOST_SIZES : ∀ H : Hp, SqT K H cMS [.int 4, .int 16, .int 16]
  bb : PySem.W.kitOne K (.type "bool") (.type "bool") = some true
def lets : List Nat := cp (Str.ofString "abcdefghijklmnopqrstuvwxyz")
def figs : List Nat := cp (Str.ofString "0123456789")
structure NmOk (x : Str) : Prop where
  as : x.cps.all (· < 128) = true
  lo : 1 ≤ x.length
  hi : x.length ≤ 12
  fst : ∃ c r, cp x = c :: r ∧ c ∈ lets
  all : ∀ c ∈ cp x, c ∈ lets ∨ c ∈ figs
theorem nm_one : NmOk (Str.ofString "one") := ⟨by decide +kernel, by decide +kernel, by decide +kernel, ⟨111, [110, 101], by decide +kernel, by decide +kernel⟩, by decide +kernel⟩
def Th (cN cB : Addr) (H : Hp) (p : Addr) (half room : Int) : Prop := ∃ C dx fs, H p = some (.ins C dx fs) ∧ (C = cN ∨ C = cB) ∧ fs.lookup ("half" : Str) = some (.int half) ∧ fs.lookup ("room" : Str) = some (.int room)
theorem Th.same {cN cB : Addr} {H H' : Hp} {p : Addr} {half room : Int} (h : Th cN cB H p half room) (s : Same H H') : Th cN cB H' p half room := by
  obtain ⟨C, dx, fs, e, r⟩ := h
  exact ⟨C, dx, fs, s _ _ e, r⟩
def mx (i j : Int) : Int := if j > i then j else i
def mn (i j : Int) : Int := if j < i then j else i
def lo (p n : Int) : Int := mx 0 (p - n)
def hi (m p n : Int) : Int := mn (m - 1) (p + n)
theorem lo_hi {m p n : Int} (h0 : 0 ≤ p) (h1 : p < m) (hn : 0 ≤ n) : 0 ≤ lo p n ∧ lo p n ≤ p ∧ p - n ≤ lo p n ∧ p ≤ hi m p n ∧ hi m p n ≤ m - 1 ∧ hi m p n ≤ p + n := by
  unfold lo hi mx mn
  split <;> split <;> omega
theorem hi_lo {m p n : Int} (h0 : 0 ≤ p) (h1 : p < m) (hn : 0 ≤ n) (h : n ≤ 3 ∨ m ≤ 6) : hi m p n + 1 - lo p n ≤ 7 := by
  unfold lo hi mx mn
  split <;> split <;> omega
def wd (m p n : Int) : Nat := (hi m p n + 1 - lo p n).toNat
theorem wd_le {m p n : Int} (h0 : 0 ≤ p) (h1 : p < m) (hn : 0 ≤ n) (h : n ≤ 3 ∨ m ≤ 6) : wd m p n ≤ 7 := by
  have := hi_lo h0 h1 hn h
  unfold wd
  omega
def spotV (x t l : Int) (w i : Nat) : List V := [.int x, .int (t + (i / w : Nat)), .int (l + (i % w : Nat))]
theorem spot_in {h w i : Nat} (hi : i < h * w) : i / w < h ∧ i % w < w := by
  have hw : 0 < w := by
    rcases Nat.eq_zero_or_pos w with rfl | h
    · rw [Nat.mul_zero] at hi; omega
    · exact h
  exact ⟨Nat.div_lt_of_lt_mul (by rw [Nat.mul_comm]; exact hi), Nat.mod_lt _ hw⟩
theorem div_at {w j i : Nat} (hi : i < w) : (j * w + i) / w = j ∧ (j * w + i) % w = i := by
  constructor
  · rw [Nat.mul_comm, Nat.mul_add_div (by omega), Nat.div_eq_of_lt hi]; rfl
  · rw [Nat.mul_comm, Nat.mul_add_mod, Nat.mod_eq_of_lt hi]
def spName : Sp := fun vs H Q _ => ∃ x : Str, vs = [.str x] ∧ NmOk x ∧ ∀ H', Same H H' → Q (.bl true) H'
def spUnlike : Sp := fun vs H Q _ => ∃ (l : Addr) (as : List Addr) (cs : List (List Int)), vs = [.ref l] ∧ H l = some (.lst (as.map V.ref)) ∧ Tups H as cs ∧ SetOk cs ∧ cs.length < 1000 ∧ ∀ H', Same H H' → Q .non H'
def ButP (H H' : Hp) (p : Addr) : Prop := ∀ b o, b ≠ p → H b = some o → H' b = some o
structure Base (fs : List (Str × V)) (h r : Int) : Prop where
  few : fs.length ≤ 10
  half : fs.lookup ("half" : Str) = some (.int h)
  room : fs.lookup ("room" : Str) = some (.int r)
theorem Base.put {fs : List (Str × V)} {h r : Int} {f : Str} {v : V} (b : Base fs h r) (hf : fs.length ≤ 9) (h1 : ("half" : Str) ≠ f) (h2 : ("room" : Str) ≠ f) : Base (putF f v fs) h r :=
  ⟨Nat.le_trans (length_putF f v fs) (by omega), by rw [lookup_putF, if_neg h1]; exact b.half, by rw [lookup_putF, if_neg h2]; exact b.room⟩
def spTInit (cN cB : Addr) : Sp := fun vs H Q _ => ∃ (p C dx : Addr) (x : Str) (h r : Int), vs = [.ref p, .str x, .int h, .int r] ∧ H p = some (.ins C dx []) ∧ (C = cN ∨ C = cB) ∧ NmOk x ∧ 0 ≤ h ∧ h ≤ 2 ∧ 0 ≤ r ∧ r ≤ 3 ∧
  ∀ H' fs, ButP H H' p → H' p = some (.ins C dx fs) → Base fs h r → fs.length ≤ 3 → Q .non H'
def spNInit (cN : Addr) : Sp := fun vs H Q _ => ∃ (p dx l : Addr) (as : List Addr) (cs : List (List Int)) (x : Str) (h r : Int), vs = [.ref p, .str x, .ref l, .int h, .int r] ∧ H p = some (.ins cN dx []) ∧ H l = some (.lst (as.map V.ref)) ∧ Tups H as cs ∧ SetOk cs ∧ 2 ≤ as.length ∧ as.length ≤ 6 ∧
  NmOk x ∧ 0 ≤ h ∧ h ≤ 2 ∧ 0 ≤ r ∧ r ≤ 3 ∧ ∀ H' fs, ButP H H' p → H' p = some (.ins cN dx fs) → Base fs h r → Q .non H'
def spBInit (cB : Addr) : Sp := fun vs H Q _ => ∃ (p dx l m : Addr) (as bs : List Addr) (cs ds : List (List Int)) (x : Str) (r : Int), vs = [.ref p, .str x, .ref l, .ref m, .int r] ∧ H p = some (.ins cB dx []) ∧ H l = some (.lst (as.map V.ref)) ∧ H m = some (.lst (bs.map V.ref)) ∧
  Tups H as cs ∧ Tups H bs ds ∧ SetOk (cs ++ ds) ∧ 1 ≤ as.length ∧ as.length ≤ 6 ∧ as.length ≤ bs.length ∧ bs.length ≤ 12 ∧ NmOk x ∧ 0 ≤ r ∧ r ≤ 3 ∧ ∀ H' fs, ButP H H' p → H' p = some (.ins cB dx fs) → Base fs 0 r → Q .non H'
def Ins (L R C l r c : Int) : Prop := 0 ≤ l ∧ l < L ∧ 0 ≤ r ∧ r < R ∧ 0 ≤ c ∧ c < C
instance {L R C l r c : Int} : Decidable (Ins L R C l r c) := by unfold Ins; infer_instance
abbrev Sp3 := Int × Int × Int
def tp (p : Sp3) : List V := [.int p.1, .int p.2.1, .int p.2.2]
def k3 (p : Sp3) : List Key := [.inl p.1, .inl p.2.1, .inl p.2.2]
theorem k3_inj {p q : Sp3} (e : k3 p = k3 q) : p = q := by
  injection e with e1 e
  injection e with e2 e
  injection e with e3 _
  obtain ⟨a, b, c⟩ := p
  obtain ⟨a', b', c'⟩ := q
  have h1 : a = a' := Sum.inl.inj e1
  have h2 : b = b' := Sum.inl.inj e2
  have h3 : c = c' := Sum.inl.inj e3
  subst h1 h2 h3; rfl
abbrev Spots (H : Hp) (as : List Addr) (rs : List Sp3) : Prop := Paired (fun a p => H a = some (.tup (tp p))) as rs
theorem Spots.same {H H' : Hp} {as : List Addr} {rs : List Sp3} (h : Spots H as rs) (s : Same H H') : Spots H' as rs := Paired.mapP h fun a c e => s _ _ e
theorem spots_app {H : Hp} {as bs : List Addr} {cs ds : List Sp3} (h : Spots H as cs) (g : Spots H bs ds) : Spots H (as ++ bs) (cs ++ ds) := by
  induction h with
  | nil => exact g
  | cons r _ ih => exact .cons r ih
theorem Spots.at {H : Hp} {as : List Addr} {rs : List Sp3} (h : Spots H as rs) : ∀ {i : Nat} {a : Addr}, as[i]? = some a → ∃ p, rs[i]? = some p ∧ H a = some (.tup (tp p)) := by
  induction h with
  | nil => intro i a e; simp at e
  | cons r _ ih =>
    intro i a e
    cases i with
    | zero => simp at e; subst e; exact ⟨_, by simp, r⟩
    | succ i => simp at e; obtain ⟨p, h1, h2⟩ := ih e; exact ⟨p, by simpa using h1, h2⟩
theorem Spots.take {H : Hp} {as : List Addr} {rs : List Sp3} (h : Spots H as rs) : ∀ n : Nat, Spots H (as.take n) (rs.take n) := by
  induction h with
  | nil => intro n; simp; exact .nil
  | cons r _ ih =>
    intro n
    cases n with
    | zero => exact .nil
    | succ n => exact .cons r (ih n)
def DR (kvs : List (List Key × V)) (rs : List Sp3) : Prop := ∀ p : Sp3, (valV kvs (k3 p)).isSome = decide (p ∈ rs)
theorem DR.nil : DR [] [] := fun p => by simp [valV_nil]
theorem DR.put {kvs : List (List Key × V)} {rs : List Sp3} {p : Sp3} {v : V} (h : DR kvs rs) : DR (putK kvs (k3 p) v) (rs ++ [p]) := fun q => by
  rw [valV_put]
  by_cases e : k3 q = k3 p
  · rw [if_pos e, k3_inj e]; simp
  · have : ¬ q = p := fun z => e (by rw [z])
    rw [if_neg e, h q]
    simp [this]
theorem put_len {kvs : List (List Key × V)} {k : List Key} {v : V} : (putK kvs k v).length ≤ kvs.length + 1 := by
  unfold putK
  split
  · rw [List.length_map]; omega
  · rw [List.length_append]; exact Nat.le_refl _
def kv (rs : List Sp3) : List (List Key × V) := rs.map fun p => (k3 p, .bl true)
theorem DR.mk : ∀ n (rs : List Sp3), rs.length = n → DR (mkD (kv rs)) rs
  | 0, rs, e => by cases rs with | nil => exact DR.nil | cons _ _ => simp at e
  | n + 1, rs, e => by
    have hne : rs ≠ [] := fun z => by rw [z] at e; simp at e
    obtain ⟨qs, p, rfl⟩ : ∃ qs p, rs = qs ++ [p] := ⟨rs.dropLast, rs.getLast hne, (List.dropLast_concat_getLast hne).symm⟩
    have ih := DR.mk n qs (by simpa using e)
    unfold kv
    rw [List.map_append]
    show DR (mkD (kv qs ++ [(k3 p, V.bl true)])) _
    rw [mkD_snoc]
    exact ih.put
def Fit (L R C : Int) (rs : List Sp3) (h l r c : Int) : Prop := ∀ r' c', r - h ≤ r' → r' ≤ r + h → c - h ≤ c' → c' ≤ c + h → Ins L R C l r' c' ∧ (l, r', c') ∉ rs
structure Fl (cF : Addr) (H : Hp) (p : Addr) (L R C : Int) (rs : List Sp3) : Prop where
  ex : ∃ dx z d fs kvs, H p = some (.ins cF dx fs) ∧ fs.lookup ("sizes" : Str) = some (.ref z) ∧ fs.lookup ("rocks" : Str) = some (.ref d) ∧ fs.lookup ("is_rock" : Str) = none ∧ H z = some (.tup [.int L, .int R, .int C]) ∧ H d = some (.dT kvs) ∧ DR kvs rs
theorem Fl.same {cF : Addr} {H H' : Hp} {p : Addr} {L R C : Int} {rs : List Sp3} (h : Fl cF H p L R C rs) (s : Same H H') : Fl cF H' p L R C rs := by
  obtain ⟨dx, z, d, fs, kvs, h1, h2, h3, hn, h4, h5, h6⟩ := h.ex
  exact ⟨dx, z, d, fs, kvs, s _ _ h1, h2, h3, hn, s _ _ h4, s _ _ h5, h6⟩
structure Szs (L R C : Int) : Prop where
  l0 : 1 ≤ L
  l1 : L ≤ 4
  r0 : 1 ≤ R
  r1 : R ≤ 16
  c0 : 1 ≤ C
  c1 : C ≤ 16
def Near (p : Sp3) : Prop := -100 ≤ p.2.1 ∧ p.2.1 ≤ 100 ∧ -100 ≤ p.2.2 ∧ p.2.2 ≤ 100
def T3 (H : Hp) (a : Addr) (l r c : Int) : Prop := H a = some (.tup [.int l, .int r, .int c])
def cellV (ns : List Int) (i : Int) : Int := (ns[i.toNat]?).getD 0
def spCell (K : PySem.W.Frag) : Sp := fun vs H Q _ => ∃ (a : Addr) (ns : List Int) (i : Int), vs = [.ref a, .int i] ∧ SqL K H a (ns.map V.int) ∧ 0 ≤ i ∧ Q (.int (cellV ns i)) H
def spInside : Sp := fun vs H Q _ => ∃ (a b : Addr) (L R C l r c : Int), vs = [.ref a, .ref b] ∧ T3 H a L R C ∧ T3 H b l r c ∧ Q (.bl (decide (Ins L R C l r c))) H
def Good (H : Hp) (x t l : Int) (w : Nat) (ps : List Addr) : Prop := ∀ (i : Nat) q, ps[i]? = some q → H q = some (.tup (spotV x t l w i))
def spSquare (K : PySem.W.Frag) : Sp := fun vs H Q _ => ∃ (a b : Addr) (l r c x y z n : Int), vs = [.ref a, .ref b, .int n] ∧ SqT K H a [.int l, .int r, .int c] ∧ SqT K H b [.int x, .int y, .int z] ∧
  (0 ≤ y ∧ y < r ∧ r ≤ 1000000000000) ∧ (0 ≤ z ∧ z < c ∧ c ≤ 1000000000000) ∧ (0 ≤ n ∧ n ≤ 1000000000000000) ∧ (n ≤ 3 ∨ r ≤ 6) ∧ (n ≤ 3 ∨ c ≤ 6) ∧
  ∀ (p : Addr) (ps : List Addr) (H' : Hp), Same H H' → H' p = some (.lst (ps.map V.ref)) → ps.length = wd r y n * wd c z n → Good H' x (lo y n) (lo z n) (wd c z n) ps → Q (.ref p) H'
def Prices (H : Hp) (pr vi : Addr) (L : Int) : Prop := ∃ (ps : List Addr) (n : Nat), H pr = some (.lst (ps.map V.ref)) ∧ (ps.length : Int) = L ∧ (∀ a ∈ ps, H a = some (.tup [.int 1, .int 1])) ∧ H vi = some (.lst (List.replicate n (.int 1))) ∧ (n : Int) = L - 1
theorem Prices.same {H H' : Hp} {pr vi : Addr} {L : Int} (h : Prices H pr vi L) (s : Same H H') : Prices H' pr vi L := by
  obtain ⟨ps, n, h1, h2, h3, h4, h5⟩ := h
  exact ⟨ps, n, s _ _ h1, h2, fun a ha => s _ _ (h3 a ha), s _ _ h4, h5⟩
def spCSizes : Sp := fun vs H Q _ => ∃ (z pr vi : Addr) (L R C : Int), vs = [.ref z, .ref pr, .ref vi] ∧ T3 H z L R C ∧ Szs L R C ∧ Prices H pr vi L ∧ ∀ H', Same H H' → Q .non H'
def spCPrice : Sp := fun vs H Q _ => ∃ x m : Int, vs = [.int x, .int m] ∧ m ≤ x ∧ x ≤ 1000000000000 ∧ Q .non H
def spCPrices : Sp := fun vs H Q _ => ∃ (pr vi d : Addr) (L : Int), vs = [.ref pr, .ref vi, .ref d] ∧ Prices H pr vi L ∧ H d = some (.dT []) ∧ ∀ H', Same H H' → Q .non H'
def spCInside : Sp := fun vs H Q _ => ∃ (a b : Addr) (L R C l r c : Int), vs = [.ref a, .ref b] ∧ T3 H a L R C ∧ T3 H b l r c ∧ Ins L R C l r c ∧ Q .non H
def spFInit (cF : Addr) : Sp := fun vs H Q _ => ∃ (p dx z pr vi ro : Addr) (L R C : Int) (as : List Addr) (rs : List Sp3), vs = [.ref p, .ref z, .ref pr, .ref vi, .ref ro, .non] ∧ H p = some (.ins cF dx []) ∧ T3 H z L R C ∧ Szs L R C ∧ Prices H pr vi L ∧
  H ro = some (.lst (as.map V.ref)) ∧ Spots H as rs ∧ (∀ q ∈ rs, Ins L R C q.1 q.2.1 q.2.2) ∧ rs.length ≤ 63 ∧ ∀ H', ButP H H' p → Fl cF H' p L R C rs → Q .non H'
def spIsRock (cF : Addr) : Sp := fun vs H Q _ => ∃ (p b : Addr) (L R C : Int) (rs : List Sp3) (q : Sp3), vs = [.ref p, .ref b] ∧ Fl cF H p L R C rs ∧ H b = some (.tup (tp q)) ∧ Ins L R C q.1 q.2.1 q.2.2 ∧ Q (.bl (decide (q ∈ rs))) H
def spFits (cN cB cF : Addr) : Sp := fun vs H Q _ => ∃ (p t b : Addr) (L R C : Int) (rs : List Sp3) (half room : Int) (q : Sp3), vs = [.ref p, .ref t, .ref b] ∧ Fl cF H p L R C rs ∧ Szs L R C ∧ Th cN cB H t half room ∧ 0 ≤ half ∧ half ≤ 2 ∧ H b = some (.tup (tp q)) ∧
  ∀ (H' : Hp) (k : Bool), Same H H' → (k = true ↔ Fit L R C rs half q.1 q.2.1 q.2.2) → Q (.bl k) H'
def spSizes : Sp := fun vs H Q _ => ∃ n : Int, vs = [.int n] ∧ ∀ z L R C, H z = none → Szs L R C → Q (.ref z) (upd H z (.tup [.int L, .int R, .int C]))
def spRocks (K : PySem.W.Frag) : Sp := fun vs H Q _ => ∃ (a z : Addr) (ns : List Int) (L R C : Int), vs = [.ref a, .ref z] ∧ SqL K H a (ns.map V.int) ∧ ns.length ≤ 63 ∧ T3 H z L R C ∧ Szs L R C ∧
  ∀ (H' : Hp) (p : Addr) (as : List Addr) (rs : List Sp3), Same H H' → H' p = some (.lst (as.map V.ref)) → Spots H' as rs → (∀ q ∈ rs, Ins L R C q.1 q.2.1 q.2.2) → rs.length ≤ 63 → Q (.ref p) H'
def spMarks : Sp := fun vs H Q _ => ∃ (l : Addr) (as : List Addr) (rs : List Sp3), vs = [.ref l] ∧ H l = some (.lst (as.map V.ref)) ∧ Spots H as rs ∧ rs.length ≤ 63 ∧ ∀ (H' : Hp) (d : Addr) kvs, Same H H' → H' d = some (.dT kvs) → DR kvs rs → Q (.ref d) H'
def spDue : Sp := fun vs H Q _ => ∃ (z d b : Addr) (L R C half : Int) (kvs : List (List Key × V)) (rs : List Sp3) (q : Sp3), vs = [.ref z, .ref d, .int half, .ref b] ∧ T3 H z L R C ∧ H d = some (.dT kvs) ∧ DR kvs rs ∧ 0 ≤ half ∧ half ≤ 2 ∧ H b = some (.tup (tp q)) ∧ Near q ∧
  ∀ (H' : Hp) (k : Bool), Same H H' → (k = true ↔ Fit L R C rs half q.1 q.2.1 q.2.2) → Q (.bl k) H'
def spAsked (K : PySem.W.Frag) : Sp := fun vs H Q _ => ∃ (a z l : Addr) (ns : List Int) (L R C half : Int) (as : List Addr) (rs : List Sp3), vs = [.ref a, .ref z, .ref l, .int half] ∧ SqL K H a (ns.map V.int) ∧ ns.length ≤ 63 ∧ T3 H z L R C ∧ Szs L R C ∧ H l = some (.lst (as.map V.ref)) ∧ Spots H as rs ∧
  (∀ q ∈ rs, Ins L R C q.1 q.2.1 q.2.2) ∧ 0 ≤ half ∧ half ≤ 2 ∧ ∀ (H' : Hp) (p : Addr) (bs : List Addr) (qs : List Sp3), Same H H' → H' p = some (.lst (bs.map V.ref)) → Spots H' bs qs → (∀ q ∈ qs, Near q) → Q (.ref p) H'
def spLaw (K : PySem.W.Frag) : Sp := fun vs H Q _ => ∃ (a : Addr) (ns : List Int), vs = [.ref a] ∧ SqL K H a (ns.map V.int) ∧ ns.length ≤ 63 ∧ ∀ H', Q (.bl true) H'
theorem setok_net : SetOk [[0, 0, 0], [0, 0, 1]] := by unfold SetOk; decide +kernel
theorem if_T {t : TT} {ta tb : TE} {σ : St} {H : Hp} {Q : VK} (h : EvT t σ H true) (q : ta σ H Q) : tIf t ta tb σ H Q := h _ (iteT q)
theorem if_F {t : TT} {ta tb : TE} {σ : St} {H : Hp} {Q : VK} (h : EvT t σ H false) (q : tb σ H Q) : tIf t ta tb σ H Q := h _ (iteF q)
theorem same_thaw {H : Hp} {d : Addr} {o : Obj} {u : HO} (e : H d = some u) : Same H (upd (upd H d (.frz o u)) d u) := fun b v z => by
  by_cases hb : b = d
  · subst hb; rw [upd_same, ← e, z]
  · rw [upd_ne hb, upd_ne hb]; exact z
theorem et_orF {t1 t2 : TT} {b : Bool} {σ : St} {H : Hp} (h : EvT t1 σ H false) (h2 : EvT t2 σ H b) : EvT (tOr t1 t2) σ H b := fun Q q => h _ (iteF (h2 _ q))
theorem et_notF {tc : TT} {σ : St} {H : Hp} (h : EvT tc σ H true) : EvT (tNot tc) σ H false := fun _ q => h _ q
theorem et_of {tc : TT} {σ : St} {H : Hp} {b c : Bool} (h : EvT tc σ H b) (e : b = c) : EvT tc σ H c := e ▸ h
theorem ev_of {te : TE} {σ : St} {H : Hp} {v c : V} (h : Ev te σ H v) (e : v = c) : Ev te σ H c := e ▸ h
theorem ev_fldT {ta : TE} {K : PySem.W.Frag} {σ : St} {H : Hp} {p C dx : Addr} {fs : List (Str × V)} {f : Str} {v : V} (h : Ev ta σ H (.ref p)) (e : H p = some (.ins C dx fs)) (c : Cls K C) (n : NoAttr K C f) (l : fs.lookup f = some v) : Ev (tFld K ta f) σ H v := fun _ q => h _ ⟨p, C, dx, fs, v, rfl, e, c, n, l, q⟩
theorem pair_app {H : Hp} {as bs : List Addr} {cs ds : List (List Int)} (h : Tups H as cs) (g : Tups H bs ds) : Tups H (as ++ bs) (cs ++ ds) := by
  induction h with
  | nil => exact g
  | cons r _ ih => exact .cons r ih
theorem same_make {H : Hp} {p dx C : Addr} (np : H p = none) (ndx : H dx = none) : Same H (upd (upd H dx (.own p)) p (.ins C dx [])) := fun b o e => by
  rw [upd_ne (ne_of_none e np), upd_ne (ne_of_none e ndx)]; exact e
theorem ButP.same {H H1 H2 : Hp} {p : Addr} (s : Same H H1) (n : H p = none) (b : ButP H1 H2 p) : Same H H2 := fun a o e => b a o (ne_of_none e n) (s a o e)
theorem not_fit1 {L R C h l r c : Int} {rs : List Sp3} (h0 : 0 ≤ h) (n : ¬ Ins L R C l (r - h) (c - h)) : ¬ Fit L R C rs h l r c := fun f => n (f (r - h) (c - h) (by omega) (by omega) (by omega) (by omega)).1
theorem not_fit2 {L R C h l r c : Int} {rs : List Sp3} (h0 : 0 ≤ h) (n : ¬ Ins L R C l (r + h) (c + h)) : ¬ Fit L R C rs h l r c := fun f => n (f (r + h) (c + h) (by omega) (by omega) (by omega) (by omega)).1
theorem lo_eq {p n : Int} (h : 0 ≤ p - n) : lo p n = p - n := by unfold lo mx; split <;> omega
theorem hi_eq {m p n : Int} (h : p + n < m) : hi m p n = p + n := by unfold hi mn; split <;> omega
theorem wd_sq {m p n : Int} (h0 : 0 ≤ n) (h1 : 0 ≤ p - n) (h2 : p + n < m) : ((wd m p n : Nat) : Int) = 2 * n + 1 := by unfold wd; rw [lo_eq h1, hi_eq h2]; omega
def sq3 (l t f : Int) (w i : Nat) : Sp3 := (l, t + (i / w : Nat), f + (i % w : Nat))
theorem fit_sq {L R C h l r c : Int} {rs : List Sp3} {w : Nat} (hw : (w : Int) = 2 * h + 1) (i1 : Ins L R C l (r - h) (c - h)) (i2 : Ins L R C l (r + h) (c + h)) :
    Fit L R C rs h l r c ↔ ∀ i < w * w, sq3 l (r - h) (c - h) w i ∉ rs := by
  constructor
  · intro f i hi
    obtain ⟨d1, d2⟩ := spot_in hi
    have d3 : (0 : Int) ≤ ((i / w : Nat) : Int) := Int.natCast_nonneg _
    have d4 : (0 : Int) ≤ ((i % w : Nat) : Int) := Int.natCast_nonneg _
    exact (f (r - h + (i / w : Nat)) (c - h + (i % w : Nat)) (by omega) (by omega) (by omega) (by omega)).2
  · intro f r' c' h1 h2 h3 h4
    obtain ⟨a1, a2, a3, a4, a5, a6⟩ := i1
    obtain ⟨b1, b2, b3, b4, b5, b6⟩ := i2
    refine ⟨⟨a1, a2, by omega, by omega, by omega, by omega⟩, ?_⟩
    obtain ⟨j, hj⟩ := Int.eq_ofNat_of_zero_le (show 0 ≤ r' - (r - h) by omega)
    obtain ⟨k, hk⟩ := Int.eq_ofNat_of_zero_le (show 0 ≤ c' - (c - h) by omega)
    have hkw : k < w := by omega
    have hjw : j < w := by omega
    have hlt : j * w + k < w * w := by
      have : (j + 1) * w ≤ w * w := Nat.mul_le_mul_right w hjw
      rw [Nat.add_mul, Nat.one_mul] at this
      omega
    have := f (j * w + k) hlt
    obtain ⟨e1, e2⟩ := div_at (j := j) hkw
    unfold sq3 at this
    rw [e1, e2, show r - h + ((j : Nat) : Int) = r' by omega, show c - h + ((k : Nat) : Int) = c' by omega] at this
    exact this
theorem ins_at {L R C h l r c : Int} {w i : Nat} (hw : (w : Int) = 2 * h + 1) (i1 : Ins L R C l (r - h) (c - h)) (i2 : Ins L R C l (r + h) (c + h)) (hi : i < w * w) :
    Ins L R C (sq3 l (r - h) (c - h) w i).1 (sq3 l (r - h) (c - h) w i).2.1 (sq3 l (r - h) (c - h) w i).2.2 := by
  obtain ⟨d1, d2⟩ := spot_in hi
  have d3 : (0 : Int) ≤ ((i / w : Nat) : Int) := Int.natCast_nonneg _
  have d4 : (0 : Int) ≤ ((i % w : Nat) : Int) := Int.natCast_nonneg _
  obtain ⟨a1, a2, a3, a4, a5, a6⟩ := i1
  obtain ⟨b1, b2, b3, b4, b5, b6⟩ := i2
  refine ⟨a1, a2, ?_, ?_, ?_, ?_⟩
  · show 0 ≤ r - h + ((i / w : Nat) : Int); omega
  · show r - h + ((i / w : Nat) : Int) < R; omega
  · show 0 ≤ c - h + ((i % w : Nat) : Int); omega
  · show c - h + ((i % w : Nat) : Int) < C; omega
theorem ins_b {L R C l r c : Int} : (decide (0 ≤ l) && decide (l < L) && (decide (0 ≤ r) && decide (r < R) && (decide (0 ≤ c) && decide (c < C)))) = decide (Ins L R C l r c) := by
  rw [Bool.eq_iff_iff]
  simp only [Bool.and_eq_true, decide_eq_true_eq]
  unfold Ins
  constructor <;> intro h <;> omega
theorem at_ref {as : List Addr} {i : Nat} {x : V} (h : (as.map V.ref)[i]? = some x) : ∃ a, as[i]? = some a ∧ x = .ref a := by
  rw [List.getElem?_map] at h
  obtain ⟨a, e, z⟩ := Option.map_eq_some_iff.mp h
  exact ⟨a, e, z.symm⟩
theorem ButP.st {H H1 H2 : Hp} {p : Addr} (b : ButP H H1 p) (s : Same H1 H2) : ButP H H2 p := fun a o n e => s _ _ (b a o n e)
theorem ButP.up {H H1 : Hp} {p : Addr} {o : HO} (b : ButP H H1 p) : ButP H (upd H1 p o) p := fun a u n e => by rw [upd_ne n]; exact b a u n e
theorem ButP.of {H H1 : Hp} {p : Addr} (s : Same H H1) : ButP H H1 p := fun a o _ e => s _ _ e
theorem same_at {H0 H' : Hp} {D : Addr} {y : HO} (s : Same H0 H') (nD : H0 D = none) : Same H0 (upd H' D y) := fun b u e => by
  rw [upd_ne (ne_of_none e nD)]; exact s _ _ e
theorem any_iff {f : Nat → Bool} {n : Nat} : (!(((List.range n).map f).any id)) = true ↔ ∀ i < n, f i = false := by
  rw [Bool.not_eq_true', List.any_eq_false]
  constructor
  · intro h i hi
    have := h (f i) (List.mem_map.mpr ⟨i, List.mem_range.mpr hi, rfl⟩)
    simpa using this
  · intro h x hx
    obtain ⟨i, hi, rfl⟩ := List.mem_map.mp hx
    rw [h i (List.mem_range.mp hi)]; simp
theorem take_at {α : Type} {rs : List α} {i : Nat} {p : α} (h : rs[i]? = some p) : rs.take (i + 1) = rs.take i ++ [p] := by rw [List.take_succ, h]; rfl
theorem prs_app {H : Hp} {as bs : List Addr} {cs ds : List (List Key × V)} (h : Prs H as cs) (g : Prs H bs ds) : Prs H (as ++ bs) (cs ++ ds) := by
  induction h with
  | nil => exact g
  | cons r _ ih => exact .cons r ih
theorem Prs.mono {H H' : Hp} {as : List Addr} {cs : List (List Key × V)} (h : Prs H as cs) (s : ∀ b xs, H b = some (.tup xs) → H' b = some (.tup xs)) : Prs H' as cs := Paired.mapP h fun a c ⟨b, e1, e2⟩ => ⟨b, s _ _ e1, s _ _ e2⟩
theorem rd_tup {ta : TA} {σ : St} {H : Hp} {vs : List V} {D : Ends} (h : EvA ta σ H vs) (hz : vs.length ≤ sizeLine) (q : ∀ p, H p = none → D.rt (.ref p) (upd H p (.tup vs))) : tRet (tTup ta) D σ H := h _ ⟨hz, q⟩
theorem te_tup {ta : TA} {σ : St} {H : Hp} {vs : List V} {Q : VK} (h : EvA ta σ H vs) (hz : vs.length ≤ sizeLine) (q : ∀ p, H p = none → Q (.ref p) (upd H p (.tup vs))) : tTup ta σ H Q := h _ ⟨hz, q⟩
theorem ev_din {ty td : TE} {σ : St} {H : Hp} {a : Addr} {y : V} {o : Option V} (ha : Ev ty σ H y) (hb : Ev td σ H (.ref a)) (g : DGet H a y o) : Ev (tDIn ty td) σ H (.bl o.isSome) := fun _ q => ha _ (hb _ ⟨a, o, rfl, g, q⟩)
theorem cut_mem {xs : List V} {lo hi : Option Int} {x : V} {i : Nat} (h : (cutV xs lo hi)[i]? = some x) : x ∈ xs := by
  have h1 := List.mem_of_getElem? h
  unfold cutV at h1
  exact List.mem_of_mem_drop (List.mem_of_mem_take h1)
theorem cut_int {ns : List Int} {lo hi : Option Int} {x : V} {i : Nat} (h : (cutV (ns.map V.int) lo hi)[i]? = some x) : ∃ c, x = .int c := by
  obtain ⟨c, _, e⟩ := List.mem_map.mp (cut_mem h)
  exact ⟨c, e.symm⟩
theorem Spots.mem {H : Hp} {as : List Addr} {rs : List Sp3} (h : Spots H as rs) {a : Addr} (m : a ∈ as) : ∃ p ∈ rs, H a = some (.tup (tp p)) := by
  obtain ⟨i, hi⟩ := List.mem_iff_getElem?.mp m
  obtain ⟨p, h1, h2⟩ := h.at hi
  exact ⟨p, List.mem_of_getElem? h1, h2⟩
theorem Spots.mono {H H' : Hp} {as : List Addr} {rs : List Sp3} (h : Spots H as rs) (s : ∀ b xs, H b = some (.tup xs) → H' b = some (.tup xs)) : Spots H' as rs := Paired.mapP h fun a c e => s _ _ e
theorem fit_of {L R C h l r c : Int} {rs : List Sp3} {w : Nat} (hw : (w : Int) = 2 * h + 1) (f : ∀ j < w, ∀ k < w, Ins L R C l (r - h + (j : Nat)) (c - h + (k : Nat)) ∧ (l, r - h + (j : Nat), c - h + (k : Nat)) ∉ rs) : Fit L R C rs h l r c := by
  intro r' c' h1 h2 h3 h4
  obtain ⟨j, hj⟩ := Int.eq_ofNat_of_zero_le (show 0 ≤ r' - (r - h) by omega)
  obtain ⟨k, hk⟩ := Int.eq_ofNat_of_zero_le (show 0 ≤ c' - (c - h) by omega)
  have := f j (by omega) k (by omega)
  rw [show r - h + ((j : Nat) : Int) = r' by omega, show c - h + ((k : Nat) : Int) = c' by omega] at this
  exact this
theorem not_fit {L R C h l r c : Int} {rs : List Sp3} {w j k : Nat} (hw : (w : Int) = 2 * h + 1) (hj : j < w) (hk : k < w) (n : ¬ (Ins L R C l (r - h + (j : Nat)) (c - h + (k : Nat)) ∧ (l, r - h + (j : Nat), c - h + (k : Nat)) ∉ rs)) : ¬ Fit L R C rs h l r c :=
  fun f => n (f _ _ (by omega) (by omega) (by omega) (by omega))
section
variable {P : Program} {w : World} {K : PySem.W.Frag} {mg : Str → Option Value} {base : Heap}
set_option maxHeartbeats 1000000
theorem ok_Cell {cThing cNet cBundle cFloor cMS : Addr} {f : Addr} {fd : FuncData} (F : Fun K "_law_cell_at" "_law_cell_at" sCell f fd) (T : Txt K mg cThing cNet cBundle cFloor cMS) : FnOk P w K mg base CX0 1 f fd ["script", "k"] (spCell K) := by
  have sc : FnScope ["script", "k"] ["script", "k"] (defScope sCell) := ⟨rfl, rfl, rfl, by decide +kernel, rfl, by decide +kernel, by decide +kernel⟩
  refine F.ok sc (fun vs H Q E h => by repeat (first | (obtain ⟨rfl, _⟩ := h; rfl) | (obtain ⟨_, h⟩ := h))) (fun cdv A outer s H vs Q E hr h => ?_)
  obtain ⟨a, ns, i, rfl, ha, h0, q⟩ := h
  refine ⟨_, (pss_cons (ps_if (pt_cmpR op_lt (pv 1) (pe_callB call_len (by rfl) T.len_ bt_len (pa_cons (pv 0) pa_nil)) (nomark _))
  (pss_one (ps_ret (pe_ix ix_list (pv 0) (pv 1) (fun _ _ => rfl))))
  pss_nil)
  (pss_one (ps_ret pe_int))), ?_⟩
  obtain ⟨j, rfl⟩ := Int.eq_ofNat_of_zero_le h0
  refine rd_if (et_test (ev_I0 (ev_var rfl) (ev_cb (ea_cons (ev_var rfl) ea_nil) fun Q' q' => ⟨_, _, rfl, by first | exact .inl ⟨_, by assumption, rfl⟩ | exact .inl ⟨_, SqL.of (by assumption), rfl⟩ | exact .inr ⟨_, by assumption, rfl⟩ | exact .inr ⟨_, SqT.of (by assumption), rfl⟩, q'⟩))) (fun e => ?_) (fun e => ?_)
  · have hlt : ((j : Nat) : Int) < ((ns.map V.int).length : Int) := of_decide_eq_true e
    rw [List.length_map] at hlt
    have hj : j < ns.length := by omega
    have ec : cellV ns ((j : Nat) : Int) = ns[j] := by unfold cellV; simp [hj]
    rw [ec] at q
    exact rd_ret (ev_ixL (v := .int ns[j]) (ev_var rfl) (ev_var rfl) ha (atI_nat (by simp [hj]))) q
  · have hlt : ¬ ((j : Nat) : Int) < ((ns.map V.int).length : Int) := of_decide_eq_false e
    rw [List.length_map] at hlt
    have ec : cellV ns ((j : Nat) : Int) = 0 := by unfold cellV; simp [show ns.length ≤ j by omega]
    rw [ec] at q
    exact q
theorem ok_Inside {cThing cNet cBundle cFloor cMS : Addr} {f : Addr} {fd : FuncData} (F : Fun K "inside" "inside" sInside f fd) (T : Txt K mg cThing cNet cBundle cFloor cMS) : FnOk P w K mg base CX0 1 f fd ["sizes", "spot"] spInside := by
  have sc : FnScope ["sizes", "spot", "layers", "rows", "columns", "layer", "row", "column"] ["sizes", "spot"] (defScope sInside) := ⟨rfl, rfl, rfl, by decide +kernel, rfl, by decide +kernel, by decide +kernel⟩
  refine F.ok sc (fun vs H Q E h => by repeat (first | (obtain ⟨rfl, _⟩ := h; rfl) | (obtain ⟨_, h⟩ := h))) (fun cdv A outer s H vs Q E hr h => ?_)
  obtain ⟨a, b, L, R, C, l, r, c, rfl, ha, hb, q⟩ := h
  refine ⟨_, (pss_cons (ps_asg (pv 0) (pg_tup rfl (pgs_cons (pg_name (i := 2) sc.nd rfl (Or.inl rfl)) (pgs_cons (pg_name (i := 3) sc.nd rfl (Or.inl rfl)) (pgs_cons (pg_name (i := 4) sc.nd rfl (Or.inl rfl)) pgs_nil)))))
  (pss_cons (ps_asg (pv 1) (pg_tup rfl (pgs_cons (pg_name (i := 5) sc.nd rfl (Or.inl rfl)) (pgs_cons (pg_name (i := 6) sc.nd rfl (Or.inl rfl)) (pgs_cons (pg_name (i := 7) sc.nd rfl (Or.inl rfl)) pgs_nil)))))
  (pss_one (ps_ret (pe_and (pe_chain op_le op_lt pe_int (pv 5) (pv 2)) (pe_and (pe_chain op_le op_lt pe_int (pv 6) (pv 3)) (pe_one (pe_chain op_le op_lt pe_int (pv 7) (pv 4))))))))), ?_⟩
  refine sq_un3 (ev_var rfl) (SqT.of ha) ?_
  refine sq_un3 (ev_var rfl) (SqT.of hb) ?_
  exact rd_ret (ev_of (ev_and (ev_chain ev_c (ev_var rfl) (ev_var rfl)) fun _ => ev_and (ev_chain ev_c (ev_var rfl) (ev_var rfl)) fun _ => ev_chain ev_c (ev_var rfl) (ev_var rfl)) (congrArg V.bl ins_b)) q
theorem ok_Square {cThing cNet cBundle cFloor cMS : Addr} {f : Addr} {fd : FuncData} (F : Fun K "square" "square" sSquare f fd) (T : Txt K mg cThing cNet cBundle cFloor cMS) : FnOk P w K mg base CX0 1 f fd ["sizes", "spot", "reach"] (spSquare K) := by
  have sc : FnScope ["sizes", "spot", "reach", "layer", "row", "column", "top", "bottom", "left", "right", "spots", "one"] ["sizes", "spot", "reach"] (defScope sSquare) := ⟨rfl, rfl, rfl, by decide +kernel, rfl, by decide +kernel, by decide +kernel⟩
  refine F.ok sc (fun vs H Q E h => by repeat (first | (obtain ⟨rfl, _⟩ := h; rfl) | (obtain ⟨_, h⟩ := h))) (fun cdv A outer s H vs Q E hr h => ?_)
  obtain ⟨a, b, l, r, c, x, y, z, n, rfl, ha, hb, ⟨y0, y1, r1⟩, ⟨z0, z1, c1⟩, ⟨n0, n1⟩, m1, m2, q⟩ := h
  refine ⟨_, (pss_cons (ps_asg (pv 1) (pg_tup rfl (pgs_cons (pg_name (i := 3) sc.nd rfl (Or.inr rfl)) (pgs_cons (pg_name (i := 4) sc.nd rfl (Or.inl rfl)) (pgs_cons (pg_name (i := 5) sc.nd rfl (Or.inl rfl)) pgs_nil)))))
  (pss_cons (ps_set (i := 6) sc.nd rfl (Or.inl rfl) (pe_callB (call_max2 rfl) (by rfl) T.max_ bt_max (pa_cons pe_int (pa_cons (pe_op op_sub (pv 4) (pv 2)) pa_nil))))
  (pss_cons (ps_set (i := 7) sc.nd rfl (Or.inl rfl) (pe_callB (call_min2 rfl) (by rfl) T.min_ bt_min (pa_cons (pe_op op_sub (pe_ix ix_tup (pv 0) pe_int (fun _ _ => rfl)) pe_int) (pa_cons (pe_op op_add (pv 4) (pv 2)) pa_nil))))
  (pss_cons (ps_set (i := 8) sc.nd rfl (Or.inl rfl) (pe_callB (call_max2 rfl) (by rfl) T.max_ bt_max (pa_cons pe_int (pa_cons (pe_op op_sub (pv 5) (pv 2)) pa_nil))))
  (pss_cons (ps_set (i := 9) sc.nd rfl (Or.inl rfl) (pe_callB (call_min2 rfl) (by rfl) T.min_ bt_min (pa_cons (pe_op op_sub (pe_ix ix_tup (pv 0) pe_int (fun _ _ => rfl)) pe_int) (pa_cons (pe_op op_add (pv 5) (pv 2)) pa_nil))))
  (pss_cons (ps_set (i := 10) sc.nd rfl (Or.inl rfl) (pe_lst pa_nil))
  (pss_cons (ps_for PassesOwn.never rfl (pi_range2 (by rfl) T.range_ (pa_cons (pv 6) (pa_cons (pe_op op_add (pv 7) pe_int) pa_nil))) (pg_name (i := 11) sc.nd rfl (Or.inr rfl))
  (pss_one (ps_expr (pe_bm PySem.F.plainAttrs_list PySem.F.slot_list_extend PySem.F.type_list_extend mt_extend (pv 10) (pa_cons (pe_lc (ls := ["two"]) (ys := ["layer", "one"]) (ix := [3, 11]) rfl ⟨rfl, by rfl, by rfl, by rfl, by rfl, rfl⟩ (pi_range2 (by rfl) T.range_ (pa_cons (pv 8) (pa_cons (pe_op op_add (pv 9) pe_int) pa_nil))) (fun _ _ _ _ _ => (pg_name (i := 0) (show (["two", "layer", "one"] : List Str).Nodup by decide +kernel) rfl (Or.inl rfl))) (fun _ _ _ _ _ => pf_nil) (fun _ _ _ _ _ => (pe_tup (pa_cons (pv 1) (pa_cons (pv 2) (pa_cons (pv 0) pa_nil)))))) pa_nil)))))
  (pss_one (ps_ret (pv 10)))))))))), ?_⟩
  refine sq_un3 (ev_var rfl) hb ?_
  refine sq_set (v := .int (lo y n)) (ev_cb (ea_cons ev_c (ea_cons (ev_I0 (ev_var rfl) (ev_var rfl)) ea_nil)) fun Q' q' => ⟨_, _, rfl, q'⟩) ?_
  refine sq_set (v := .int (hi r y n)) (ev_cb (ea_cons (ev_I0 (ev_ixT (ev_var rfl) ev_c ha rfl) ev_c) (ea_cons (ev_I0 (ev_var rfl) (ev_var rfl)) ea_nil)) fun Q' q' => ⟨_, _, rfl, q'⟩) ?_
  refine sq_set (v := .int (lo z n)) (ev_cb (ea_cons ev_c (ea_cons (ev_I0 (ev_var rfl) (ev_var rfl)) ea_nil)) fun Q' q' => ⟨_, _, rfl, q'⟩) ?_
  refine sq_set (v := .int (hi c z n)) (ev_cb (ea_cons (ev_I0 (ev_ixT (ev_var rfl) ev_c ha rfl) ev_c) (ea_cons (ev_I0 (ev_var rfl) (ev_var rfl)) ea_nil)) fun Q' q' => ⟨_, _, rfl, q'⟩) ?_
  have by1 := lo_hi y0 y1 n0
  have bz1 := lo_hi z0 z1 n0
  have wy := wd_le y0 y1 n0 m1
  have wz := wd_le z0 z1 n0 m2
  refine ⟨Nat.zero_le _, fun pS nS => ?_⟩
  refine ⟨_, rfl, _, rfl, _, _, rfl, rfl, _, _, rfl, ⟨by omega, by omega, by omega, by omega⟩, ?_⟩
  refine for_range (n := wd r y n) (fun j σ H2 => ∃ (o : Option V) (ps : List Addr), σ = [some (.ref a), some (.ref b), some (.int n), some (.int x), some (.int y), some (.int z), some (.int (lo y n)), some (.int (hi r y n)), some (.int (lo z n)), some (.int (hi c z n)), some (.ref pS), o] ∧
      Same H H2 ∧ H2 pS = some (.lst (ps.map V.ref)) ∧ ps.length = j * wd c z n ∧ Good H2 x (lo y n) (lo z n) (wd c z n) ps)
    ⟨none, [], rfl, (Same.refl H).upd nS, upd_same, (by simp), fun i q h => nomatch h⟩ ?_ ?_
  · rintro j σ H2 hj ⟨o, ps, rfl, s2, hp, hlen, hg⟩
    refine ⟨_, rfl, .inl ⟨rfl, _, SqL.of hp⟩, ?_⟩
    refine ⟨_, rfl, _, rfl, _, _, rfl, rfl, _, _, rfl, ⟨by omega, by omega, by omega, by omega⟩, fun D nD => ?_⟩
    have hjw : j * wd c z n ≤ 6 * 7 := Nat.mul_le_mul (by omega) wz
    refine lc_range (n := wd c z n) (fun i τ H3 => ∃ (o : Option V) (rs : List Addr), τ = [o, some (.int x), some (.int (lo y n + j))] ∧ Same H2 H3 ∧ H3 D = some (.lst (rs.map V.ref)) ∧ rs.length = i ∧
        ∀ (k : Nat) q, rs[k]? = some q → H3 q = some (.tup [.int x, .int (lo y n + j), .int (lo z n + k)]) )
      ⟨none, [], rfl, (Same.refl H2).upd nD, upd_same, rfl, fun i q h => nomatch h⟩ ?_ ?_
    · rintro i τ H3 hi ⟨o3, rs, rfl, s3, hD, hrl, hrg⟩
      refine ⟨_, rfl, _, rfl, _, rfl, (by show 3 ≤ sizeLine; decide), fun pt nt => ?_⟩
      have hDt : D ≠ pt := ne_of_none hD nt
      refine ⟨_, (by rw [upd_ne hDt]; exact hD), (by rw [List.length_map, hrl]; exact Nat.lt_of_lt_of_le hi (Nat.le_trans wz (by decide))), _, rs ++ [pt], rfl, ?_, ?_, ?_, ?_⟩
      · intro bb ob e
        by_cases hb : bb = D
        · subst hb
          rw [nD] at e; cases e
        · rw [upd_ne hb, upd_ne (ne_of_none (s3 _ _ e) nt)]
          exact s3 _ _ e
      · rw [upd_same, List.map_append]; rfl
      · rw [List.length_append, hrl]; rfl
      · intro k qq hk
        have hne : ∀ q', (upd H3 pt (.tup [.int x, .int (lo y n + j), .int (lo z n + i)])) q' = some (.tup [.int x, .int (lo y n + j), .int (lo z n + k)]) → upd (upd H3 pt (.tup [.int x, .int (lo y n + j), .int (lo z n + i)])) D (.lst (rs.map V.ref ++ [.ref pt])) q' = some (.tup [.int x, .int (lo y n + j), .int (lo z n + k)]) := fun q' e => by
          have : q' ≠ D := by
            rintro rfl
            rw [upd_ne hDt, hD] at e
            cases e
          rw [upd_ne this]; exact e
        by_cases hkl : k < rs.length
        · rw [List.getElem?_append_left hkl] at hk
          have := hrg k qq hk
          exact hne _ (by rw [upd_ne (ne_of_none this nt)]; exact this)
        · rw [List.getElem?_append_right (by omega)] at hk
          have hk0 : k - rs.length = 0 := by
            cases e : k - rs.length with
            | zero => rfl
            | succ m => rw [e] at hk; cases hk
          rw [hk0] at hk
          have : pt = qq := Option.some.inj hk
          subst this
          have hki : k = i := by omega
          subst hki
          exact hne _ upd_same
    · rintro τ H3 ⟨o3, rs, rfl, s3, hD, hrl, hrg⟩
      have hp3 := s3 _ _ hp
      refine ⟨pS, D, _, _, rfl, rfl, hp3, hD, (by rw [List.length_map, List.length_map, hlen, hrl]; exact Nat.le_trans (Nat.add_le_add hjw wz) (by decide)), ?_⟩
      have hne : ∀ q' xs, H3 q' = some (.tup xs) → upd H3 pS (.lst (ps.map V.ref ++ rs.map V.ref)) q' = some (.tup xs) := fun q' xs e => by
        have : q' ≠ pS := by
          rintro rfl
          rw [hp3] at e; cases e
        rw [upd_ne this]; exact e
      refine ⟨_, ps ++ rs, rfl, ?_, ?_, ?_, ?_⟩
      · intro bb ob e
        have hb : bb ≠ pS := ne_of_none e nS
        rw [upd_ne hb]
        exact s3 _ _ (s2 _ _ e)
      · rw [upd_same, List.map_append]
      · rw [List.length_append, hlen, hrl, Nat.add_mul, Nat.one_mul]
      · intro k qq hk
        by_cases hkl : k < ps.length
        · rw [List.getElem?_append_left hkl] at hk
          exact hne _ _ (s3 _ _ (hg k qq hk))
        · rw [List.getElem?_append_right (by omega)] at hk
          have hkr : k - ps.length < rs.length := (List.getElem?_eq_some_iff.mp hk).1
          have hkw : k - ps.length < wd c z n := by omega
          have := hrg _ qq hk
          have e := div_at (j := j) hkw
          have ek : j * wd c z n + (k - ps.length) = k := by omega
          rw [ek] at e
          refine hne _ _ ?_
          rw [this]
          unfold spotV
          rw [e.1, e.2]
  · rintro σ H2 ⟨o, ps, rfl, s2, hp, hlen, hg⟩
    exact ⟨_, rfl, q pS ps H2 s2 hp hlen hg⟩
theorem ok_CSizes {cThing cNet cBundle cFloor cMS : Addr} {f : Addr} {fd : FuncData} (F : Fun K "check_sizes" "check_sizes" sCSizes f fd) (hB : K.In base) (T : Txt K mg cThing cNet cBundle cFloor cMS) : FnOk P w K mg base CX0 1 f fd ["sizes", "prices", "vias"] spCSizes := by
  have sc : FnScope ["sizes", "prices", "vias", "size", "most"] ["sizes", "prices", "vias"] (defScope sCSizes) := ⟨rfl, rfl, rfl, by decide +kernel, rfl, by decide +kernel, by decide +kernel⟩
  refine F.ok sc (fun vs H Q E h => by repeat (first | (obtain ⟨rfl, _⟩ := h; rfl) | (obtain ⟨_, h⟩ := h))) (fun cdv A outer s H vs Q E hr h => ?_)
  obtain ⟨z, pr, vi, L, R, C, rfl, hz, sz, hp, q⟩ := h
  refine ⟨_, (pss_cons (ps_for PassesOwn.never rfl (pi_zipT (by rfl) T.zip_ (pa_cons (pv 0) (pa_cons (pe_const (by rfl) (by exact T.g_MOST_SIZES)) pa_nil))) (pg_tup rfl (pgs_cons (pg_name (i := 3) sc.nd rfl (Or.inl rfl)) (pgs_cons (pg_name (i := 4) sc.nd rfl (Or.inl rfl)) pgs_nil)))
  (pss_one (ps_if (pt_not (pt_chain op_le op_le pe_int (pv 3) (pv 4)))
  (pss_one ps_never)
  pss_nil)))
  (pss_cons (ps_if (pt_cmpR op_ne (pe_callB call_len (by rfl) T.len_ bt_len (pa_cons (pv 1) pa_nil)) (pe_ix ix_tup (pv 0) pe_int (fun _ _ => rfl)) (nomark _))
  (pss_one ps_never)
  pss_nil)
  (pss_one (ps_if (pt_cmpR op_ne (pe_callB call_len (by rfl) T.len_ bt_len (pa_cons (pv 2) pa_nil)) (pe_op op_sub (pe_ix ix_tup (pv 0) pe_int (fun _ _ => rfl)) pe_int) (nomark _))
  (pss_one ps_never)
  pss_nil)))), ?_⟩
  refine ⟨_, rfl, z, cMS, rfl, ⟨_, SqT.of hz⟩, ⟨_, T.t_MOST_SIZES _⟩, ?_⟩
  refine for_zipT (K := K) (xs := [.int L, .int R, .int C]) (ys := [.int 4, .int 16, .int 16]) rfl (fun i σ H' => ∃ x3 x4 : Option V, σ = [some (.ref z), some (.ref pr), some (.ref vi), x3, x4] ∧ Same H H') ⟨none, none, rfl, Same.refl H⟩ (fun i σ H' _ ⟨_, _, _, s⟩ => ⟨SqT.of (s _ _ hz), T.t_MOST_SIZES _⟩) ?_ ?_
  · rintro i x y p σ H2 hx hy np ⟨x3, x4, rfl, s2⟩
    obtain ⟨n, m, rfl, rfl, n1, n2⟩ : ∃ n m : Int, x = .int n ∧ y = .int m ∧ 1 ≤ n ∧ n ≤ m := by
      match i, hx, hy with
      | 0, hx, hy => exact ⟨L, 4, (Option.some.inj hx).symm, (Option.some.inj hy).symm, sz.l0, sz.l1⟩
      | 1, hx, hy => exact ⟨R, 16, (Option.some.inj hx).symm, (Option.some.inj hy).symm, sz.r0, sz.r1⟩
      | 2, hx, hy => exact ⟨C, 16, (Option.some.inj hx).symm, (Option.some.inj hy).symm, sz.c0, sz.c1⟩
    refine ⟨p, _, rfl, SqT.of upd_same, rfl, _, _, rfl, _, _, rfl, rfl, ?_⟩
    exact rd_ifF (et_notF (et_of (et_test (ev_chain ev_c (ev_var rfl) (ev_var rfl))) (by rw [decide_eq_true n1, decide_eq_true n2]; rfl))) rfl ⟨_, _, rfl, s2.upd np⟩
  · rintro σ H2 ⟨x3, x4, rfl, s2⟩
    obtain ⟨ps, n, h1, h2, h3, h4, h5⟩ := hp.same s2
    have hz2 := s2 _ _ hz
    refine st ?_
    refine sq_ifF (et_of (et_test (ev_neI (ev_cb (ea_cons (ev_var rfl) ea_nil) fun Q' q' => ⟨_, _, rfl, .inl ⟨_, SqL.of h1, rfl⟩, q'⟩) (ev_ixT (v := .int L) (ev_var rfl) ev_c (SqT.of hz2) rfl))) (by rw [List.length_map, decide_eq_true h2]; rfl)) rfl ?_
    exact rd_ifF (et_of (et_test (ev_neI (ev_cb (ea_cons (ev_var rfl) ea_nil) fun Q' q' => ⟨_, _, rfl, .inl ⟨_, SqL.of h4, rfl⟩, q'⟩) (ev_I0 (ev_ixT (v := .int L) (ev_var rfl) ev_c (SqT.of hz2) rfl) ev_c))) (by rw [List.length_replicate, decide_eq_true h5]; rfl)) rfl (q _ s2)
theorem ok_CPrice {cThing cNet cBundle cFloor cMS : Addr} {f : Addr} {fd : FuncData} (F : Fun K "check_price" "check_price" sCPrice f fd) (hB : K.In base) (T : Txt K mg cThing cNet cBundle cFloor cMS) : FnOk P w K mg base CX0 1 f fd ["price", "least"] spCPrice := by
  have sc : FnScope ["price", "least"] ["price", "least"] (defScope sCPrice) := ⟨rfl, rfl, rfl, by decide +kernel, rfl, by decide +kernel, by decide +kernel⟩
  refine F.ok sc (fun vs H Q E h => by repeat (first | (obtain ⟨rfl, _⟩ := h; rfl) | (obtain ⟨_, h⟩ := h))) (fun cdv A outer s H vs Q E hr h => ?_)
  obtain ⟨x, m, rfl, h1, h2, q⟩ := h
  refine ⟨_, (pss_one (ps_if (pt_not (pt_chain op_le op_le (pv 1) (pv 0) (pe_const (by rfl) (by exact T.g_MOST_PRICE))))
  (pss_one ps_never)
  pss_nil)), ?_⟩
  exact rd_ifF (et_notF (et_of (et_test (ev_chain (ev_var rfl) (ev_var rfl) ev_c)) (by rw [decide_eq_true h1, decide_eq_true h2]; rfl))) rfl q
theorem ok_CPrices {cThing cNet cBundle cFloor cMS : Addr} {f : Addr} {fd : FuncData} (F : Fun K "check_prices" "check_prices" sCPrices f fd) (T : Txt K mg cThing cNet cBundle cFloor cMS) (gCPrice : Callee P w K mg base "check_price" 1 ["price", "least"] spCPrice) : FnOk P w K mg base CX0 2 f fd ["prices", "vias", "tolls"] spCPrices := by
  have sc : FnScope ["prices", "vias", "tolls", "ahead", "across", "price", "toll"] ["prices", "vias", "tolls"] (defScope sCPrices) := ⟨rfl, rfl, rfl, by decide +kernel, rfl, by decide +kernel, by decide +kernel⟩
  refine F.ok sc (fun vs H Q E h => by repeat (first | (obtain ⟨rfl, _⟩ := h; rfl) | (obtain ⟨_, h⟩ := h))) (fun cdv A outer s H vs Q E hr h => ?_)
  obtain ⟨pr, vi, d, L, rfl, ⟨ps, n, h1, h2, h3, h4, h5⟩, hd, q⟩ := h
  refine ⟨_, (pss_cons (ps_for PassesOwn.never rfl (pi_list (pv 0)) (pg_tup rfl (pgs_cons (pg_name (i := 3) sc.nd rfl (Or.inl rfl)) (pgs_cons (pg_name (i := 4) sc.nd rfl (Or.inl rfl)) pgs_nil)))
  (pss_cons (ps_expr (pe_cal gCPrice (hr.mono (by decide)) (by rfl) (pa_cons (pv 3) (pa_cons pe_int pa_nil))))
  (pss_one (ps_expr (pe_cal gCPrice (hr.mono (by decide)) (by rfl) (pa_cons (pv 4) (pa_cons pe_int pa_nil)))))))
  (pss_cons (ps_for PassesOwn.never rfl (pi_list (pv 1)) (pg_name (i := 5) sc.nd rfl (Or.inl rfl))
  (pss_one (ps_expr (pe_cal gCPrice (hr.mono (by decide)) (by rfl) (pa_cons (pv 5) (pa_cons pe_int pa_nil))))))
  (pss_one (ps_frz (ps_for PassesOwn.never rfl (pi_values (pv 2)) (pg_name (i := 6) sc.nd rfl (Or.inl rfl))
  (pss_one (ps_expr (pe_cal gCPrice (hr.mono (by decide)) (by rfl) (pa_cons (pv 6) (pa_cons pe_int pa_nil)))))))))), ?_⟩
  refine ⟨_, rfl, pr, rfl, ⟨_, SqL.of h1⟩, ?_⟩
  refine for_list (K := K) (xs := ps.map V.ref) (fun i σ H' => ∃ x3 x4 : Option V, σ = [some (.ref pr), some (.ref vi), some (.ref d), x3, x4, none, none] ∧ Same H H') ⟨none, none, rfl, Same.refl H⟩ (fun i σ H' _ ⟨_, _, _, s⟩ => SqL.of (s _ _ h1)) ?_ ?_
  · rintro i x σ H2 hx ⟨x3, x4, rfl, s2⟩
    obtain ⟨a, ha, rfl⟩ := at_ref hx
    refine ⟨a, _, rfl, SqT.of (s2 _ _ (h3 a (List.mem_of_getElem? ha))), rfl, _, _, rfl, _, _, rfl, rfl, ?_⟩
    refine ⟨_, rfl, 1, 1, rfl, by decide, by decide, ?_⟩
    exact ⟨_, rfl, 1, 1, rfl, by decide, by decide, _, _, rfl, s2⟩
  · rintro σ H2 ⟨x3, x4, rfl, s2⟩
    refine st ?_
    refine ⟨_, rfl, vi, rfl, ⟨_, SqL.of (s2 _ _ h4)⟩, ?_⟩
    refine for_list (K := K) (xs := List.replicate n (.int 1)) (fun i σ H' => ∃ x5 : Option V, σ = [some (.ref pr), some (.ref vi), some (.ref d), x3, x4, x5, none] ∧ Same H H') ⟨none, rfl, s2⟩ (fun i σ H' _ ⟨_, _, s⟩ => SqL.of (s _ _ h4)) ?_ ?_
    · rintro i x σ H3 hx ⟨x5, rfl, s3⟩
      have ex := List.eq_of_mem_replicate (List.mem_of_getElem? hx)
      subst ex
      refine gn ?_
      exact ⟨_, rfl, 1, 1, rfl, by decide, by decide, _, rfl, s3⟩
    · rintro σ H3 ⟨x5, rfl, s3⟩
      have hd3 := s3 _ _ hd
      refine ⟨d, .dT [], hd3, trivial, fun o => ?_⟩
      refine ⟨_, rfl, d, o, .dT [], rfl, upd_same, trivial, ?_⟩
      refine for_vals (fun i σ H' => σ = [some (.ref pr), some (.ref vi), some (.ref d), x3, x4, x5, none] ∧ H' = upd H3 d (.frz o (.dT []))) ⟨rfl, rfl⟩ (fun i σ H' _ ⟨_, e⟩ => e ▸ upd_same) ?_ ?_
      · exact fun i x v σ H' _ hi => absurd hi (Nat.not_lt_zero _)
      · rintro σ H' ⟨rfl, rfl⟩
        exact ⟨upd_same, q _ (s3.trans (same_thaw hd3))⟩
theorem ok_CInside {cThing cNet cBundle cFloor cMS : Addr} {f : Addr} {fd : FuncData} (F : Fun K "check_inside" "check_inside" sCInside f fd) (hB : K.In base) (T : Txt K mg cThing cNet cBundle cFloor cMS) (gInside : Callee P w K mg base "inside" 1 ["sizes", "spot"] spInside) : FnOk P w K mg base CX0 2 f fd ["sizes", "spot"] spCInside := by
  have sc : FnScope ["sizes", "spot"] ["sizes", "spot"] (defScope sCInside) := ⟨rfl, rfl, rfl, by decide +kernel, rfl, by decide +kernel, by decide +kernel⟩
  refine F.ok sc (fun vs H Q E h => by repeat (first | (obtain ⟨rfl, _⟩ := h; rfl) | (obtain ⟨_, h⟩ := h))) (fun cdv A outer s H vs Q E hr h => ?_)
  obtain ⟨a, b, L, R, C, l, r, c, rfl, ha, hb, hi, q⟩ := h
  refine ⟨_, (pss_one (ps_if (pt_not (pt_val (pe_cal gInside (hr.mono (by decide)) (by rfl) (pa_cons (pv 0) (pa_cons (pv 1) pa_nil)))))
  (pss_one ps_never)
  pss_nil)), ?_⟩
  refine if_of ⟨_, rfl, _, rfl, a, b, L, R, C, l, r, c, rfl, ha, hb, _, rfl, ?_⟩
  rw [decide_eq_true hi]
  exact iteF q
theorem ok_FInit {cThing cNet cBundle cFloor cMS : Addr} {f : Addr} {fd : FuncData} (F : FunD K "__init__" "Floor.__init__" sFInit f fd) (T : Txt K mg cThing cNet cBundle cFloor cMS) (gCSizes : Callee P w K mg base "check_sizes" 1 ["sizes", "prices", "vias"] spCSizes) (gCPrices : Callee P w K mg base "check_prices" 2 ["prices", "vias", "tolls"] spCPrices) (gCInside : Callee P w K mg base "check_inside" 2 ["sizes", "spot"] spCInside) : FnOk P w K mg base CX0 3 f fd ["self", "sizes", "prices", "vias", "rocks", "tolls"] (spFInit cFloor) := by
  have sc : FnScope ["self", "sizes", "prices", "vias", "rocks", "tolls", "told_rocks", "told_tolls", "spot"] ["self", "sizes", "prices", "vias", "rocks", "tolls"] (defScope sFInit) := ⟨rfl, rfl, rfl, by decide +kernel, rfl, by decide +kernel, by decide +kernel⟩
  refine F.ok sc (fun vs H Q E h => by repeat (first | (obtain ⟨rfl, _⟩ := h; rfl) | (obtain ⟨_, h⟩ := h))) (fun cdv A outer s H vs Q E hr h => ?_)
  obtain ⟨p, dx, z, pr, vi, ro, L, R, C, as, rs, rfl, hp, hz, sz, hpr, hro, hsp, hin, hfew, q⟩ := h
  refine ⟨_, (pss_cons (ps_set (i := 6) sc.nd rfl (Or.inl rfl) (pe_ifExp (pt_cmpR op_isN (pv 4) pe_non (nomark _)) (pe_lst pa_nil) (pv 4)))
  (pss_cons (ps_set (i := 7) sc.nd rfl (Or.inl rfl) (pe_ifExp (pt_cmpR op_isN (pv 5) pe_non (nomark _)) pe_dnewT (pv 5)))
  (pss_cons (ps_expr (pe_cal gCSizes (hr.mono (by decide)) (by rfl) (pa_cons (pv 1) (pa_cons (pv 2) (pa_cons (pv 3) pa_nil)))))
  (pss_cons (ps_expr (pe_cal gCPrices (hr.mono (by decide)) (by rfl) (pa_cons (pv 2) (pa_cons (pv 3) (pa_cons (pv 7) pa_nil)))))
  (pss_cons (ps_for PassesOwn.never rfl (pi_list (pv 6)) (pg_name (i := 8) sc.nd rfl (Or.inl rfl))
  (pss_one (ps_expr (pe_cal gCInside (hr.mono (by decide)) (by rfl) (pa_cons (pv 1) (pa_cons (pv 8) pa_nil))))))
  (pss_cons (ps_frz (ps_for PassesOwn.never rfl (pi_keys (pv 7)) (pg_name (i := 8) sc.nd rfl (Or.inl rfl))
  (pss_one (ps_expr (pe_cal gCInside (hr.mono (by decide)) (by rfl) (pa_cons (pv 1) (pa_cons (pv 8) pa_nil)))))))
  (pss_cons (ps_fld (pv 0) (pv 1) rfl)
  (pss_cons (ps_fld (pv 0) (pe_lc (ls := ["ahead", "across"]) (ys := []) (ix := []) rfl ⟨rfl, by rfl, by rfl, by rfl, by rfl, rfl⟩ (pi_list (pv 2)) (fun _ _ _ _ _ => (pg_tupK (K := K) (n := 2) rfl rfl (pgs_cons (pg_name (i := 0) (show (["ahead", "across"] : List Str).Nodup by decide +kernel) rfl (Or.inl rfl) (hf := .inr rfl)) (pgs_cons (pg_name (i := 1) (show (["ahead", "across"] : List Str).Nodup by decide +kernel) rfl (Or.inl rfl) (hf := .inr rfl)) pgs_nil)) rfl rfl)) (fun _ _ _ _ _ => pf_nil) (fun _ _ _ _ _ => (pe_tup (pa_cons (pv 0) (pa_cons (pv 1) pa_nil))))) rfl)
  (pss_cons (ps_fld (pv 0) (pe_callTy call_list_of (by rfl) T.list_ bt_list (pa_cons (pv 3) pa_nil)) rfl)
  (pss_cons (ps_fld (pv 0) (pe_callTy (call_dictPairs rfl hr) (by rfl) T.dict_ bt_dict (pa_cons (pe_lc (ls := ["spot"]) (ys := []) (ix := []) rfl ⟨rfl, by rfl, by rfl, by rfl, by rfl, rfl⟩ (pi_list (pv 6)) (fun _ _ _ _ _ => (pg_name (i := 0) (show (["spot"] : List Str).Nodup by decide +kernel) rfl (Or.inl rfl))) (fun _ _ _ _ _ => pf_nil) (fun _ _ _ _ _ => (pe_tup (pa_cons (pv 0) (pa_cons pe_bl pa_nil))))) pa_nil)) rfl)
  (pss_one (ps_fld (pv 0) (pe_callTy call_dict (by rfl) T.dict_ bt_dict (pa_cons (pv 7) pa_nil)) rfl)))))))))))), ?_⟩
  have hsz : sizeLine = 2 ^ 24 := rfl
  have len : as.length = rs.length := Paired.length hsp
  refine sq_asg (if_F (et_of (et_test (ev_isN (ev_var rfl) ev_c)) (by rfl)) ⟨_, rfl, ?_⟩)
  refine sq_asg (if_T (et_of (et_test (ev_isN (ev_var rfl) ev_c)) (by rfl)) fun d nd => ?_)
  have s1 : Same H (upd H d (.dT [])) := (Same.refl H).upd nd
  have hd : upd H d (.dT []) d = some (.dT []) := upd_same
  have ndp : d ≠ p := Ne.symm (ne_of_none hp nd)
  revert s1 hd
  generalize upd H d (.dT []) = H1
  intro s1 hd
  refine ⟨_, rfl, _, rfl, _, rfl, z, pr, vi, L, R, C, rfl, s1 _ _ hz, sz, hpr.same s1, fun H2 s2 => ?_⟩
  have s12 := s1.trans s2
  refine ⟨_, rfl, _, rfl, _, rfl, pr, vi, d, L, rfl, hpr.same s12, s2 _ _ hd, fun H3 s3 => ?_⟩
  have s13 := s12.trans s3
  refine ⟨_, rfl, ro, rfl, ⟨_, SqL.of (s13 _ _ hro)⟩, ?_⟩
  refine for_list (K := K) (xs := as.map V.ref) (fun i σ H' => ∃ x8 : Option V, σ = [some (.ref p), some (.ref z), some (.ref pr), some (.ref vi), some (.ref ro), some .non, some (.ref ro), some (.ref d), x8] ∧ Same H3 H') ⟨none, rfl, Same.refl H3⟩ (fun i σ H' _ ⟨_, _, s⟩ => SqL.of (s _ _ (s13 _ _ hro))) ?_ ?_
  · rintro i x σ H4 hx ⟨x8, rfl, s4⟩
    obtain ⟨a, ha, rfl⟩ := at_ref hx
    obtain ⟨u, hu, hau⟩ := Spots.at hsp ha
    refine gn ?_
    exact ⟨_, rfl, _, rfl, z, a, L, R, C, u.1, u.2.1, u.2.2, rfl, s4 _ _ (s13 _ _ hz), s4 _ _ (s13 _ _ hau), hin u (List.mem_of_getElem? hu), _, rfl, s4⟩
  rintro σ H4 ⟨x8, rfl, s4⟩
  have hd4 := s4 _ _ (s3 _ _ (s2 _ _ hd))
  refine ⟨d, .dT [], hd4, trivial, fun o => ?_⟩
  refine ⟨_, rfl, d, o, .dT [], rfl, upd_same, trivial, ?_⟩
  refine for_keys (fun i σ H' => σ = [some (.ref p), some (.ref z), some (.ref pr), some (.ref vi), some (.ref ro), some .non, some (.ref ro), some (.ref d), x8] ∧ H' = upd H4 d (.frz o (.dT []))) ⟨rfl, rfl⟩ (fun i σ H' _ ⟨_, e⟩ => e ▸ upd_same) ?_ ?_
  · exact fun i x v σ H' _ hi => absurd hi (Nat.not_lt_zero _)
  rintro σ H5 ⟨rfl, rfl⟩
  refine ⟨upd_same, ?_⟩
  have s5 : Same H4 (upd (upd H4 d (.frz o (.dT []))) d (.dT [])) := same_thaw hd4
  have hd5 : upd (upd H4 d (.frz o (.dT []))) d (.dT []) d = some (.dT []) := upd_same
  revert s5 hd5
  generalize upd (upd H4 d (.frz o (.dT []))) d (.dT []) = H5
  intro s5 hd5
  have s15 := s13.trans (s4.trans s5)
  have hp5 := s15 _ _ hp
  have nzp : z ≠ p := ne_of hz hp (fun z => nomatch z)
  obtain ⟨ps, n, p1, p2, p3, p4, p5⟩ := hpr
  have nprp : pr ≠ p := ne_of p1 hp (fun z => nomatch z)
  have nvip : vi ≠ p := ne_of p4 hp (fun z => nomatch z)
  have nrop : ro ≠ p := ne_of hro hp (fun z => nomatch z)
  refine ⟨_, rfl, _, rfl, p, cFloor, dx, [], rfl, hp5, T.cl_Floor, T.na_Floor_sizes, (by decide), ?_⟩
  have l1 := length_putF "sizes" (.ref z) []
  have k1 := lookup_putF "sizes" "sizes" (.ref z) []
  have m1 := lookup_putF "sizes" "is_rock" (.ref z) []
  rw [if_pos rfl] at k1
  rw [if_neg (by decide +kernel)] at m1
  revert l1 k1 m1
  generalize putF "sizes" (.ref z) [] = f1
  intro l1 k1 m1
  have b6 : ButP H (upd H5 p (.ins cFloor dx f1)) p := (ButP.of s15).up
  have hp6 : upd H5 p (.ins cFloor dx f1) p = some (.ins cFloor dx f1) := upd_same
  have hd6 : upd H5 p (.ins cFloor dx f1) d = some (.dT []) := by rw [upd_ne ndp]; exact hd5
  revert b6 hp6 hd6
  generalize upd H5 p (.ins cFloor dx f1) = H6
  intro b6 hp6 hd6
  refine ⟨_, rfl, pr, rfl, ⟨_, SqL.of (b6 _ _ nprp p1)⟩, fun D nD => ?_⟩
  refine lc_listG (K := K) (xs := ps.map V.ref) (fun i τ H' => ∃ (x0 x1 : Option V) (us : List V), τ = [x0, x1] ∧ Same H6 H' ∧ H' D = some (.lst us) ∧ us.length = i) ⟨none, none, [], rfl, (Same.refl H6).upd nD, upd_same, rfl⟩ (fun i τ H' _ ⟨_, _, _, _, s, _⟩ => SqL.of (s _ _ (b6 _ _ nprp p1))) ?_ ?_
  · rintro i x τ H' hx ⟨x0, x1, us, rfl, s, hD, hul⟩
    obtain ⟨a, ha, rfl⟩ := at_ref hx
    have hi : i < ps.length := (List.getElem?_eq_some_iff.mp ha).1
    have hl4 := sz.l1
    have hap := p3 a (List.mem_of_getElem? ha)
    refine ⟨a, _, rfl, SqT.of (s _ _ (b6 _ _ (ne_of hap hp (fun z => nomatch z)) hap)), rfl, ?_⟩
    refine ⟨_, _, rfl, gn ?_⟩
    refine ⟨_, _, rfl, gn ?_⟩
    refine ⟨rfl, ?_⟩
    refine lc_el ?_
    refine ⟨_, rfl, _, rfl, (by show 2 ≤ sizeLine; decide), fun t nt => ?_⟩
    refine ⟨us, (by rw [upd_ne (ne_of_none hD nt)]; exact hD), by omega, _, _, us ++ [.ref t], rfl, same_at (s.upd nt) nD, upd_same, by simp [hul]⟩
  rintro τ H7 ⟨x0, x1, us, rfl, s7, hD7, _⟩
  have nDp : D ≠ p := Ne.symm (ne_of_none hp6 nD)
  refine ⟨_, rfl, p, cFloor, dx, f1, rfl, s7 _ _ hp6, T.cl_Floor, T.na_Floor_prices, by simp at l1; omega, ?_⟩
  have l2 := length_putF "prices" (.ref D) f1
  have k2 := lookup_putF "prices" "sizes" (.ref D) f1
  have m2 := lookup_putF "prices" "is_rock" (.ref D) f1
  rw [if_neg (by decide +kernel)] at k2
  rw [if_neg (by decide +kernel)] at m2
  rw [k1] at k2
  rw [m1] at m2
  revert l2 k2 m2
  generalize putF "prices" (.ref D) f1 = f2
  intro l2 k2 m2
  have b8 : ButP H (upd H7 p (.ins cFloor dx f2)) p := (b6.st s7).up
  have hp8 : upd H7 p (.ins cFloor dx f2) p = some (.ins cFloor dx f2) := upd_same
  have hd8 : upd H7 p (.ins cFloor dx f2) d = some (.dT []) := by rw [upd_ne ndp]; exact s7 _ _ hd6
  revert b8 hp8 hd8
  generalize upd H7 p (.ins cFloor dx f2) = H8
  intro b8 hp8 hd8
  refine ⟨_, rfl, vi, _, rfl, .inl (SqL.of (b8 _ _ nvip p4)), fun l nl => ?_⟩
  have s9 : Same H8 (upd H8 l (.lst (List.replicate n (.int 1)))) := (Same.refl H8).upd nl
  revert s9
  generalize upd H8 l (.lst (List.replicate n (.int 1))) = H9
  intro s9
  refine ⟨_, rfl, p, cFloor, dx, f2, rfl, s9 _ _ hp8, T.cl_Floor, T.na_Floor_vias, by simp at l1; omega, ?_⟩
  have l3 := length_putF "vias" (.ref l) f2
  have k3' := lookup_putF "vias" "sizes" (.ref l) f2
  have m3 := lookup_putF "vias" "is_rock" (.ref l) f2
  rw [if_neg (by decide +kernel), k2] at k3'
  rw [if_neg (by decide +kernel), m2] at m3
  revert l3 k3' m3
  generalize putF "vias" (.ref l) f2 = f3
  intro l3 k3' m3
  have bA : ButP H (upd H9 p (.ins cFloor dx f3)) p := (b8.st s9).up
  have hpA : upd H9 p (.ins cFloor dx f3) p = some (.ins cFloor dx f3) := upd_same
  have hdA : upd H9 p (.ins cFloor dx f3) d = some (.dT []) := by rw [upd_ne ndp]; exact s9 _ _ hd8
  revert bA hpA hdA
  generalize upd H9 p (.ins cFloor dx f3) = HA
  intro bA hpA hdA
  refine ⟨_, rfl, ro, rfl, ⟨_, SqL.of (bA _ _ nrop hro)⟩, fun D2 nD2 => ?_⟩
  refine lc_listG (K := K) (xs := as.map V.ref) (fun i τ H' => ∃ (x0 : Option V) (es : List Addr), τ = [x0] ∧ Same HA H' ∧ H' D2 = some (.lst (es.map V.ref)) ∧ Prs H' es (kv (rs.take i)) ∧ es.length = i) ⟨none, [], rfl, (Same.refl HA).upd nD2, upd_same, .nil, rfl⟩ (fun i τ H' _ ⟨_, _, _, s, _⟩ => SqL.of (s _ _ (bA _ _ nrop hro))) ?_ ?_
  · rintro i x τ H' hx ⟨x0, es, rfl, s, hD, hes, hel⟩
    obtain ⟨a, ha, rfl⟩ := at_ref hx
    obtain ⟨u, hu, hau⟩ := Spots.at hsp ha
    have hi : i < as.length := (List.getElem?_eq_some_iff.mp ha).1
    refine gn (lc_el ?_)
    refine ⟨_, rfl, (by show 2 ≤ sizeLine; decide), fun t nt => ?_⟩
    have hau' := s _ _ (bA _ _ (ne_of hau hp (fun z => nomatch z)) hau)
    have keep : ∀ b xs, H' b = some (.tup xs) → upd (upd H' t (.tup [.ref a, .bl true])) D2 (.lst (es.map V.ref ++ [.ref t])) b = some (.tup xs) := fun b xs e => by
      rw [upd_ne (ne_of e hD (fun z => nomatch z)), upd_ne (ne_of_none e nt)]; exact e
    have ntD : t ≠ D2 := Ne.symm (ne_of_none hD nt)
    refine ⟨es.map V.ref, (by rw [upd_ne (Ne.symm ntD)]; exact hD), by rw [List.length_map]; omega, _, es ++ [t], rfl, same_at (s.upd nt) nD2, by rw [upd_same, List.map_append]; rfl, ?_, by simp [hel]⟩
    rw [take_at hu]
    unfold kv
    rw [List.map_append]
    exact prs_app (Prs.mono hes keep) (.cons ⟨a, by rw [upd_ne ntD, upd_same], keep _ _ hau'⟩ .nil)
  rintro τ HB ⟨x0', es, rfl, sB, hDB, hes, hel⟩
  rw [List.length_map, len, List.take_length] at hes
  refine ⟨D2, es, kv rs, rfl, hDB, hes, fun rd nrd => ?_⟩
  have sC : Same HB (upd HB rd (.dT (mkD (kv rs)))) := (Same.refl HB).upd nrd
  have hrC : upd HB rd (.dT (mkD (kv rs))) rd = some (.dT (mkD (kv rs))) := upd_same
  have nrdp : rd ≠ p := Ne.symm (ne_of_none (sB _ _ hpA) nrd)
  revert sC hrC
  generalize upd HB rd (.dT (mkD (kv rs))) = HC
  intro sC hrC
  have sAC := sB.trans sC
  refine ⟨_, rfl, p, cFloor, dx, f3, rfl, sAC _ _ hpA, T.cl_Floor, T.na_Floor_rocks, by simp at l1; omega, ?_⟩
  have l4 := length_putF "rocks" (.ref rd) f3
  have k4 := lookup_putF "rocks" "sizes" (.ref rd) f3
  have m4 := lookup_putF "rocks" "is_rock" (.ref rd) f3
  have r4 := lookup_putF "rocks" "rocks" (.ref rd) f3
  rw [if_neg (by decide +kernel), k3'] at k4
  rw [if_neg (by decide +kernel), m3] at m4
  rw [if_pos rfl] at r4
  revert l4 k4 m4 r4
  generalize putF "rocks" (.ref rd) f3 = f4
  intro l4 k4 m4 r4
  have bD : ButP H (upd HC p (.ins cFloor dx f4)) p := (bA.st sAC).up
  have hpD : upd HC p (.ins cFloor dx f4) p = some (.ins cFloor dx f4) := upd_same
  have hdD : upd HC p (.ins cFloor dx f4) d = some (.dT []) := by rw [upd_ne ndp]; exact sAC _ _ hdA
  have hrD : upd HC p (.ins cFloor dx f4) rd = some (.dT (mkD (kv rs))) := by rw [upd_ne nrdp]; exact hrC
  revert bD hpD hdD hrD
  generalize upd HC p (.ins cFloor dx f4) = HD
  intro bD hpD hdD hrD
  refine ⟨_, rfl, d, rfl, .inr ⟨[], .inl hdD, List.nodup_nil, fun t nt => ?_⟩⟩
  have sE : Same HD (upd HD t (.dT [])) := (Same.refl HD).upd nt
  revert sE
  generalize upd HD t (.dT []) = HE
  intro sE
  refine ⟨_, rfl, p, cFloor, dx, f4, rfl, sE _ _ hpD, T.cl_Floor, T.na_Floor_tolls, by simp at l1; omega, ?_⟩
  have k5 := lookup_putF "tolls" "sizes" (.ref t) f4
  have m5 := lookup_putF "tolls" "is_rock" (.ref t) f4
  have r5 := lookup_putF "tolls" "rocks" (.ref t) f4
  rw [if_neg (by decide +kernel), k4] at k5
  rw [if_neg (by decide +kernel), m4] at m5
  rw [if_neg (by decide +kernel), r4] at r5
  refine q _ (bD.st sE).up ⟨dx, z, rd, _, mkD (kv rs), upd_same, k5, r5, m5, ?_, ?_, DR.mk _ rs rfl⟩
  · rw [upd_ne nzp]; exact sE _ _ (bD _ _ nzp hz)
  · rw [upd_ne nrdp]; exact sE _ _ hrD
theorem ok_IsRock {cThing cNet cBundle cFloor cMS : Addr} {f : Addr} {fd : FuncData} (F : Fun K "is_rock" "Floor.is_rock" sIsRock f fd) (T : Txt K mg cThing cNet cBundle cFloor cMS) (gCInside : Callee P w K mg base "check_inside" 2 ["sizes", "spot"] spCInside) : FnOk P w K mg base CX0 3 f fd ["self", "spot"] (spIsRock cFloor) := by
  have sc : FnScope ["self", "spot"] ["self", "spot"] (defScope sIsRock) := ⟨rfl, rfl, rfl, by decide +kernel, rfl, by decide +kernel, by decide +kernel⟩
  refine F.ok sc (fun vs H Q E h => by repeat (first | (obtain ⟨rfl, _⟩ := h; rfl) | (obtain ⟨_, h⟩ := h))) (fun cdv A outer s H vs Q E hr h => ?_)
  obtain ⟨p, b, L, R, C, rs, u, rfl, hf, hb, hi, q⟩ := h
  refine ⟨_, (pss_cons (ps_expr (pe_cal gCInside (hr.mono (by decide)) (by rfl) (pa_cons (pe_fld (pv 0) rfl) (pa_cons (pv 1) pa_nil))))
  (pss_one (ps_ret (pe_cmp (pc_din (Room.one hr) (pv 1) (pe_fld (pv 0) rfl)))))), ?_⟩
  obtain ⟨dx, z, d, fs, kvs, h1, h2, h3, hn, h4, h5, h6⟩ := hf.ex
  refine ⟨_, rfl, p, cFloor, dx, fs, _, rfl, h1, T.cl_Floor, T.na_Floor_sizes, h2, _, rfl, z, b, L, R, C, u.1, u.2.1, u.2.2, rfl, h4, hb, hi, ?_⟩
  refine ⟨_, rfl, _, rfl, p, cFloor, dx, fs, _, rfl, h1, T.cl_Floor, T.na_Floor_rocks, h3, d, _, rfl, DGet.t (k := k3 u) h5 hb, ?_⟩
  rw [h6 u]
  exact q
theorem ok_Fits {cThing cNet cBundle cFloor cMS : Addr} {f : Addr} {fd : FuncData} (F : Fun K "fits" "fits" sFits f fd) (T : Txt K mg cThing cNet cBundle cFloor cMS) (gInside : Callee P w K mg base "inside" 1 ["sizes", "spot"] spInside) (gSquare : Callee P w K mg base "square" 1 ["sizes", "spot", "reach"] (spSquare K)) (gIsRock : MCallee P w K mg base cFloor "is_rock" 3 ["self", "spot"] (spIsRock cFloor)) : FnOk P w K mg base CX0 4 f fd ["floor", "thing", "spot"] (spFits cNet cBundle cFloor) := by
  have sc : FnScope ["floor", "thing", "spot", "layer", "row", "column", "first", "last"] ["floor", "thing", "spot"] (defScope sFits) := ⟨rfl, rfl, rfl, by decide +kernel, rfl, by decide +kernel, by decide +kernel⟩
  refine F.ok sc (fun vs H Q E h => by repeat (first | (obtain ⟨rfl, _⟩ := h; rfl) | (obtain ⟨_, h⟩ := h))) (fun cdv A outer s H vs Q E hr h => ?_)
  obtain ⟨p, t, b, L, R, C, rs, half, room, u, rfl, hf, sz, ⟨C', dx', fs', e1, c1, l1, m1⟩, h0, h2, hb, q⟩ := h
  refine ⟨_, (pss_cons (ps_asg (pv 2) (pg_tup rfl (pgs_cons (pg_name (i := 3) sc.nd rfl (Or.inl rfl)) (pgs_cons (pg_name (i := 4) sc.nd rfl (Or.inl rfl)) (pgs_cons (pg_name (i := 5) sc.nd rfl (Or.inl rfl)) pgs_nil)))))
  (pss_cons (ps_set (i := 6) sc.nd rfl (Or.inl rfl) (pe_tup (pa_cons (pv 3) (pa_cons (pe_op op_sub (pv 4) (pe_fld (pv 1) rfl)) (pa_cons (pe_op op_sub (pv 5) (pe_fld (pv 1) rfl)) pa_nil)))))
  (pss_cons (ps_set (i := 7) sc.nd rfl (Or.inl rfl) (pe_tup (pa_cons (pv 3) (pa_cons (pe_op op_add (pv 4) (pe_fld (pv 1) rfl)) (pa_cons (pe_op op_add (pv 5) (pe_fld (pv 1) rfl)) pa_nil)))))
  (pss_cons (ps_if (pw_or (pt_not (pt_val (pe_cal gInside (hr.mono (by decide)) (by rfl) (pa_cons (pe_fld (pv 0) rfl) (pa_cons (pv 6) pa_nil))))) (pw_or1 (pt_not (pt_val (pe_cal gInside (hr.mono (by decide)) (by rfl) (pa_cons (pe_fld (pv 0) rfl) (pa_cons (pv 7) pa_nil))))))).pt
  (pss_one (ps_ret pe_bl))
  pss_nil)
  (pss_one (ps_ret (pe_not (pe_callB (call_any rfl) (by rfl) T.any_ bt_any (pa_cons (pe_lc (ls := ["near"]) (ys := ["floor"]) (ix := [0]) rfl ⟨rfl, by rfl, by rfl, by rfl, by rfl, rfl⟩ (pi_list (pe_cal gSquare (hr.mono (by decide)) (by rfl) (pa_cons (pe_fld (pv 0) rfl) (pa_cons (pv 2) (pa_cons (pe_fld (pv 1) rfl) pa_nil))))) (fun _ _ _ _ _ => (pg_name (i := 0) (show (["near", "floor"] : List Str).Nodup by decide +kernel) rfl (Or.inl rfl))) (fun _ _ _ _ _ => pf_nil) (fun _ _ _ _ _ => (pe_met (pv 1) (by exact T.cl_Floor) (by exact gIsRock) (by exact (hr.mono (by decide))) (pa_cons (pv 0) pa_nil)))) pa_nil))))))))), ?_⟩
  have hsz : sizeLine = 2 ^ 24 := rfl
  have kc : Cls K C' ∧ NoAttr K C' "half" := by rcases c1 with rfl | rfl <;> first | exact ⟨T.cl_Net, T.na_Net_half⟩ | exact ⟨T.cl_Bundle, T.na_Bundle_half⟩
  refine sq_un3 (ev_var rfl) (SqT.of hb) ?_
  refine sq_tup (vs := [.int u.1, .int (u.2.1 - half), .int (u.2.2 - half)]) (ea_cons (ev_var rfl) (ea_cons (ev_I0 (ev_var rfl) (ev_fldT (ev_var rfl) e1 kc.1 kc.2 l1)) (ea_cons (ev_I0 (ev_var rfl) (ev_fldT (ev_var rfl) e1 kc.1 kc.2 l1)) ea_nil))) (by show 3 ≤ sizeLine; decide) fun a1 n1 => ?_
  have s1 : Same H (upd H a1 (.tup [.int u.1, .int (u.2.1 - half), .int (u.2.2 - half)])) := (Same.refl H).upd n1
  have ha1 : T3 (upd H a1 (.tup [.int u.1, .int (u.2.1 - half), .int (u.2.2 - half)])) a1 u.1 (u.2.1 - half) (u.2.2 - half) := upd_same
  revert s1 ha1
  generalize upd H a1 (.tup [.int u.1, .int (u.2.1 - half), .int (u.2.2 - half)]) = H1
  intro s1 ha1
  refine sq_tup (vs := [.int u.1, .int (u.2.1 + half), .int (u.2.2 + half)]) (ea_cons (ev_var rfl) (ea_cons (ev_I0 (ev_var rfl) (ev_fldT (ev_var rfl) (s1 _ _ e1) kc.1 kc.2 l1)) (ea_cons (ev_I0 (ev_var rfl) (ev_fldT (ev_var rfl) (s1 _ _ e1) kc.1 kc.2 l1)) ea_nil))) (by show 3 ≤ sizeLine; decide) fun a2 n2 => ?_
  have s2 : Same H1 (upd H1 a2 (.tup [.int u.1, .int (u.2.1 + half), .int (u.2.2 + half)])) := (Same.refl H1).upd n2
  have ha2 : T3 (upd H1 a2 (.tup [.int u.1, .int (u.2.1 + half), .int (u.2.2 + half)])) a2 u.1 (u.2.1 + half) (u.2.2 + half) := upd_same
  revert s2 ha2
  generalize upd H1 a2 (.tup [.int u.1, .int (u.2.1 + half), .int (u.2.2 + half)]) = H2
  intro s2 ha2
  have s12 := s1.trans s2
  have hf2 := hf.same s12
  obtain ⟨dx, z, d, fs, kvs, g1, g2, g3, gn', g4, g5, g6⟩ := hf2.ex
  refine sq_if (et_or (et_not (et_B (ev_call (ea_cons (ev_fldT (ev_var rfl) g1 T.cl_Floor T.na_Floor_sizes g2) (ea_cons (ev_var rfl) ea_nil)) fun Q' q' => ⟨z, a1, L, R, C, _, _, _, rfl, g4, s2 _ _ ha1, q'⟩))) fun _ => et_not (et_B (ev_call (ea_cons (ev_fldT (ev_var rfl) g1 T.cl_Floor T.na_Floor_sizes g2) (ea_cons (ev_var rfl) ea_nil)) fun Q' q' => ⟨z, a2, L, R, C, _, _, _, rfl, g4, ha2, q'⟩))) (fun e => ?_) (fun e => ?_)
  · refine rd_ret ev_c (q _ false s12 ⟨fun z => absurd z (by simp), fun f => ?_⟩)
    rw [Bool.or_eq_true] at e
    rcases e with e | e
    · exact absurd f (not_fit1 h0 (by simpa using e))
    · exact absurd f (not_fit2 h0 (by simpa using e))
  have i1 : Ins L R C u.1 (u.2.1 - half) (u.2.2 - half) := by rw [Bool.or_eq_false_iff] at e; simpa using e.1
  have i2 : Ins L R C u.1 (u.2.1 + half) (u.2.2 + half) := by rw [Bool.or_eq_false_iff] at e; simpa using e.2
  have hr1 := sz.r1
  have hc1 := sz.c1
  obtain ⟨j1, j2, j3, j4, j5, j6⟩ := id i1
  obtain ⟨j1', j2', j3', j4', j5', j6'⟩ := id i2
  refine ⟨_, rfl, p, cFloor, dx, fs, _, rfl, g1, T.cl_Floor, T.na_Floor_sizes, g2, _, rfl, _, rfl, t, C', dx', fs', _, rfl, s12 _ _ e1, kc.1, kc.2, l1, z, b, L, R, C, u.1, u.2.1, u.2.2, half, rfl, SqT.of g4, SqT.of (s12 _ _ hb), ⟨by omega, by omega, by omega⟩, ⟨by omega, by omega, by omega⟩, ⟨h0, by omega⟩, .inl (by omega), .inl (by omega), fun S ps H3 s3 hS hlen hgood => ⟨S, rfl, ⟨_, SqL.of hS⟩, fun D nD => ?_⟩⟩
  have hw1 : ((wd R u.2.1 half : Nat) : Int) = 2 * half + 1 := wd_sq h0 (by omega) (by omega)
  have hw2 : ((wd C u.2.2 half : Nat) : Int) = 2 * half + 1 := wd_sq h0 (by omega) (by omega)
  rw [lo_eq (by omega), lo_eq (by omega)] at hgood
  have hww : wd R u.2.1 half = wd C u.2.2 half := by omega
  rw [hww] at hlen
  revert hw2 hgood hlen
  generalize wd C u.2.2 half = w
  intro hlen hgood hw2
  have hw5 : w ≤ 5 := by omega
  have hn25 : w * w ≤ 5 * 5 := Nat.mul_le_mul hw5 hw5
  have hf3 := hf2.same s3
  refine lc_listG (K := K) (xs := ps.map V.ref) (fun i τ H' => ∃ x0 : Option V, τ = [x0, some (.ref p)] ∧ H' = upd H3 D (.lst (((List.range i).map fun j => decide (sq3 u.1 (u.2.1 - half) (u.2.2 - half) w j ∈ rs)).map V.bl))) ⟨none, rfl, rfl⟩ (fun i τ H' _ ⟨_, _, e⟩ => SqL.of (by rw [e, upd_ne (ne_of_none hS nD)]; exact hS)) ?_ ?_
  · rintro i x τ H' hx ⟨x0, rfl, rfl⟩
    obtain ⟨a, ha, rfl⟩ := at_ref hx
    have hi : i < w * w := by rw [← hlen]; exact (List.getElem?_eq_some_iff.mp ha).1
    have hga : H3 a = some (.tup (tp (sq3 u.1 (u.2.1 - half) (u.2.2 - half) w i))) := hgood i a ha
    refine gn (lc_el ?_)
    have sD : Same H3 (upd H3 D (.lst (((List.range i).map fun j => decide (sq3 u.1 (u.2.1 - half) (u.2.2 - half) w j ∈ rs)).map V.bl))) := (Same.refl H3).upd nD
    refine ⟨_, rfl, p, dx, fs, rfl, sD _ _ (s3 _ _ g1), gn', _, rfl, p, a, L, R, C, rs, sq3 u.1 (u.2.1 - half) (u.2.2 - half) w i, rfl, hf3.same sD, sD _ _ hga, ins_at hw2 i1 i2 hi, ?_⟩
    refine ⟨_, upd_same, by simp; omega, _, rfl, ?_⟩
    rw [upd_upd, List.range_succ, List.map_append, List.map_append]; rfl
  · rintro τ H' ⟨x0, rfl, rfl⟩
    refine ⟨D, _, rfl, SqL.of upd_same, _, rfl, q _ _ (s12.trans (s3.upd nD)) ?_⟩
    rw [any_iff, fit_sq hw2 i1 i2, List.length_map, hlen]
    constructor
    · intro h i hi; simpa using h i hi
    · intro h i hi; simpa using h i hi
theorem ok_Name {cThing cNet cBundle cFloor cMS : Addr} {f : Addr} {fd : FuncData} (F : Fun K "is_name" "is_name" sName f fd) (T : Txt K mg cThing cNet cBundle cFloor cMS) : FnOk P w K mg base CX0 1 f fd ["name"] spName := by
  have sc : FnScope ["name"] ["name"] (defScope sName) := ⟨rfl, rfl, rfl, by decide +kernel, rfl, by decide +kernel, by decide +kernel⟩
  refine F.ok sc (fun vs H Q E h => by repeat (first | (obtain ⟨rfl, _⟩ := h; rfl) | (obtain ⟨_, h⟩ := h))) (fun cdv A outer s H vs Q E hr h => ?_)
  obtain ⟨x, rfl, nm, q⟩ := h
  refine ⟨_, (pss_cons (ps_if (pw_or (pt_not (pt_chain op_le op_le pe_int (pe_callB call_len (by rfl) T.len_ bt_len (pa_cons (pv 0) pa_nil)) (pe_const (by rfl) (by exact T.g_MOST_SIGNS)))) (pw_or1 (pt_cmpR op_notin_str (pe_ix ix_str (pv 0) pe_int (fun _ _ => rfl)) (pe_const (by rfl) (by exact T.g_LETTERS)) (by with_unfolding_all rfl)))).pt
  (pss_one (ps_ret pe_bl))
  pss_nil)
  (pss_one (ps_ret (pe_callB (call_all rfl) (by rfl) T.all_ bt_all (pa_cons (pe_lc (ls := ["sign"]) (ys := []) (ix := []) rfl ⟨rfl, by rfl, by rfl, by rfl, by rfl, rfl⟩ (pi_str (pv 0)) (fun _ _ _ _ _ => (pg_name (i := 0) (show (["sign"] : List Str).Nodup by decide +kernel) rfl (Or.inl rfl))) (fun _ _ _ _ _ => pf_nil) (fun _ _ _ _ _ => (pe_or (pe_cmpR op_in_str (pv 0) (pe_const (by rfl) (by exact T.g_LETTERS)) (by with_unfolding_all rfl)) (pe_one (pe_cmpR op_in_str (pv 0) (pe_const (by rfl) (by exact T.g_FIGURES)) (by with_unfolding_all rfl)))))) pa_nil))))), ?_⟩
  have hsz : sizeLine = 2 ^ 24 := rfl
  have hlo := nm.lo
  have hhi := nm.hi
  obtain ⟨c, r, hcr, hcl⟩ := nm.fst
  refine sq_ifF (et_orF (et_notF (et_of (et_test (ev_chain ev_c (ev_lenS (ev_var rfl) (by omega)) ev_c)) ?_)) (et_test (ev_notinS (ev_ixS (c := c) (ev_var rfl) ev_c (by omega) (by rw [hcr]; exact atI_nat (j := 0) rfl)) ev_c))) ?_ ?_
  · rw [decide_eq_true (by omega), decide_eq_true (by omega)]; rfl
  · have : c ∈ cp (Str.ofString "abcdefghijklmnopqrstuvwxyz") := hcl
    rw [decide_eq_true this]; rfl
  refine ⟨_, rfl, x, rfl, nm.as, fun D nD => ?_⟩
  refine lc_str (fun i τ H' => ∃ x0 : Option V, τ = [x0] ∧ H' = upd H D (.lst ((List.replicate i true).map V.bl))) ⟨none, rfl, rfl⟩ ?_ ?_
  · rintro i d τ H2 hd ⟨x0, rfl, rfl⟩
    have hi : i < x.length := by have := (List.getElem?_eq_some_iff.mp hd).1; rw [cp_len] at this; exact this
    refine gn (lc_el ?_)
    refine (ev_of (ev_or (ev_inS (c := d) (ev_var rfl) ev_c) fun _ => ev_inS (c := d) (ev_var rfl) ev_c) (c := .bl true) ?_) _ ⟨_, upd_same, by simp; omega, _, rfl, ?_⟩
    · rcases nm.all d (List.mem_of_getElem? hd) with z | z
      · have z' : d ∈ cp (Str.ofString "abcdefghijklmnopqrstuvwxyz") := z
        rw [decide_eq_true z']; rfl
      · have z' : d ∈ cp (Str.ofString "0123456789") := z
        rw [decide_eq_true z', Bool.or_true]
    · rw [upd_upd, List.replicate_succ', List.map_append]; rfl
  · rintro τ H2 ⟨x0, rfl, rfl⟩
    refine ⟨D, List.replicate x.length true, rfl, SqL.of upd_same, ?_⟩
    have e : (List.replicate x.length true).all id = true := by rw [List.all_eq_true]; intro b hb; rw [List.eq_of_mem_replicate hb]; rfl
    rw [e]
    exact q _ ((Same.refl H).upd nD)
theorem ok_Unlike {cThing cNet cBundle cFloor cMS : Addr} {f : Addr} {fd : FuncData} (F : Fun K "check_unlike" "check_unlike" sUnlike f fd) (hB : K.In base) (T : Txt K mg cThing cNet cBundle cFloor cMS) : FnOk P w K mg base CX0 1 f fd ["spots"] spUnlike := by
  have sc : FnScope ["spots"] ["spots"] (defScope sUnlike) := ⟨rfl, rfl, rfl, by decide +kernel, rfl, by decide +kernel, by decide +kernel⟩
  refine F.ok sc (fun vs H Q E h => by repeat (first | (obtain ⟨rfl, _⟩ := h; rfl) | (obtain ⟨_, h⟩ := h))) (fun cdv A outer s H vs Q E hr h => ?_)
  obtain ⟨l, as, cs, rfl, hl, ht, hok, hfew, q⟩ := h
  refine ⟨_, (pss_one (ps_if (pt_cmpR op_ne (pe_callB call_lenSt (by rfl) T.len_ bt_len (pa_cons (pe_callTy (call_setT rfl hr) (by rfl) T.set_ bt_set (pa_cons (pv 0) pa_nil)) pa_nil)) (pe_callB call_len (by rfl) T.len_ bt_len (pa_cons (pv 0) pa_nil)) (nomark _))
  (pss_one ps_never)
  pss_nil)), ?_⟩
  refine if_of ⟨_, rfl, l, as, cs, rfl, SqL.of hl, ht, hok, fun p np => ⟨p, cs.length, rfl, upd_same, hfew, _, rfl, _, _, rfl, .inl ⟨_, SqL.of (by rw [upd_ne (ne_of_none hl np)]; exact hl), rfl⟩, rfl, _, rfl, ?_⟩⟩
  have e : (!decide (V.int (cs.length : Nat) = V.int ((as.map V.ref).length : Nat))) = false := by
    rw [List.length_map, show as.length = cs.length from Paired.length ht]; simp
  rw [e]
  exact iteF (q _ ((Same.refl H).upd np))
theorem ok_TInit {cThing cNet cBundle cFloor cMS : Addr} {f : Addr} {fd : FuncData} (F : Fun K "__init__" "Thing.__init__" sTInit f fd) (hB : K.In base) (T : Txt K mg cThing cNet cBundle cFloor cMS) (gName : Callee P w K mg base "is_name" 1 ["name"] spName) : FnOk P w K mg base CX0 2 f fd ["self", "name", "half", "room"] (spTInit cNet cBundle) := by
  have sc : FnScope ["self", "name", "half", "room"] ["self", "name", "half", "room"] (defScope sTInit) := ⟨rfl, rfl, rfl, by decide +kernel, rfl, by decide +kernel, by decide +kernel⟩
  refine F.ok sc (fun vs H Q E h => by repeat (first | (obtain ⟨rfl, _⟩ := h; rfl) | (obtain ⟨_, h⟩ := h))) (fun cdv A outer s H vs Q E hr h => ?_)
  obtain ⟨p, C, dx, x, h, r, rfl, hp, hC, nm, h0, h2, r0, r3, q⟩ := h
  refine ⟨_, (pss_cons (ps_if (pt_not (pt_val (pe_cal gName (hr.mono (by decide)) (by rfl) (pa_cons (pv 1) pa_nil))))
  (pss_one ps_never)
  pss_nil)
  (pss_cons (ps_if (pt_not (pt_chain op_le op_le pe_int (pv 2) (pe_const (by rfl) (by exact T.g_MOST_HALF))))
  (pss_one ps_never)
  pss_nil)
  (pss_cons (ps_if (pt_not (pt_chain op_le op_le pe_int (pv 3) (pe_const (by rfl) (by exact T.g_MOST_ROOM))))
  (pss_one ps_never)
  pss_nil)
  (pss_cons (ps_fld (pv 0) (pv 1) rfl)
  (pss_cons (ps_fld (pv 0) (pv 2) rfl)
  (pss_one (ps_fld (pv 0) (pv 3) rfl))))))), ?_⟩
  have kc : Cls K C ∧ NoAttr K C "name" ∧ NoAttr K C "half" ∧ NoAttr K C "room" := by rcases hC with rfl | rfl <;> first | exact ⟨T.cl_Net, T.na_Net_name, T.na_Net_half, T.na_Net_room⟩ | exact ⟨T.cl_Bundle, T.na_Bundle_name, T.na_Bundle_half, T.na_Bundle_room⟩
  refine sq_ifof ⟨_, rfl, x, rfl, nm, fun H1 s1 => ⟨_, rfl, ?_⟩⟩
  refine iteF ?_
  refine sq_ifF (et_notF (et_of (et_test (ev_chain ev_c (ev_var rfl) ev_c)) (by rw [decide_eq_true h0, decide_eq_true h2]; rfl))) rfl ?_
  refine sq_ifF (et_notF (et_of (et_test (ev_chain ev_c (ev_var rfl) ev_c)) (by rw [decide_eq_true r0, decide_eq_true r3]; rfl))) rfl ?_
  refine ⟨_, rfl, _, rfl, p, C, dx, [], rfl, s1 _ _ hp, kc.1, kc.2.1, (by decide), ?_⟩
  refine ⟨_, rfl, _, rfl, p, C, dx, _, rfl, upd_same, kc.1, kc.2.2.1, Nat.lt_of_le_of_lt (length_putF _ _ _) (by decide), ?_⟩
  refine ⟨_, rfl, _, rfl, p, C, dx, _, rfl, upd_same, kc.1, kc.2.2.2, Nat.lt_of_le_of_lt (Nat.le_trans (length_putF _ _ _) (Nat.succ_le_succ (length_putF _ _ _))) (by decide), ?_⟩
  refine q _ _ (fun b o hb e => ?_) upd_same ⟨Nat.le_trans (Nat.le_trans (length_putF _ _ _) (Nat.succ_le_succ (Nat.le_trans (length_putF _ _ _) (Nat.succ_le_succ (length_putF _ _ _))))) (by decide), ?_, ?_⟩ (Nat.le_trans (length_putF _ _ _) (Nat.succ_le_succ (Nat.le_trans (length_putF _ _ _) (Nat.succ_le_succ (length_putF _ _ _)))))
  · rw [upd_ne hb, upd_ne hb, upd_ne hb]; exact s1 _ _ e
  · rw [lookup_putF, if_neg (by decide +kernel), lookup_putF, if_pos rfl]
  · rw [lookup_putF, if_pos rfl]
theorem ok_NInit {cThing cNet cBundle cFloor cMS : Addr} {f : Addr} {fd : FuncData} (F : FunD K "__init__" "Net.__init__" sNInit f fd) (hB : K.In base) (T : Txt K mg cThing cNet cBundle cFloor cMS) (gUnlike : Callee P w K mg base "check_unlike" 1 ["spots"] spUnlike) (gTInit : ClsCallee P w K mg base cThing "__init__" 2 ["self", "name", "half", "room"] (spTInit cNet cBundle)) : FnOk P w K mg base CX0 3 f fd ["self", "name", "pins", "half", "room"] (spNInit cNet) := by
  have sc : FnScope ["self", "name", "pins", "half", "room"] ["self", "name", "pins", "half", "room"] (defScope sNInit) := ⟨rfl, rfl, rfl, by decide +kernel, rfl, by decide +kernel, by decide +kernel⟩
  refine F.ok sc (fun vs H Q E h => by repeat (first | (obtain ⟨rfl, _⟩ := h; rfl) | (obtain ⟨_, h⟩ := h))) (fun cdv A outer s H vs Q E hr h => ?_)
  obtain ⟨p, dx, l, as, cs, x, h, r, rfl, hp, hl, ht, hok, l2, l6, nm, h0, h2, r0, r3, q⟩ := h
  refine ⟨_, (pss_cons (ps_expr (pe_clsC (pe_globC (by rfl) T.mg_Thing) gTInit (hr.mono (by decide)) (pa_cons (pv 0) (pa_cons (pv 1) (pa_cons (pv 3) (pa_cons (pv 4) pa_nil))))))
  (pss_cons (ps_if (pt_not (pt_chain op_le op_le pe_int (pe_callB call_len (by rfl) T.len_ bt_len (pa_cons (pv 2) pa_nil)) (pe_const (by rfl) (by exact T.g_MOST_PINS))))
  (pss_one ps_never)
  pss_nil)
  (pss_cons (ps_expr (pe_cal gUnlike (hr.mono (by decide)) (by rfl) (pa_cons (pv 2) pa_nil)))
  (pss_one (ps_fld (pv 0) (pe_callTy call_tuple_of (by rfl) T.tuple_ bt_tuple (pa_cons (pv 2) pa_nil)) rfl))))), ?_⟩
  have nlp : l ≠ p := ne_of hl hp (fun z => nomatch z)
  have len : as.length = cs.length := Paired.length ht
  refine ⟨_, rfl, _, rfl, _, rfl, _, rfl, p, cNet, dx, x, h, r, rfl, hp, .inl rfl, nm, h0, h2, r0, r3, fun H1 fs b1 hp1 bs few => ?_⟩
  have hl1 := b1 _ _ nlp hl
  have ht1 : Tups H1 as cs := Paired.mapP ht fun a c e => b1 _ _ (ne_of e hp (fun z => nomatch z)) e
  refine st ?_
  refine sq_ifF (et_notF (et_of (et_test (ev_chain ev_c (ev_cb (ea_cons (ev_var rfl) ea_nil) fun Q' q' => ⟨_, _, rfl, .inl ⟨_, SqL.of hl1, rfl⟩, q'⟩) ev_c)) ?_)) rfl ?_
  · rw [List.length_map, decide_eq_true (by omega), decide_eq_true (by omega)]; rfl
  refine ⟨_, rfl, l, as, cs, rfl, hl1, ht1, hok, by omega, fun H2 s2 => ?_⟩
  refine ⟨_, rfl, l, _, rfl, .inl ⟨SqL.of (s2 _ _ hl1), fun t nt => ?_⟩⟩
  have hp2 := s2 _ _ hp1
  refine ⟨_, rfl, p, cNet, dx, fs, rfl, by rw [upd_ne (ne_of_none hp2 nt)]; exact hp2, T.cl_Net, T.na_Net_pins, by have := bs.few; omega, ?_⟩
  refine q _ _ (fun b o hb e => ?_) upd_same (bs.put (by omega) (by decide +kernel) (by decide +kernel))
  have e2 := s2 _ _ (b1 _ _ hb e)
  rw [upd_ne hb, upd_ne (ne_of_none e2 nt)]; exact e2
theorem ok_BInit {cThing cNet cBundle cFloor cMS : Addr} {f : Addr} {fd : FuncData} (F : FunD K "__init__" "Bundle.__init__" sBInit f fd) (hB : K.In base) (T : Txt K mg cThing cNet cBundle cFloor cMS) (gUnlike : Callee P w K mg base "check_unlike" 1 ["spots"] spUnlike) (gTInit : ClsCallee P w K mg base cThing "__init__" 2 ["self", "name", "half", "room"] (spTInit cNet cBundle)) : FnOk P w K mg base CX0 3 f fd ["self", "name", "starts", "goals", "room"] (spBInit cBundle) := by
  have sc : FnScope ["self", "name", "starts", "goals", "room"] ["self", "name", "starts", "goals", "room"] (defScope sBInit) := ⟨rfl, rfl, rfl, by decide +kernel, rfl, by decide +kernel, by decide +kernel⟩
  refine F.ok sc (fun vs H Q E h => by repeat (first | (obtain ⟨rfl, _⟩ := h; rfl) | (obtain ⟨_, h⟩ := h))) (fun cdv A outer s H vs Q E hr h => ?_)
  obtain ⟨p, dx, l, m, as, bs, cs, ds, x, r, rfl, hp, hl, hm, ht, hu, hok, l1, l6, lg, g12, nm, r0, r3, q⟩ := h
  refine ⟨_, (pss_cons (ps_expr (pe_clsC (pe_globC (by rfl) T.mg_Thing) gTInit (hr.mono (by decide)) (pa_cons (pv 0) (pa_cons (pv 1) (pa_cons pe_int (pa_cons (pv 4) pa_nil))))))
  (pss_cons (ps_if (pt_not (pt_chain op_le op_le pe_int (pe_callB call_len (by rfl) T.len_ bt_len (pa_cons (pv 2) pa_nil)) (pe_const (by rfl) (by exact T.g_MOST_STARTS))))
  (pss_one ps_never)
  pss_nil)
  (pss_cons (ps_if (pt_not (pt_chain op_le op_le (pe_callB call_len (by rfl) T.len_ bt_len (pa_cons (pv 2) pa_nil)) (pe_callB call_len (by rfl) T.len_ bt_len (pa_cons (pv 3) pa_nil)) (pe_const (by rfl) (by exact T.g_MOST_GOALS))))
  (pss_one ps_never)
  pss_nil)
  (pss_cons (ps_expr (pe_cal gUnlike (hr.mono (by decide)) (by rfl) (pa_cons (pe_op op_cat (pv 2) (pv 3)) pa_nil)))
  (pss_cons (ps_fld (pv 0) (pe_callTy call_tuple_of (by rfl) T.tuple_ bt_tuple (pa_cons (pv 2) pa_nil)) rfl)
  (pss_one (ps_fld (pv 0) (pe_callTy call_tuple_of (by rfl) T.tuple_ bt_tuple (pa_cons (pv 3) pa_nil)) rfl))))))), ?_⟩
  have hsz : sizeLine = 2 ^ 24 := rfl
  have nlp : l ≠ p := ne_of hl hp (fun z => nomatch z)
  have nmp : m ≠ p := ne_of hm hp (fun z => nomatch z)
  have len : as.length = cs.length := Paired.length ht
  have len2 : bs.length = ds.length := Paired.length hu
  refine ⟨_, rfl, _, rfl, _, rfl, p, cBundle, dx, x, 0, r, rfl, hp, .inr rfl, nm, by decide, by decide, r0, r3, fun H1 fs b1 hp1 bas few => ?_⟩
  have hl1 := b1 _ _ nlp hl
  have hm1 := b1 _ _ nmp hm
  have ht1 : Tups H1 as cs := Paired.mapP ht fun a c e => b1 _ _ (ne_of e hp (fun z => nomatch z)) e
  have hu1 : Tups H1 bs ds := Paired.mapP hu fun a c e => b1 _ _ (ne_of e hp (fun z => nomatch z)) e
  refine st ?_
  refine sq_ifF (et_notF (et_of (et_test (ev_chain ev_c (ev_cb (ea_cons (ev_var rfl) ea_nil) fun Q' q' => ⟨_, _, rfl, .inl ⟨_, SqL.of hl1, rfl⟩, q'⟩) ev_c)) ?_)) rfl ?_
  · rw [List.length_map, decide_eq_true (by omega), decide_eq_true (by omega)]; rfl
  refine sq_ifF (et_notF (et_of (et_test (ev_chain (ev_cb (ea_cons (ev_var rfl) ea_nil) fun Q' q' => ⟨_, _, rfl, .inl ⟨_, SqL.of hl1, rfl⟩, q'⟩) (ev_cb (ea_cons (ev_var rfl) ea_nil) fun Q' q' => ⟨_, _, rfl, .inl ⟨_, SqL.of hm1, rfl⟩, q'⟩) ev_c)) ?_)) rfl ?_
  · rw [List.length_map, List.length_map, decide_eq_true (by omega), decide_eq_true (by omega)]; rfl
  refine ⟨_, rfl, _, rfl, l, m, _, _, rfl, rfl, hl1, hm1, by rw [List.length_map, List.length_map]; omega, fun c nc => ?_⟩
  have s2 : Same H1 (upd H1 c (.lst (as.map V.ref ++ bs.map V.ref))) := (Same.refl H1).upd nc
  refine ⟨c, as ++ bs, cs ++ ds, rfl, by rw [upd_same, List.map_append], Tups.same (pair_app ht1 hu1) s2, hok, by rw [List.length_append]; omega, fun H2 s3 => ?_⟩
  have s13 := s2.trans s3
  refine ⟨_, rfl, l, _, rfl, .inl ⟨SqL.of (s13 _ _ hl1), fun t nt => ?_⟩⟩
  have hp2 := s13 _ _ hp1
  refine ⟨_, rfl, p, cBundle, dx, fs, rfl, by rw [upd_ne (ne_of_none hp2 nt)]; exact hp2, T.cl_Bundle, T.na_Bundle_starts, by have := bas.few; omega, ?_⟩
  have hm2 : upd (upd H2 t (.tup (as.map V.ref))) p (.ins cBundle dx (putF "starts" (.ref t) fs)) m = some (.lst (bs.map V.ref)) := by
    rw [upd_ne nmp, upd_ne (ne_of_none (s13 _ _ hm1) nt)]; exact s13 _ _ hm1
  have hlen := length_putF "starts" (.ref t) fs
  refine ⟨_, rfl, m, _, rfl, .inl ⟨SqL.of hm2, fun t' nt' => ?_⟩⟩
  have npt : t' ≠ p := fun z => by rw [z, upd_same] at nt'; cases nt'
  refine ⟨_, rfl, p, cBundle, dx, _, rfl, by rw [upd_ne (Ne.symm npt), upd_same], T.cl_Bundle, T.na_Bundle_goals, by omega, ?_⟩
  refine q _ _ (fun b o hb e => ?_) upd_same ((bas.put (by omega) (by decide +kernel) (by decide +kernel)).put (by omega) (by decide +kernel) (by decide +kernel))
  have e2 := s13 _ _ (b1 _ _ hb e)
  have e3 : upd (upd H2 t (.tup (as.map V.ref))) p (.ins cBundle dx (putF "starts" (.ref t) fs)) b = some o := by rw [upd_ne hb, upd_ne (ne_of_none e2 nt)]; exact e2
  rw [upd_ne hb, upd_ne (ne_of_none e3 nt')]; exact e3
theorem ok_Sizes {cThing cNet cBundle cFloor cMS : Addr} {f : Addr} {fd : FuncData} (F : Fun K "_law_sizes" "_law_sizes" sSizes f fd) (T : Txt K mg cThing cNet cBundle cFloor cMS) : FnOk P w K mg base CX0 1 f fd ["cell"] spSizes := by
  have sc : FnScope ["cell"] ["cell"] (defScope sSizes) := ⟨rfl, rfl, rfl, by decide +kernel, rfl, by decide +kernel, by decide +kernel⟩
  refine F.ok sc (fun vs H Q E h => by repeat (first | (obtain ⟨rfl, _⟩ := h; rfl) | (obtain ⟨_, h⟩ := h))) (fun cdv A outer s H vs Q E hr h => ?_)
  obtain ⟨n, rfl, q⟩ := h
  refine ⟨_, (pss_cons (ps_if (pt_cmpR op_eq (pe_op op_mod (pv 0) pe_int) pe_int (nomark _))
  (pss_one (ps_ret (pe_tup (pa_cons (pe_op op_add pe_int (pe_op op_mod (pe_op op_fdivB (pv 0) pe_int) pe_int)) (pa_cons (pe_op op_add pe_int (pe_op op_mod (pe_op op_fdivB (pv 0) pe_int) pe_int)) (pa_cons (pe_op op_add pe_int (pe_op op_mod (pe_op op_fdivB (pv 0) pe_int) pe_int)) pa_nil))))))
  pss_nil)
  (pss_one (ps_ret (pe_tup (pa_cons (pe_op op_add pe_int (pe_op op_mod (pe_op op_fdivB (pv 0) pe_int) pe_int)) (pa_cons (pe_op op_add pe_int (pe_op op_mod (pe_op op_fdivB (pv 0) pe_int) pe_int)) (pa_cons (pe_op op_add pe_int (pe_op op_mod (pe_op op_fdivB (pv 0) pe_int) pe_int)) pa_nil))))))), ?_⟩
  refine sq_if (et_test (ev_eqI (ev_I (ev_var rfl) ev_c (by show (0 : Int) < 3; decide)) ev_c)) (fun e => ?_) (fun e => ?_)
  · exact rd_tup (vs := [.int (1 + n / 3 % 4), .int (1 + n / 12 % 16), .int (1 + n / 192 % 16)]) (ea_cons (ev_I0 ev_c (ev_I (ev_I (ev_var rfl) ev_c (cdB (by decide) (by decide))) ev_c (by show (0 : Int) < 4; decide))) (ea_cons (ev_I0 ev_c (ev_I (ev_I (ev_var rfl) ev_c (cdB (by decide) (by decide))) ev_c (by show (0 : Int) < 16; decide))) (ea_cons (ev_I0 ev_c (ev_I (ev_I (ev_var rfl) ev_c (cdB (by decide) (by decide))) ev_c (by show (0 : Int) < 16; decide))) ea_nil))) (by show 3 ≤ sizeLine; decide) fun z nz => q z _ _ _ nz ⟨by omega, by omega, by omega, by omega, by omega, by omega⟩
  · exact rd_tup (vs := [.int (1 + n / 3 % 2), .int (1 + n / 6 % 4), .int (1 + n / 24 % 4)]) (ea_cons (ev_I0 ev_c (ev_I (ev_I (ev_var rfl) ev_c (cdB (by decide) (by decide))) ev_c (by show (0 : Int) < 2; decide))) (ea_cons (ev_I0 ev_c (ev_I (ev_I (ev_var rfl) ev_c (cdB (by decide) (by decide))) ev_c (by show (0 : Int) < 4; decide))) (ea_cons (ev_I0 ev_c (ev_I (ev_I (ev_var rfl) ev_c (cdB (by decide) (by decide))) ev_c (by show (0 : Int) < 4; decide))) ea_nil))) (by show 3 ≤ sizeLine; decide) fun z nz => q z _ _ _ nz ⟨by omega, by omega, by omega, by omega, by omega, by omega⟩
theorem ok_Rocks {cThing cNet cBundle cFloor cMS : Addr} {f : Addr} {fd : FuncData} (F : Fun K "_law_rocks" "_law_rocks" sRocks f fd) (T : Txt K mg cThing cNet cBundle cFloor cMS) : FnOk P w K mg base CX0 1 f fd ["script", "sizes"] (spRocks K) := by
  have sc : FnScope ["script", "sizes", "gathered", "cell"] ["script", "sizes"] (defScope sRocks) := ⟨rfl, rfl, rfl, by decide +kernel, rfl, by decide +kernel, by decide +kernel⟩
  refine F.ok sc (fun vs H Q E h => by repeat (first | (obtain ⟨rfl, _⟩ := h; rfl) | (obtain ⟨_, h⟩ := h))) (fun cdv A outer s H vs Q E hr h => ?_)
  obtain ⟨a, z, ns, L, R, C, rfl, ha, hn, hz, sz, q⟩ := h
  refine ⟨_, (pss_cons (ps_set (i := 2) sc.nd rfl (Or.inl rfl) (pe_lst pa_nil))
  (pss_cons (ps_for PassesOwn.never rfl (pi_list (pe_slice sl_list (pv 0) (po_some pe_int) po_none)) (pg_name (i := 3) sc.nd rfl (Or.inl rfl))
  (pss_one (ps_if (pt_cmpR op_lt (pe_op op_mod (pv 3) pe_int) pe_int (nomark _))
  (pss_one (ps_expr (pe_bm PySem.F.plainAttrs_list PySem.F.slot_list_append PySem.F.type_list_append mt_append (pv 2) (pa_cons (pe_tup (pa_cons (pe_op op_mod (pe_op op_fdivB (pv 3) pe_int) (pe_ix ix_tup (pv 1) pe_int (fun _ _ => rfl))) (pa_cons (pe_op op_mod (pe_op op_fdivB (pv 3) pe_int) (pe_ix ix_tup (pv 1) pe_int (fun _ _ => rfl))) (pa_cons (pe_op op_mod (pe_op op_fdivB (pv 3) pe_int) (pe_ix ix_tup (pv 1) pe_int (fun _ _ => rfl))) pa_nil)))) pa_nil))))
  pss_nil)))
  (pss_one (ps_ret (pv 2))))), ?_⟩
  have hsz : sizeLine = 2 ^ 24 := rfl
  have hl0 := sz.l0
  have hr0 := sz.r0
  have hc0 := sz.c0
  refine ⟨Nat.zero_le _, fun g ng => ?_⟩
  refine ⟨_, rfl, 5, rfl, a, _, rfl, ((Same.refl H).upd ng).seq ha, fun p np => ⟨p, rfl, ⟨_, SqL.of upd_same⟩, ?_⟩⟩
  have hcl : (cutV (ns.map V.int) (some 5) none).length ≤ 63 := Nat.le_trans (cutV_length _ _ _) (by rw [List.length_map]; exact hn)
  have ngp : g ≠ p := ne_of_none upd_same np
  have s1 : Same H (upd (upd H g (.lst [])) p (.lst (cutV (ns.map V.int) (some 5) none))) := ((Same.refl H).upd ng).upd np
  have hg : upd (upd H g (.lst [])) p (.lst (cutV (ns.map V.int) (some 5) none)) g = some (.lst []) := by rw [upd_ne ngp, upd_same]
  have hp : upd (upd H g (.lst [])) p (.lst (cutV (ns.map V.int) (some 5) none)) p = some (.lst (cutV (ns.map V.int) (some 5) none)) := upd_same
  revert s1 hg hp
  generalize upd (upd H g (.lst [])) p (.lst (cutV (ns.map V.int) (some 5) none)) = H1
  intro s1 hg hp
  refine for_list (K := K) (xs := cutV (ns.map V.int) (some 5) none) (fun i σ H' => ∃ (x3 : Option V) (as : List Addr) (rs : List Sp3), σ = [some (.ref a), some (.ref z), some (.ref g), x3] ∧ Same H H' ∧ H' p = some (.lst (cutV (ns.map V.int) (some 5) none)) ∧ H' g = some (.lst (as.map V.ref)) ∧ Spots H' as rs ∧ (∀ q ∈ rs, Ins L R C q.1 q.2.1 q.2.2) ∧ as.length ≤ i ∧ rs.length ≤ i)
    ⟨none, [], [], rfl, s1, hp, hg, .nil, (fun _ h => nomatch h), Nat.le_refl _, Nat.le_refl _⟩ (fun i σ H' _ ⟨_, _, _, _, _, e, _⟩ => SqL.of e) ?_ ?_
  · rintro i x σ H2 hx ⟨x3, as, rs, rfl, s2, hp2, hg2, hsp, hin, hal, hrl⟩
    obtain ⟨c, rfl⟩ := cut_int hx
    have hi : i < 63 := Nat.lt_of_lt_of_le (List.getElem?_eq_some_iff.mp hx).1 hcl
    have hz2 := s2 _ _ hz
    refine gn ?_
    refine rd_if (et_test (ev_lt (ev_I (ev_var rfl) ev_c (by show (0 : Int) < 10; decide)) ev_c)) (fun e => ?_) (fun e => ?_)
    · refine ⟨_, rfl, .inl ⟨rfl, _, SqL.of hg2⟩, ?_⟩
      refine te_tup (vs := [.int (c / 10 % L), .int (c / 40 % R), .int (c / 640 % C)]) (ea_cons (ev_I (ev_I (ev_var rfl) ev_c (cdB (by decide) (by decide))) (ev_ixT (v := .int L) (ev_var rfl) ev_c (SqT.of hz2) rfl) (by show (0 : Int) < L; omega)) (ea_cons (ev_I (ev_I (ev_var rfl) ev_c (cdB (by decide) (by decide))) (ev_ixT (v := .int R) (ev_var rfl) ev_c (SqT.of hz2) rfl) (by show (0 : Int) < R; omega)) (ea_cons (ev_I (ev_I (ev_var rfl) ev_c (cdB (by decide) (by decide))) (ev_ixT (v := .int C) (ev_var rfl) ev_c (SqT.of hz2) rfl) (by show (0 : Int) < C; omega)) ea_nil))) (by show 3 ≤ sizeLine; decide) fun t nt => ?_
      have ntg : t ≠ g := Ne.symm (ne_of_none hg2 nt)
      have ntp : t ≠ p := Ne.symm (ne_of_none hp2 nt)
      refine ⟨g, _, _, rfl, rfl, by rw [upd_ne (Ne.symm ntg)]; exact hg2, by rw [List.length_map]; omega, ?_⟩
      have keep : ∀ b xs, H2 b = some (.tup xs) → upd (upd H2 t (.tup [.int (c / 10 % L), .int (c / 40 % R), .int (c / 640 % C)])) g (.lst (as.map V.ref ++ [.ref t])) b = some (.tup xs) := fun b xs e => by
        rw [upd_ne (ne_of e hg2 (fun z => nomatch z)), upd_ne (ne_of_none e nt)]; exact e
      refine ⟨_, as ++ [t], rs ++ [(c / 10 % L, c / 40 % R, c / 640 % C)], rfl, same_at (s2.upd nt) ng, by rw [upd_ne (Ne.symm ngp), upd_ne (Ne.symm ntp)]; exact hp2, by rw [upd_same, List.map_append]; rfl, spots_app (hsp.mono keep) (.cons (by rw [upd_ne ntg, upd_same]; rfl) .nil), fun u hu => ?_, by rw [List.length_append]; show as.length + 1 ≤ _; omega, by rw [List.length_append]; show rs.length + 1 ≤ _; omega⟩
      rcases List.mem_append.mp hu with hu | hu
      · exact hin u hu
      · rw [List.mem_singleton.mp hu]
        exact ⟨Int.emod_nonneg _ (by omega), Int.emod_lt_of_pos _ (by omega), Int.emod_nonneg _ (by omega), Int.emod_lt_of_pos _ (by omega), Int.emod_nonneg _ (by omega), Int.emod_lt_of_pos _ (by omega)⟩
    · exact ⟨_, as, rs, rfl, s2, hp2, hg2, hsp, hin, by omega, by omega⟩
  · rintro σ H2 ⟨x3, as, rs, rfl, s2, hp2, hg2, hsp, hin, hal, hrl⟩
    exact st (rd_ret (ev_var rfl) (q _ g as rs s2 hg2 hsp hin (Nat.le_trans hrl hcl)))
theorem ok_Marks {cThing cNet cBundle cFloor cMS : Addr} {f : Addr} {fd : FuncData} (F : Fun K "_law_marks" "_law_marks" sMarks f fd) (T : Txt K mg cThing cNet cBundle cFloor cMS) : FnOk P w K mg base CX0 1 f fd ["spots"] spMarks := by
  have sc : FnScope ["spots", "marks", "spot"] ["spots"] (defScope sMarks) := ⟨rfl, rfl, rfl, by decide +kernel, rfl, by decide +kernel, by decide +kernel⟩
  refine F.ok sc (fun vs H Q E h => by repeat (first | (obtain ⟨rfl, _⟩ := h; rfl) | (obtain ⟨_, h⟩ := h))) (fun cdv A outer s H vs Q E hr h => ?_)
  obtain ⟨l, as, rs, rfl, hl, hsp, hfew, q⟩ := h
  refine ⟨_, (pss_cons (ps_set (i := 1) sc.nd rfl (Or.inl rfl) pe_dnewT)
  (pss_cons (ps_for PassesOwn.never rfl (pi_list (pv 0)) (pg_name (i := 2) sc.nd rfl (Or.inl rfl))
  (pss_one (ps_dput (Room.one hr) (pv 1) (pv 2) pe_bl (by rfl))))
  (pss_one (ps_ret (pv 1))))), ?_⟩
  have hsz : sizeLine = 2 ^ 24 := rfl
  have len : as.length = rs.length := Paired.length hsp
  refine sq_asg fun d nd => ?_
  have s1 : Same H (upd H d (.dT [])) := (Same.refl H).upd nd
  refine ⟨_, rfl, l, rfl, ⟨_, SqL.of (s1 _ _ hl)⟩, ?_⟩
  refine for_list (K := K) (xs := as.map V.ref) (fun i σ H' => ∃ (x2 : Option V) (kvs : List (List Key × V)), σ = [some (.ref l), some (.ref d), x2] ∧ Same H H' ∧ H' d = some (.dT kvs) ∧ DR kvs (rs.take i) ∧ kvs.length ≤ i) ⟨none, [], rfl, s1, upd_same, DR.nil, Nat.le_refl _⟩ (fun i σ H' _ ⟨_, _, _, s, _⟩ => SqL.of (s _ _ hl)) ?_ ?_
  · rintro i x σ H2 hx ⟨x2, kvs, rfl, s2, hd2, dr, hk⟩
    obtain ⟨a, ha, rfl⟩ := at_ref hx
    obtain ⟨u, hu, hau⟩ := Spots.at hsp ha
    have hi : i < as.length := (List.getElem?_eq_some_iff.mp ha).1
    refine gn ?_
    refine ⟨_, rfl, _, rfl, d, _, rfl, DPut.t (k := k3 u) hd2 (s2 _ _ hau) (by omega), ?_⟩
    exact ⟨_, putK kvs (k3 u) (.bl true), rfl, same_at s2 nd, upd_same, by rw [take_at hu]; exact dr.put, Nat.le_trans put_len (by omega)⟩
  · rintro σ H2 ⟨x2, kvs, rfl, s2, hd2, dr, hk⟩
    rw [List.length_map, len, List.take_length] at dr
    exact st (rd_ret (ev_var rfl) (q _ d kvs s2 hd2 dr))
theorem ok_LInside {cThing cNet cBundle cFloor cMS : Addr} {f : Addr} {fd : FuncData} (F : Fun K "_law_inside" "_law_inside" sLInside f fd) (T : Txt K mg cThing cNet cBundle cFloor cMS) : FnOk P w K mg base CX0 1 f fd ["sizes", "spot"] spInside := by
  have sc : FnScope ["sizes", "spot"] ["sizes", "spot"] (defScope sLInside) := ⟨rfl, rfl, rfl, by decide +kernel, rfl, by decide +kernel, by decide +kernel⟩
  refine F.ok sc (fun vs H Q E h => by repeat (first | (obtain ⟨rfl, _⟩ := h; rfl) | (obtain ⟨_, h⟩ := h))) (fun cdv A outer s H vs Q E hr h => ?_)
  obtain ⟨a, b, L, R, C, l, r, c, rfl, ha, hb, q⟩ := h
  refine ⟨_, (pss_cons (ps_if (pw_or (pt_cmpR op_lt (pe_ix ix_tup (pv 1) pe_int (fun _ _ => rfl)) pe_int (nomark _)) (pw_or (pt_cmpR op_ge (pe_ix ix_tup (pv 1) pe_int (fun _ _ => rfl)) (pe_ix ix_tup (pv 0) pe_int (fun _ _ => rfl)) (nomark _)) (pw_or (pt_cmpR op_lt (pe_ix ix_tup (pv 1) pe_int (fun _ _ => rfl)) pe_int (nomark _)) (pw_or1 (pt_cmpR op_ge (pe_ix ix_tup (pv 1) pe_int (fun _ _ => rfl)) (pe_ix ix_tup (pv 0) pe_int (fun _ _ => rfl)) (nomark _)))))).pt
  (pss_one (ps_ret pe_bl))
  pss_nil)
  (pss_one (ps_ret (pe_and (pe_cmpR op_le pe_int (pe_ix ix_tup (pv 1) pe_int (fun _ _ => rfl)) (nomark _)) (pe_one (pe_cmpR op_lt (pe_ix ix_tup (pv 1) pe_int (fun _ _ => rfl)) (pe_ix ix_tup (pv 0) pe_int (fun _ _ => rfl)) (nomark _))))))), ?_⟩
  refine sq_if (et_or (et_test (ev_lt (ev_ixT (v := .int l) (ev_var rfl) ev_c (SqT.of hb) rfl) ev_c)) fun _ => et_or (et_test (ev_ge (ev_ixT (v := .int l) (ev_var rfl) ev_c (SqT.of hb) rfl) (ev_ixT (v := .int L) (ev_var rfl) ev_c (SqT.of ha) rfl))) fun _ => et_or (et_test (ev_lt (ev_ixT (v := .int r) (ev_var rfl) ev_c (SqT.of hb) rfl) ev_c)) fun _ => et_test (ev_ge (ev_ixT (v := .int r) (ev_var rfl) ev_c (SqT.of hb) rfl) (ev_ixT (v := .int R) (ev_var rfl) ev_c (SqT.of ha) rfl))) (fun e => ?_) (fun e => ?_)
  · have ni : ¬ Ins L R C l r c := by
      simp only [Bool.or_eq_true, decide_eq_true_eq] at e
      unfold Ins; omega
    rw [decide_eq_false ni] at q
    exact rd_ret ev_c q
  · simp only [Bool.or_eq_false_iff, decide_eq_false_iff_not] at e
    refine rd_ret (ev_of (ev_and (ev_le ev_c (ev_ixT (v := .int c) (ev_var rfl) ev_c (SqT.of hb) rfl)) fun _ => ev_lt (ev_ixT (v := .int c) (ev_var rfl) ev_c (SqT.of hb) rfl) (ev_ixT (v := .int C) (ev_var rfl) ev_c (SqT.of ha) rfl)) (congrArg V.bl ?_)) q
    rw [Bool.eq_iff_iff]
    simp only [Bool.and_eq_true, decide_eq_true_eq]
    unfold Ins
    constructor <;> intro h <;> omega
theorem ok_Due {cThing cNet cBundle cFloor cMS : Addr} {f : Addr} {fd : FuncData} (F : Fun K "_law_due" "_law_due" sDue f fd) (T : Txt K mg cThing cNet cBundle cFloor cMS) (gLInside : Callee P w K mg base "_law_inside" 1 ["sizes", "spot"] spInside) : FnOk P w K mg base CX0 2 f fd ["sizes", "rocks", "half", "spot"] spDue := by
  have sc : FnScope ["sizes", "rocks", "half", "spot", "row", "column", "place"] ["sizes", "rocks", "half", "spot"] (defScope sDue) := ⟨rfl, rfl, rfl, by decide +kernel, rfl, by decide +kernel, by decide +kernel⟩
  refine F.ok sc (fun vs H Q E h => by repeat (first | (obtain ⟨rfl, _⟩ := h; rfl) | (obtain ⟨_, h⟩ := h))) (fun cdv A outer s H vs Q E hr h => ?_)
  obtain ⟨z, d, b, L, R, C, half, kvs, rs, u, rfl, hz, hd, dr, h0, h2, hb, ⟨u1, u2, u3, u4⟩, q⟩ := h
  refine ⟨_, (pss_cons (ps_for PassesOwn.never rfl (pi_range2 (by rfl) T.range_ (pa_cons (pe_op op_sub (pe_ix ix_tup (pv 3) pe_int (fun _ _ => rfl)) (pv 2)) (pa_cons (pe_op op_add (pe_op op_add (pe_ix ix_tup (pv 3) pe_int (fun _ _ => rfl)) (pv 2)) pe_int) pa_nil))) (pg_name (i := 4) sc.nd rfl (Or.inl rfl))
  (pss_one (ps_for PassesOwn.never rfl (pi_range2 (by rfl) T.range_ (pa_cons (pe_op op_sub (pe_ix ix_tup (pv 3) pe_int (fun _ _ => rfl)) (pv 2)) (pa_cons (pe_op op_add (pe_op op_add (pe_ix ix_tup (pv 3) pe_int (fun _ _ => rfl)) (pv 2)) pe_int) pa_nil))) (pg_name (i := 5) sc.nd rfl (Or.inl rfl))
  (pss_cons (ps_set (i := 6) sc.nd rfl (Or.inl rfl) (pe_tup (pa_cons (pe_ix ix_tup (pv 3) pe_int (fun _ _ => rfl)) (pa_cons (pv 4) (pa_cons (pv 5) pa_nil)))))
  (pss_one (ps_if (pw_or (pt_not (pt_val (pe_cal gLInside (hr.mono (by decide)) (by rfl) (pa_cons (pv 0) (pa_cons (pv 6) pa_nil))))) (pw_or1 (pt_cmp (pc_din (Room.one hr) (pv 6) (pv 1))))).pt
  (pss_one (ps_ret pe_bl))
  pss_nil))))))
  (pss_one (ps_ret pe_bl))), ?_⟩
  obtain ⟨w, hw⟩ : ∃ w : Nat, (w : Int) = 2 * half + 1 := ⟨(2 * half + 1).toNat, by omega⟩
  refine ⟨_, rfl, b, _, 1, .int u.2.1, rfl, rfl, SqT.of hb, rfl, _, rfl, _, _, rfl, rfl, _, rfl, b, _, 1, .int u.2.1, rfl, rfl, SqT.of hb, rfl, _, rfl, _, _, rfl, rfl, _, _, rfl, rfl, _, _, rfl, ⟨by omega, by omega, by omega, by omega⟩, ?_⟩
  have ew : (u.2.1 + half + 1 - (u.2.1 - half)).toNat = w := by omega
  have ew2 : (u.2.2 + half + 1 - (u.2.2 - half)).toNat = w := by omega
  refine for_range (fun i σ H' => ∃ x4 x5 x6 : Option V, σ = [some (.ref z), some (.ref d), some (.int half), some (.ref b), x4, x5, x6] ∧ Same H H' ∧ ∀ j < i, ∀ k < w, Ins L R C u.1 (u.2.1 - half + (j : Nat)) (u.2.2 - half + (k : Nat)) ∧ (u.1, u.2.1 - half + (j : Nat), u.2.2 - half + (k : Nat)) ∉ rs) ⟨none, none, none, rfl, Same.refl H, fun j hj => absurd hj (Nat.not_lt_zero _)⟩ ?_ ?_
  · rintro j σ H2 hj ⟨x4, x5, x6, rfl, s2, ok⟩
    have hj' : j < w := by omega
    refine gn ?_
    have hb2 := s2 _ _ hb
    refine ⟨_, rfl, b, _, 2, .int u.2.2, rfl, rfl, SqT.of hb2, rfl, _, rfl, _, _, rfl, rfl, _, rfl, b, _, 2, .int u.2.2, rfl, rfl, SqT.of hb2, rfl, _, rfl, _, _, rfl, rfl, _, _, rfl, rfl, _, _, rfl, ⟨by omega, by omega, by omega, by omega⟩, ?_⟩
    refine for_range (fun i σ H' => ∃ x5 x6 : Option V, σ = [some (.ref z), some (.ref d), some (.int half), some (.ref b), some (.int (u.2.1 - half + (j : Nat))), x5, x6] ∧ Same H H' ∧ ∀ k < i, Ins L R C u.1 (u.2.1 - half + (j : Nat)) (u.2.2 - half + (k : Nat)) ∧ (u.1, u.2.1 - half + (j : Nat), u.2.2 - half + (k : Nat)) ∉ rs) ⟨_, _, rfl, s2, fun k hk => absurd hk (Nat.not_lt_zero _)⟩ ?_ ?_
    · rintro k σ H3 hk ⟨x5', x6', rfl, s3, okk⟩
      have hk' : k < w := by omega
      refine gn ?_
      refine sq_tup (vs := [.int u.1, .int (u.2.1 - half + (j : Nat)), .int (u.2.2 - half + (k : Nat))]) (ea_cons (ev_ixT (v := .int u.1) (ev_var rfl) ev_c (SqT.of (s3 _ _ hb)) rfl) (ea_cons (ev_var rfl) (ea_cons (ev_var rfl) ea_nil))) (by show 3 ≤ sizeLine; decide) fun t nt => ?_
      have s4 := s3.upd nt (o := .tup [.int u.1, .int (u.2.1 - half + (j : Nat)), .int (u.2.2 - half + (k : Nat))])
      have ht : upd H3 t (.tup [.int u.1, .int (u.2.1 - half + (j : Nat)), .int (u.2.2 - half + (k : Nat))]) t = some (.tup (tp (u.1, u.2.1 - half + (j : Nat), u.2.2 - half + (k : Nat)))) := upd_same
      revert s4 ht
      generalize upd H3 t (.tup [.int u.1, .int (u.2.1 - half + (j : Nat)), .int (u.2.2 - half + (k : Nat))]) = H4
      intro s4 ht
      refine rd_if (et_or (et_not (et_B (ev_call (ea_cons (ev_var rfl) (ea_cons (ev_var rfl) ea_nil)) fun Q' q' => ⟨z, t, L, R, C, _, _, _, rfl, s4 _ _ hz, ht, q'⟩))) fun _ => et_B (ev_din (ev_var rfl) (ev_var rfl) (DGet.t (k := k3 (u.1, u.2.1 - half + (j : Nat), u.2.2 - half + (k : Nat))) (s4 _ _ hd) ht))) (fun e => ?_) (fun e => ?_)
      · rw [dr] at e
        refine rd_ret ev_c (q _ false s4 ⟨fun z => absurd z (by simp), fun f => absurd f (not_fit hw hj' hk' fun z => ?_)⟩)
        rw [decide_eq_true z.1, decide_eq_false z.2] at e
        simp at e
      · rw [dr] at e
        rw [Bool.or_eq_false_iff] at e
        refine ⟨_, _, rfl, s4, fun k2 hk2 => ?_⟩
        by_cases ek : k2 = k
        · subst ek
          exact ⟨by simpa using e.1, by simpa using e.2⟩
        · exact okk k2 (by omega)
    · rintro σ H3 ⟨x5', x6', rfl, s3, okk⟩
      refine ⟨_, _, _, rfl, s3, fun j2 hj2 k hk => ?_⟩
      by_cases ej : j2 = j
      · subst ej
        exact okk k (by omega)
      · exact ok j2 (by omega) k hk
  · rintro σ H2 ⟨x4, x5, x6, rfl, s2, ok⟩
    rw [ew] at ok
    exact st (rd_ret ev_c (q _ true s2 ⟨fun _ => fit_of hw ok, fun _ => rfl⟩))
theorem ok_Asked {cThing cNet cBundle cFloor cMS : Addr} {f : Addr} {fd : FuncData} (F : Fun K "_law_asked" "_law_asked" sAsked f fd) (T : Txt K mg cThing cNet cBundle cFloor cMS) (gCell : Callee P w K mg base "_law_cell_at" 1 ["script", "k"] (spCell K)) : FnOk P w K mg base CX0 2 f fd ["script", "sizes", "rocks", "half"] (spAsked K) := by
  have sc : FnScope ["script", "sizes", "rocks", "half", "gathered", "cell", "number", "layer", "rock", "far"] ["script", "sizes", "rocks", "half"] (defScope sAsked) := ⟨rfl, rfl, rfl, by decide +kernel, rfl, by decide +kernel, by decide +kernel⟩
  refine F.ok sc (fun vs H Q E h => by repeat (first | (obtain ⟨rfl, _⟩ := h; rfl) | (obtain ⟨_, h⟩ := h))) (fun cdv A outer s H vs Q E hr h => ?_)
  obtain ⟨a, z, l, ns, L, R, C, half, as, rs, rfl, ha, hn, hz, sz, hl, hsp, hin, h0, h2, q⟩ := h
  refine ⟨_, (pss_cons (ps_set (i := 4) sc.nd rfl (Or.inl rfl) (pe_lst pa_nil))
  (pss_cons (ps_for PassesOwn.never rfl (pi_list (pe_op op_cat (pe_lst (pa_cons (pe_cal gCell (hr.mono (by decide)) (by rfl) (pa_cons (pv 0) (pa_cons pe_int pa_nil))) pa_nil)) (pe_slice sl_list (pv 0) (po_some pe_int) po_none))) (pg_name (i := 5) sc.nd rfl (Or.inl rfl))
  (pss_cons (ps_set (i := 6) sc.nd rfl (Or.inl rfl) (pe_op op_fdivB (pv 5) pe_int))
  (pss_cons (ps_set (i := 7) sc.nd rfl (Or.inl rfl) (pe_op op_sub (pe_op op_mod (pv 6) (pe_op op_add (pe_ix ix_tup (pv 1) pe_int (fun _ _ => rfl)) pe_int)) pe_int))
  (pss_cons (ps_if (pt_cmpR op_gt (pe_op op_mod (pv 5) pe_int) pe_int (nomark _))
  (pss_one (ps_set (i := 7) sc.nd rfl (Or.inl rfl) (pe_op op_mod (pv 6) (pe_ix ix_tup (pv 1) pe_int (fun _ _ => rfl)))))
  pss_nil)
  (pss_one (ps_expr (pe_bm PySem.F.plainAttrs_list PySem.F.slot_list_append PySem.F.type_list_append mt_append (pv 4) (pa_cons (pe_tup (pa_cons (pv 7) (pa_cons (pe_op op_sub (pe_op op_mod (pe_op op_fdivB (pv 6) pe_int) (pe_op op_add (pe_ix ix_tup (pv 1) pe_int (fun _ _ => rfl)) pe_int)) pe_int) (pa_cons (pe_op op_sub (pe_op op_mod (pe_op op_fdivB (pv 6) pe_int) (pe_op op_add (pe_ix ix_tup (pv 1) pe_int (fun _ _ => rfl)) pe_int)) pe_int) pa_nil)))) pa_nil))))))))
  (pss_cons (ps_set (i := 5) sc.nd rfl (Or.inl rfl) (pe_cal gCell (hr.mono (by decide)) (by rfl) (pa_cons (pv 0) (pa_cons pe_int pa_nil))))
  (pss_cons (ps_for PassesOwn.never rfl (pi_list (pe_slice sl_list (pv 2) po_none (po_some pe_int))) (pg_name (i := 8) sc.nd rfl (Or.inl rfl))
  (pss_cons (ps_for PassesOwn.never rfl (pi_tup (pe_tup (pa_cons (pv 3) (pa_cons (pe_op op_add (pv 3) pe_int) pa_nil)))) (pg_name (i := 9) sc.nd rfl (Or.inl rfl))
  (pss_one (ps_expr (pe_bm PySem.F.plainAttrs_list PySem.F.slot_list_append PySem.F.type_list_append mt_append (pv 4) (pa_cons (pe_tup (pa_cons (pe_ix ix_tup (pv 8) pe_int (fun _ _ => rfl)) (pa_cons (pe_op op_add (pe_ix ix_tup (pv 8) pe_int (fun _ _ => rfl)) (pe_op op_mul (pv 9) (pe_op op_sub (pe_op op_mod (pv 5) pe_int) pe_int))) (pa_cons (pe_op op_add (pe_ix ix_tup (pv 8) pe_int (fun _ _ => rfl)) (pe_op op_mul (pv 9) (pe_op op_sub (pe_op op_mod (pe_op op_fdivB (pv 5) pe_int) pe_int) pe_int))) pa_nil)))) pa_nil)))))
  (pss_one (ps_set (i := 5) sc.nd rfl (Or.inl rfl) (pe_op op_add (pe_op op_fdivB (pv 5) pe_int) pe_int)))))
  (pss_one (ps_ret (pv 4))))))), ?_⟩
  have hsz : sizeLine = 2 ^ 24 := rfl
  have hl0 := sz.l0
  have hr0 := sz.r0
  have hc0 := sz.c0
  have hr1 := sz.r1
  have hc1 := sz.c1
  refine ⟨Nat.zero_le _, fun g ng => ?_⟩
  have s1 : Same H (upd H g (.lst [])) := (Same.refl H).upd ng
  have hg1 : upd H g (.lst []) g = some (.lst []) := upd_same
  revert s1 hg1
  generalize upd H g (.lst []) = H1
  intro s1 hg1
  have hcl : (cutV (ns.map V.int) (some 5) none).length ≤ 63 := Nat.le_trans (cutV_length _ _ _) (by rw [List.length_map]; exact hn)
  refine ⟨_, rfl, a, ns, 4, rfl, s1.seq ha, by decide, (by show 1 ≤ sizeLine; decide), fun l1 n1 => ?_⟩
  have s2 := (Same.refl H1).upd n1 (o := .lst [.int (cellV ns 4)])
  have hl1 : upd H1 l1 (.lst [.int (cellV ns 4)]) l1 = some (.lst [.int (cellV ns 4)]) := upd_same
  revert s2 hl1
  generalize upd H1 l1 (.lst [.int (cellV ns 4)]) = H2
  intro s2 hl1
  refine ⟨_, rfl, 5, rfl, a, _, rfl, (s1.trans s2).seq ha, fun l2 n2 => ?_⟩
  have s3 := (Same.refl H2).upd n2 (o := .lst (cutV (ns.map V.int) (some 5) none))
  have hl2 : upd H2 l2 (.lst (cutV (ns.map V.int) (some 5) none)) l2 = some (.lst (cutV (ns.map V.int) (some 5) none)) := upd_same
  revert s3 hl2
  generalize upd H2 l2 (.lst (cutV (ns.map V.int) (some 5) none)) = H3
  intro s3 hl2
  refine ⟨l1, l2, _, _, rfl, rfl, s3 _ _ hl1, hl2, by show 1 + _ ≤ _; omega, fun p np => ⟨p, rfl, ⟨_, SqL.of upd_same⟩, ?_⟩⟩
  obtain ⟨xs, hxs⟩ : ∃ xs, [V.int (cellV ns 4)] ++ cutV (ns.map V.int) (some 5) none = xs := ⟨_, rfl⟩
  have hxi : ∀ (i : Nat) (x : V), xs[i]? = some x → ∃ c, x = .int c := by
    intro i x hx
    rw [← hxs] at hx
    rcases List.mem_append.mp (List.mem_of_getElem? hx) with h | h
    · exact ⟨_, List.mem_singleton.mp h⟩
    · obtain ⟨j, hj⟩ := List.mem_iff_getElem?.mp h
      exact cut_int hj
  have hxl : xs.length ≤ 64 := by rw [← hxs, List.length_append]; show 1 + _ ≤ _; omega
  rw [hxs]
  have s4 : Same H3 (upd H3 p (.lst xs)) := (Same.refl H3).upd np
  have hp4 : upd H3 p (.lst xs) p = some (.lst xs) := upd_same
  revert s4 hp4
  generalize upd H3 p (.lst xs) = H4
  intro s4 hp4
  have s24 := s2.trans (s3.trans s4)
  have s14 := s1.trans s24
  have ngp : g ≠ p := ne_of_none (s3 _ _ (s2 _ _ hg1)) np
  refine for_list (K := K) (xs := xs) (fun i σ H' => ∃ (x5 x6 x7 : Option V) (bs : List Addr) (qs : List Sp3), σ = [some (.ref a), some (.ref z), some (.ref l), some (.int half), some (.ref g), x5, x6, x7, none, none] ∧ Same H H' ∧ H' p = some (.lst xs) ∧ H' g = some (.lst (bs.map V.ref)) ∧ Spots H' bs qs ∧ (∀ q ∈ qs, Near q) ∧ bs.length ≤ i)
    ⟨none, none, none, [], [], rfl, s14, hp4, s24 _ _ hg1, .nil, (fun _ h => nomatch h), Nat.le_refl _⟩ (fun i σ H' _ ⟨_, _, _, _, _, _, _, e, _⟩ => SqL.of e) ?_ ?_
  · rintro i x σ H5 hx ⟨x5, x6, x7, bs, qs, rfl, s5, hp5, hg5, hsp5, hnear, hbl⟩
    obtain ⟨c, rfl⟩ := hxi i x hx
    have hi : i < 64 := Nat.lt_of_lt_of_le (List.getElem?_eq_some_iff.mp hx).1 hxl
    have hz5 := s5 _ _ hz
    refine gn ?_
    refine sq_set (v := .int (c / 7)) (ev_I (ev_var rfl) ev_c (cdB (by decide) (by decide))) ?_
    refine sq_set (v := .int (c / 7 % (L + 2) - 1)) (ev_I0 (ev_I (ev_var rfl) (ev_I0 (ev_ixT (v := .int L) (ev_var rfl) ev_c (SqT.of hz5) rfl) ev_c) (by show (0 : Int) < L + 2; omega)) ev_c) ?_
    refine sq_ifJ (P := fun v => ∃ n : Int, v = .int n) (et_test (ev_gt (ev_I (ev_var rfl) ev_c (by show (0 : Int) < 7; decide)) ev_c)) (fun e => ⟨_, ev_I (ev_var rfl) (ev_ixT (v := .int L) (ev_var rfl) ev_c (SqT.of hz5) rfl) (by show (0 : Int) < L; omega), _, rfl⟩) (fun _ => ⟨_, rfl, _, rfl⟩) ?_
    rintro v ⟨ly, rfl⟩
    refine ⟨_, rfl, .inl ⟨rfl, _, SqL.of hg5⟩, ?_⟩
    have y0 := Int.emod_nonneg (c / 7 / 6) (show R + 4 ≠ 0 by omega)
    have y1 := Int.emod_lt_of_pos (c / 7 / 6) (show 0 < R + 4 by omega)
    have z0 := Int.emod_nonneg (c / 7 / 120) (show C + 4 ≠ 0 by omega)
    have z1 := Int.emod_lt_of_pos (c / 7 / 120) (show 0 < C + 4 by omega)
    refine te_tup (vs := [.int ly, .int (c / 7 / 6 % (R + 4) - 2), .int (c / 7 / 120 % (C + 4) - 2)]) (ea_cons (ev_var rfl) (ea_cons (ev_I0 (ev_I (ev_I (ev_var rfl) ev_c (cdB (by decide) (by decide))) (ev_I0 (ev_ixT (v := .int R) (ev_var rfl) ev_c (SqT.of hz5) rfl) ev_c) (by show (0 : Int) < R + 4; omega)) ev_c) (ea_cons (ev_I0 (ev_I (ev_I (ev_var rfl) ev_c (cdB (by decide) (by decide))) (ev_I0 (ev_ixT (v := .int C) (ev_var rfl) ev_c (SqT.of hz5) rfl) ev_c) (by show (0 : Int) < C + 4; omega)) ev_c) ea_nil))) (by show 3 ≤ sizeLine; decide) fun t nt => ?_
    generalize c / 7 / 6 % (R + 4) = yy at y0 y1 ⊢
    generalize c / 7 / 120 % (C + 4) = zz at z0 z1 ⊢
    have ntg : t ≠ g := Ne.symm (ne_of_none hg5 nt)
    have ntp : t ≠ p := Ne.symm (ne_of_none hp5 nt)
    refine ⟨g, _, _, rfl, rfl, by rw [upd_ne (Ne.symm ntg)]; exact hg5, by rw [List.length_map]; omega, ?_⟩
    have keep : ∀ b xs, H5 b = some (.tup xs) → upd (upd H5 t (.tup [.int ly, .int (yy - 2), .int (zz - 2)])) g (.lst (bs.map V.ref ++ [.ref t])) b = some (.tup xs) := fun b xs e => by
      rw [upd_ne (ne_of e hg5 (fun z => nomatch z)), upd_ne (ne_of_none e nt)]; exact e
    refine ⟨_, _, _, bs ++ [t], qs ++ [(ly, yy - 2, zz - 2)], rfl, same_at (s5.upd nt) ng, by rw [upd_ne (Ne.symm ngp), upd_ne (Ne.symm ntp)]; exact hp5, by rw [upd_same, List.map_append]; rfl, spots_app (hsp5.mono keep) (.cons (by rw [upd_ne ntg, upd_same]; rfl) .nil), fun u hu => ?_, by rw [List.length_append]; show bs.length + 1 ≤ _; omega⟩
    rcases List.mem_append.mp hu with hu | hu
    · exact hnear u hu
    · rw [List.mem_singleton.mp hu]
      exact ⟨by show -100 ≤ yy - 2; omega, by show yy - 2 ≤ 100; omega, by show -100 ≤ zz - 2; omega, by show zz - 2 ≤ 100; omega⟩
  rintro σ H5 ⟨x5, x6, x7, bs, qs, rfl, s5, hp5, hg5, hsp5, hnear, hbl⟩
  refine st ?_
  refine sq_cal (ea_cons (ev_var rfl) (ea_cons ev_c ea_nil)) ⟨a, ns, 3, rfl, s5.seq ha, by decide, ?_⟩
  refine ⟨_, rfl, 12, rfl, l, _, rfl, SqL.of (s5 _ _ hl), fun p2 np2 => ⟨p2, rfl, ⟨_, SqL.of upd_same⟩, ?_⟩⟩
  have hcl2 : (cutV (as.map V.ref) none (some 12)).length ≤ 12 := by
    unfold cutV
    rw [List.length_take]
    refine Nat.le_trans (Nat.min_le_left _ _) ?_
    have : HT.sIx (as.map V.ref).length (as.map V.ref).length (some 12) ≤ 12 := by
      rw [show HT.sIx (as.map V.ref).length (as.map V.ref).length (some 12) = min 12 (as.map V.ref).length from HT.sIx_nat _ _ 12]
      exact Nat.min_le_left _ _
    omega
  obtain ⟨ys, hys⟩ : ∃ ys, cutV (as.map V.ref) none (some 12) = ys := ⟨_, rfl⟩
  have hym : ∀ (i : Nat) (x : V), ys[i]? = some x → ∃ b, b ∈ as ∧ x = .ref b := by
    intro i x hx
    rw [← hys] at hx
    obtain ⟨b, hb, e⟩ := List.mem_map.mp (cut_mem hx)
    exact ⟨b, hb, e.symm⟩
  rw [hys] at hcl2
  rw [hys]
  have s6 : Same H5 (upd H5 p2 (.lst ys)) := (Same.refl H5).upd np2
  have hp6 : upd H5 p2 (.lst ys) p2 = some (.lst ys) := upd_same
  have ngp2 : g ≠ p2 := ne_of_none hg5 np2
  revert s6 hp6
  generalize upd H5 p2 (.lst ys) = H6
  intro s6 hp6
  generalize cellV ns 3 = c3
  have hbl2 : bs.length ≤ 64 := Nat.le_trans hbl hxl
  refine for_list (K := K) (xs := ys) (fun i σ H' => ∃ (c : Int) (x8 x9 : Option V) (bs : List Addr) (qs : List Sp3), σ = [some (.ref a), some (.ref z), some (.ref l), some (.int half), some (.ref g), some (.int c), x6, x7, x8, x9] ∧ Same H H' ∧ H' p2 = some (.lst ys) ∧ H' g = some (.lst (bs.map V.ref)) ∧ Spots H' bs qs ∧ (∀ q ∈ qs, Near q) ∧ bs.length ≤ 64 + 2 * i)
    ⟨c3, none, none, bs, qs, rfl, s5.trans s6, hp6, s6 _ _ hg5, hsp5.same s6, hnear, hbl2⟩ (fun i σ H' _ ⟨_, _, _, _, _, _, _, e, _⟩ => SqL.of e) ?_ ?_
  · rintro i x σ H7 hx ⟨c, x8, x9, bs, qs, rfl, s7, hp7, hg7, hsp7, hnear7, hbl7⟩
    obtain ⟨rk, hrk, rfl⟩ := hym i x hx
    have hi : i < 12 := Nat.lt_of_lt_of_le (List.getElem?_eq_some_iff.mp hx).1 hcl2
    obtain ⟨u, hu, hru⟩ := hsp.mem hrk
    obtain ⟨i1, i2, i3, i4, i5, i6⟩ := hin u hu
    refine gn ?_
    refine ⟨_, rfl, _, rfl, _, _, rfl, rfl, (by show 2 ≤ sizeLine; decide), fun t nt => ⟨t, rfl, ⟨_, SqT.of upd_same⟩, ?_⟩⟩
    have s8 : Same H7 (upd H7 t (.tup [.int half, .int (half + 1)])) := (Same.refl H7).upd nt
    have ht8 : upd H7 t (.tup [.int half, .int (half + 1)]) t = some (.tup [.int half, .int (half + 1)]) := upd_same
    revert s8 ht8
    generalize upd H7 t (.tup [.int half, .int (half + 1)]) = H8
    intro s8 ht8
    refine for_tup (K := K) (xs := [.int half, .int (half + 1)]) (fun j σ H' => ∃ (x9 : Option V) (bs : List Addr) (qs : List Sp3), σ = [some (.ref a), some (.ref z), some (.ref l), some (.int half), some (.ref g), some (.int c), x6, x7, some (.ref rk), x9] ∧ Same H H' ∧ H' t = some (.tup [.int half, .int (half + 1)]) ∧ H' p2 = some (.lst ys) ∧ H' g = some (.lst (bs.map V.ref)) ∧ Spots H' bs qs ∧ (∀ q ∈ qs, Near q) ∧ bs.length ≤ 64 + 2 * i + j)
      ⟨_, bs, qs, rfl, s7.trans s8, ht8, s8 _ _ hp7, s8 _ _ hg7, hsp7.same s8, hnear7, hbl7⟩ (fun j σ H' _ ⟨_, _, _, _, _, e, _⟩ => SqT.of e) ?_ ?_
    · rintro j x σ H9 hx ⟨x9', bs, qs, rfl, s9, ht9, hp9, hg9, hsp9, hnear9, hbl9⟩
      obtain ⟨f, rfl, f0, f3⟩ : ∃ f : Int, x = .int f ∧ 0 ≤ f ∧ f ≤ 3 := by
        match j, hx with
        | 0, hx => exact ⟨half, (Option.some.inj hx).symm, h0, by omega⟩
        | 1, hx => exact ⟨half + 1, (Option.some.inj hx).symm, by omega, by omega⟩
      have hj : j < 2 := (List.getElem?_eq_some_iff.mp hx).1
      have hr9 := s9 _ _ hru
      refine gn ?_
      refine ⟨_, rfl, .inl ⟨rfl, _, SqL.of hg9⟩, ?_⟩
      have m1 : c % 3 - 1 = -1 ∨ c % 3 - 1 = 0 ∨ c % 3 - 1 = 1 := by omega
      have m2 : c / 3 % 3 - 1 = -1 ∨ c / 3 % 3 - 1 = 0 ∨ c / 3 % 3 - 1 = 1 := by omega
      refine te_tup (vs := [.int u.1, .int (u.2.1 + f * (c % 3 - 1)), .int (u.2.2 + f * (c / 3 % 3 - 1))]) (ea_cons (ev_ixT (v := .int u.1) (ev_var rfl) ev_c (SqT.of hr9) rfl) (ea_cons (ev_I0 (ev_ixT (v := .int u.2.1) (ev_var rfl) ev_c (SqT.of hr9) rfl) (ev_I (ev_var rfl) (ev_I0 (ev_I (ev_var rfl) ev_c (by show (0 : Int) < 3; decide)) ev_c) (cmL (by omega) (by omega)))) (ea_cons (ev_I0 (ev_ixT (v := .int u.2.2) (ev_var rfl) ev_c (SqT.of hr9) rfl) (ev_I (ev_var rfl) (ev_I0 (ev_I (ev_I (ev_var rfl) ev_c (cdB (by decide) (by decide))) ev_c (by show (0 : Int) < 3; decide)) ev_c) (cmL (by omega) (by omega)))) ea_nil))) (by show 3 ≤ sizeLine; decide) fun t2 nt2 => ?_
      generalize c % 3 - 1 = d1 at m1 ⊢
      generalize c / 3 % 3 - 1 = d2 at m2 ⊢
      have nr : Near (u.1, u.2.1 + f * d1, u.2.2 + f * d2) := by
        refine ⟨?_, ?_, ?_, ?_⟩
        · show -100 ≤ u.2.1 + f * d1; rcases m1 with e | e | e <;> rw [e] <;> omega
        · show u.2.1 + f * d1 ≤ 100; rcases m1 with e | e | e <;> rw [e] <;> omega
        · show -100 ≤ u.2.2 + f * d2; rcases m2 with e | e | e <;> rw [e] <;> omega
        · show u.2.2 + f * d2 ≤ 100; rcases m2 with e | e | e <;> rw [e] <;> omega
      have ntg : t2 ≠ g := Ne.symm (ne_of_none hg9 nt2)
      have ntp : t2 ≠ p2 := Ne.symm (ne_of_none hp9 nt2)
      refine ⟨g, _, _, rfl, rfl, by rw [upd_ne (Ne.symm ntg)]; exact hg9, by rw [List.length_map]; omega, ?_⟩
      have keep : ∀ b xs, H9 b = some (.tup xs) → upd (upd H9 t2 (.tup [.int u.1, .int (u.2.1 + f * d1), .int (u.2.2 + f * d2)])) g (.lst (bs.map V.ref ++ [.ref t2])) b = some (.tup xs) := fun b xs e => by
        rw [upd_ne (ne_of e hg9 (fun z => nomatch z)), upd_ne (ne_of_none e nt2)]; exact e
      refine ⟨_, bs ++ [t2], qs ++ [(u.1, u.2.1 + f * d1, u.2.2 + f * d2)], rfl, same_at (s9.upd nt2) ng, keep _ _ ht9, by rw [upd_ne (Ne.symm ngp2), upd_ne (Ne.symm ntp)]; exact hp9, by rw [upd_same, List.map_append]; rfl, spots_app (hsp9.mono keep) (.cons (by rw [upd_ne ntg, upd_same]; rfl) .nil), fun v hv => ?_, by rw [List.length_append]; show bs.length + 1 ≤ _; omega⟩
      rcases List.mem_append.mp hv with hv | hv
      · exact hnear9 v hv
      · rw [List.mem_singleton.mp hv]; exact nr
    · rintro σ H9 ⟨x9', bs, qs, rfl, s9, ht9, hp9, hg9, hsp9, hnear9, hbl9⟩
      refine st (rd_set (ev_I0 (ev_I (ev_var rfl) ev_c (cdB (by decide) (by decide))) ev_c) ?_)
      exact ⟨_, _, _, bs, qs, rfl, s9, hp9, hg9, hsp9, hnear9, by have : [V.int half, V.int (half + 1)].length = 2 := rfl; omega⟩
  · rintro σ H7 ⟨c, x8, x9, bs, qs, rfl, s7, hp7, hg7, hsp7, hnear7, hbl7⟩
    exact st (rd_ret (ev_var rfl) (q _ g bs qs s7 hg7 hsp7 hnear7))
theorem ok_law {cThing cNet cBundle cFloor cMS : Addr} {f : Addr} {fd : FuncData} (F : Fun K "law" "law" slaw f fd) (T : Txt K mg cThing cNet cBundle cFloor cMS) (gCell : Callee P w K mg base "_law_cell_at" 1 ["script", "k"] (spCell K)) (gFInit : KCalleeN P w K mg base cFloor "Floor" 3 ["self", "sizes", "prices", "vias", "rocks", "tolls"] (spFInit cFloor)) (gFits : Callee P w K mg base "fits" 4 ["floor", "thing", "spot"] (spFits cNet cBundle cFloor)) (gNInit : KCallee P w K mg base cNet "Net" 3 ["self", "name", "pins", "half", "room"] (spNInit cNet)) (gBInit : KCallee P w K mg base cBundle "Bundle" 3 ["self", "name", "starts", "goals", "room"] (spBInit cBundle)) (gSizes : Callee P w K mg base "_law_sizes" 1 ["cell"] spSizes) (gRocks : Callee P w K mg base "_law_rocks" 1 ["script", "sizes"] (spRocks K)) (gMarks : Callee P w K mg base "_law_marks" 1 ["spots"] spMarks) (gDue : Callee P w K mg base "_law_due" 2 ["sizes", "rocks", "half", "spot"] spDue) (gAsked : Callee P w K mg base "_law_asked" 2 ["script", "sizes", "rocks", "half"] (spAsked K)) : FnOk P w K mg base CX0 5 f fd ["script"] (spLaw K) := by
  have sc : FnScope ["script", "sizes", "rocks", "floor", "half", "room", "thing", "marks", "spot", "found"] ["script"] (defScope slaw) := ⟨rfl, rfl, rfl, by decide +kernel, rfl, by decide +kernel, by decide +kernel⟩
  refine F.ok sc (fun vs H Q E h => by repeat (first | (obtain ⟨rfl, _⟩ := h; rfl) | (obtain ⟨_, h⟩ := h))) (fun cdv A outer s H vs Q E hr h => ?_)
  obtain ⟨a, ns, rfl, ha, hle, q⟩ := h
  refine ⟨_, (pss_cons (ps_set (i := 1) sc.nd rfl (Or.inl rfl) (pe_cal gSizes (hr.mono (by decide)) (by rfl) (pa_cons (pe_cal gCell (hr.mono (by decide)) (by rfl) (pa_cons (pv 0) (pa_cons pe_int pa_nil))) pa_nil)))
  (pss_cons (ps_set (i := 2) sc.nd rfl (Or.inl rfl) (pe_cal gRocks (hr.mono (by decide)) (by rfl) (pa_cons (pv 0) (pa_cons (pv 1) pa_nil))))
  (pss_cons (ps_set (i := 3) sc.nd rfl (Or.inl rfl) (pe_mkN gFInit (hr.mono (by decide)) (by rfl) (pa_cons (pv 1) (pa_cons (pe_lc (ls := ["k"]) (ys := []) (ix := []) rfl ⟨rfl, by rfl, by rfl, by rfl, by rfl, rfl⟩ (pi_range1 (by rfl) T.range_ (pa_cons (pe_ix ix_tup (pv 1) pe_int (fun _ _ => rfl)) pa_nil)) (fun _ _ _ _ _ => (pg_name (i := 0) (show (["k"] : List Str).Nodup by decide +kernel) rfl (Or.inl rfl))) (fun _ _ _ _ _ => pf_nil) (fun _ _ _ _ _ => (pe_tup (pa_cons pe_int (pa_cons pe_int pa_nil))))) (pa_cons (pe_lc (ls := ["k"]) (ys := []) (ix := []) rfl ⟨rfl, by rfl, by rfl, by rfl, by rfl, rfl⟩ (pi_range1 (by rfl) T.range_ (pa_cons (pe_op op_sub (pe_ix ix_tup (pv 1) pe_int (fun _ _ => rfl)) pe_int) pa_nil)) (fun _ _ _ _ _ => (pg_name (i := 0) (show (["k"] : List Str).Nodup by decide +kernel) rfl (Or.inl rfl))) (fun _ _ _ _ _ => pf_nil) (fun _ _ _ _ _ => pe_int)) (pa_cons (pe_callTy call_list_of (by rfl) T.list_ bt_list (pa_cons (pv 2) pa_nil)) pa_nil))))))
  (pss_cons (ps_set (i := 4) sc.nd rfl (Or.inl rfl) (pe_op op_mod (pe_cal gCell (hr.mono (by decide)) (by rfl) (pa_cons (pv 0) (pa_cons pe_int pa_nil))) pe_int))
  (pss_cons (ps_set (i := 5) sc.nd rfl (Or.inl rfl) (pe_op op_mod (pe_cal gCell (hr.mono (by decide)) (by rfl) (pa_cons (pv 0) (pa_cons pe_int pa_nil))) pe_int))
  (pss_cons (ps_set (i := 6) sc.nd rfl (Or.inl rfl) (pe_mk gNInit (hr.mono (by decide)) (by rfl) (pa_cons pe_str (pa_cons (pe_lst (pa_cons (pe_tup (pa_cons pe_int (pa_cons pe_int (pa_cons pe_int pa_nil)))) (pa_cons (pe_tup (pa_cons pe_int (pa_cons pe_int (pa_cons pe_int pa_nil)))) pa_nil))) (pa_cons (pv 4) (pa_cons (pv 5) pa_nil))))))
  (pss_cons (ps_if (pw_and (pt_cmpR op_eq (pv 4) pe_int (nomark _)) (pw_and1 (pt_cmpR op_eq (pe_op op_mod (pe_op op_fdivB (pe_cal gCell (hr.mono (by decide)) (by rfl) (pa_cons (pv 0) (pa_cons pe_int pa_nil))) pe_int) pe_int) pe_int (nomark _)))).pt
  (pss_one (ps_set (i := 6) sc.nd rfl (Or.inl rfl) (pe_mk gBInit (hr.mono (by decide)) (by rfl) (pa_cons pe_str (pa_cons (pe_lst (pa_cons (pe_tup (pa_cons pe_int (pa_cons pe_int (pa_cons pe_int pa_nil)))) pa_nil)) (pa_cons (pe_lst (pa_cons (pe_tup (pa_cons pe_int (pa_cons pe_int (pa_cons pe_int pa_nil)))) pa_nil)) (pa_cons (pv 5) pa_nil)))))))
  pss_nil)
  (pss_cons (ps_set (i := 7) sc.nd rfl (Or.inl rfl) (pe_cal gMarks (hr.mono (by decide)) (by rfl) (pa_cons (pv 2) pa_nil)))
  (pss_cons (ps_for PassesOwn.never rfl (pi_list (pe_cal gAsked (hr.mono (by decide)) (by rfl) (pa_cons (pv 0) (pa_cons (pv 1) (pa_cons (pv 2) (pa_cons (pv 4) pa_nil)))))) (pg_name (i := 8) sc.nd rfl (Or.inl rfl))
  (pss_cons (ps_set (i := 9) sc.nd rfl (Or.inl rfl) (pe_cal gFits (hr.mono (by decide)) (by rfl) (pa_cons (pv 3) (pa_cons (pv 6) (pa_cons (pv 8) pa_nil)))))
  (pss_one (ps_if (pw_or (pt_not (pt_val (pe_callB call_isinst (by rfl) T.isinstance_ bt_isinstance (pa_cons (pv 9) (pa_cons (pe_bltn (v := .ty "bool") (by rfl) T.bool_ bt_bool (by rfl)) pa_nil))))) (pw_or1 (pt_cmpR op_ne (pv 9) (pe_cal gDue (hr.mono (by decide)) (by rfl) (pa_cons (pv 1) (pa_cons (pv 7) (pa_cons (pv 4) (pa_cons (pv 8) pa_nil))))) (nomark _)))).pt
  (pss_one (ps_ret pe_bl))
  pss_nil))))
  (pss_one (ps_ret pe_bl))))))))))), ?_⟩
  have hsz : sizeLine = 2 ^ 24 := rfl
  refine sq_asg ⟨_, rfl, a, ns, 0, rfl, ha, Int.le_refl 0, _, rfl, fun z L R C nz sz => ?_⟩
  have s1 : Same H (upd H z (.tup [.int L, .int R, .int C])) := (Same.refl H).upd nz
  have hz1 : T3 (upd H z (.tup [.int L, .int R, .int C])) z L R C := upd_same
  revert s1 hz1
  generalize upd H z (.tup [.int L, .int R, .int C]) = H1
  intro s1 hz1
  have hl0 := sz.l0
  have hl1 := sz.l1
  refine sq_cal (ea_cons (ev_var rfl) (ea_cons (ev_var rfl) ea_nil)) ⟨a, z, ns, L, R, C, rfl, s1.seq ha, hle, hz1, sz, fun H2 ro as rs s2 hro hsp hin hfew => ?_⟩
  have hz2 := s2 _ _ hz1
  have len : as.length = rs.length := Paired.length hsp
  refine sq_asg ⟨_, rfl, _, rfl, z, _, 0, .int L, rfl, rfl, SqT.of hz2, rfl, L, rfl, by omega, by omega, fun D nD => ?_⟩
  refine lc_range (n := L.toNat) (fun i τ H' => ∃ (x0 : Option V) (ps : List Addr), τ = [x0] ∧ Same H2 H' ∧ H' D = some (.lst (ps.map V.ref)) ∧ ps.length = i ∧ ∀ b ∈ ps, H' b = some (.tup [.int 1, .int 1])) ⟨none, [], rfl, (Same.refl H2).upd nD, upd_same, rfl, (fun _ h => nomatch h)⟩ ?_ ?_
  · rintro i τ H' hi ⟨x0, ps, rfl, s, hD, hpl, hps⟩
    refine gn (lc_el ?_)
    refine ⟨(by show 2 ≤ sizeLine; decide), fun t nt => ?_⟩
    have ntD : t ≠ D := Ne.symm (ne_of_none hD nt)
    have keep : ∀ b xs, H' b = some (.tup xs) → upd (upd H' t (.tup [.int 1, .int 1])) D (.lst (ps.map V.ref ++ [.ref t])) b = some (.tup xs) := fun b xs e => by
      rw [upd_ne (ne_of e hD (fun z => nomatch z)), upd_ne (ne_of_none e nt)]; exact e
    refine ⟨_, by rw [upd_ne (Ne.symm ntD)]; exact hD, by rw [List.length_map]; omega, _, ps ++ [t], rfl, same_at (s.upd nt) nD, by rw [upd_same, List.map_append]; rfl, by rw [List.length_append]; show ps.length + 1 = _; omega, fun b hb => ?_⟩
    rcases List.mem_append.mp hb with hb | hb
    · exact keep _ _ (hps b hb)
    · rw [List.mem_singleton.mp hb, upd_ne ntD, upd_same]
  rintro τ H3 ⟨x0, ps, rfl, s3, hD3, hpl, hps⟩
  refine ⟨_, rfl, z, _, 0, .int L, rfl, rfl, SqT.of (s3 _ _ hz2), rfl, _, _, rfl, rfl, L - 1, rfl, by omega, by omega, fun E nE => ?_⟩
  refine lc_range (n := (L - 1).toNat) (fun i τ H' => ∃ x0 : Option V, τ = [x0] ∧ H' = upd H3 E (.lst (List.replicate i (.int 1)))) ⟨none, rfl, rfl⟩ ?_ ?_
  · rintro i τ H' hi ⟨x0', rfl, rfl⟩
    refine gn (lc_el ?_)
    refine ⟨_, upd_same, by rw [List.length_replicate]; omega, _, rfl, ?_⟩
    rw [upd_upd, List.replicate_succ']
  rintro τ H4 ⟨x0', rfl, rfl⟩
  have s4 : Same H3 (upd H3 E (.lst (List.replicate (L - 1).toNat (.int 1)))) := (Same.refl H3).upd nE
  have hE4 : upd H3 E (.lst (List.replicate (L - 1).toNat (.int 1))) E = some (.lst (List.replicate (L - 1).toNat (.int 1))) := upd_same
  revert s4 hE4
  generalize upd H3 E (.lst (List.replicate (L - 1).toNat (.int 1))) = H4
  intro s4 hE4
  have s24 := s3.trans s4
  have hpr : Prices H4 D E L := ⟨ps, (L - 1).toNat, s4 _ _ hD3, by omega, fun b hb => s4 _ _ (hps b hb), hE4, by omega⟩
  refine ⟨_, rfl, ro, _, rfl, .inl (SqL.of (s24 _ _ hro)), fun r2 nr2 => ?_⟩
  have s5 : Same H4 (upd H4 r2 (.lst (as.map V.ref))) := (Same.refl H4).upd nr2
  have hr5 : upd H4 r2 (.lst (as.map V.ref)) r2 = some (.lst (as.map V.ref)) := upd_same
  revert s5 hr5
  generalize upd H4 r2 (.lst (as.map V.ref)) = H5
  intro s5 hr5
  have s25 := s24.trans s5
  refine fun fp dx np ndx ne => ?_
  have s6 := same_make (C := cFloor) np ndx
  refine ⟨fp, dx, z, D, E, r2, L, R, C, as, rs, rfl, upd_same, s6 _ _ (s25 _ _ hz2), sz, (hpr.same s5).same s6, s6 _ _ hr5, hsp.same (s25.trans s6), hin, hfew, fun H7 b7 fl => ⟨rfl, ?_⟩⟩
  have s27 : Same H2 H7 := ButP.same (s25.trans s6) (s25.free np) b7
  have s07 := s1.trans (s2.trans s27)
  have ha7 := s07.seq ha
  obtain ⟨h, hh⟩ : ∃ h : Int, cellV ns 1 % 3 = h := ⟨_, rfl⟩
  obtain ⟨m, hm⟩ : ∃ m : Int, cellV ns 2 % 4 = m := ⟨_, rfl⟩
  show tSeq _ _ _ _ _
  refine sq_set (v := .int h) (ev_of (ev_I (ev_call (ea_cons (ev_var rfl) (ea_cons ev_c ea_nil)) fun Q' q' => ⟨a, ns, 1, rfl, ha7, by decide, q'⟩) ev_c (by show (0 : Int) < 3; decide)) (by rw [← hh])) ?_
  refine sq_set (v := .int m) (ev_of (ev_I (ev_call (ea_cons (ev_var rfl) (ea_cons ev_c ea_nil)) fun Q' q' => ⟨a, ns, 2, rfl, ha7, by decide, q'⟩) ev_c (by show (0 : Int) < 4; decide)) (by rw [← hm])) ?_
  have h0 : 0 ≤ h := by omega
  have h2 : h ≤ 2 := by omega
  have m0 : 0 ≤ m := by omega
  have m3 : m ≤ 3 := by omega
  refine sq_asg ⟨(by show 3 ≤ sizeLine; decide), fun t1 n1 => ⟨(by show 3 ≤ sizeLine; decide), fun t2 n2 => ⟨(by show 2 ≤ sizeLine; decide), fun w1 n3 => ⟨_, rfl, _, rfl, fun tn dn ntn ndn ne2 => ?_⟩⟩⟩⟩
  have sa := (Same.refl H7).upd n1 (o := .tup [.int 0, .int 0, .int 0])
  have sb := (Same.refl _).upd n2 (o := .tup [.int 0, .int 0, .int 1])
  have sc' := (Same.refl _).upd n3 (o := .lst [.ref t1, .ref t2])
  have sd := same_make (C := cNet) ntn ndn
  have sabc := sa.trans (sb.trans sc')
  refine ⟨tn, dn, w1, [t1, t2], [[0, 0, 0], [0, 0, 1]], _, h, m, rfl, upd_same, sd _ _ upd_same, .cons (sd _ _ (sc' _ _ (sb _ _ upd_same))) (.cons (sd _ _ (sc' _ _ upd_same)) .nil), setok_net, by simp, by simp, nm_one, h0, h2, m0, m3, fun H8 fs b8 hp8 bs8 => ⟨rfl, ?_⟩⟩
  have s8 : Same H7 H8 := ButP.same (sabc.trans sd) (sabc.free ntn) b8
  have th8 : Th cNet cBundle H8 tn h m := ⟨cNet, dn, fs, hp8, .inl rfl, bs8.half, bs8.room⟩
  have ha8 := s8.seq ha7
  show tSeq _ _ _ _ _
  refine sq_ifR (fun σ H' => ∃ tt : Addr, σ = [some (.ref a), some (.ref z), some (.ref ro), some (.ref fp), some (.int h), some (.int m), some (.ref tt), none, none, none] ∧ Same H8 H' ∧ Th cNet cBundle H' tt h m)
    (et_and (et_test (ev_eqI (ev_var rfl) ev_c)) fun _ => et_test (ev_eqI (ev_I (ev_I (ev_call (ea_cons (ev_var rfl) (ea_cons ev_c ea_nil)) fun Q' q' => ⟨a, ns, 2, rfl, ha8, by decide, q'⟩) ev_c (cdB (by decide) (by decide))) ev_c (by show (0 : Int) < 2; decide)) ev_c)) (fun e Rk hR' => ?_) (fun e Rk hR' => ?_) ?_
  · rw [Bool.and_eq_true] at e
    have hz0 : h = 0 := of_decide_eq_true e.1
    refine ⟨(by show 3 ≤ sizeLine; decide), fun t1 n1 => ⟨(by show 1 ≤ sizeLine; decide), fun w1 n2 => ⟨(by show 3 ≤ sizeLine; decide), fun t2 n3 => ⟨(by show 1 ≤ sizeLine; decide), fun w2 n4 => ⟨_, rfl, fun tn dn ntn ndn ne2 => ?_⟩⟩⟩⟩⟩
    have sa := (Same.refl H8).upd n1 (o := .tup [.int 0, .int 0, .int 0])
    have sb := (Same.refl _).upd n2 (o := .lst [.ref t1])
    have sc' := (Same.refl _).upd n3 (o := .tup [.int 0, .int 0, .int 1])
    have sd := (Same.refl _).upd n4 (o := .lst [.ref t2])
    have se := same_make (C := cBundle) ntn ndn
    have sabc := sa.trans (sb.trans (sc'.trans sd))
    refine ⟨tn, dn, w1, w2, [t1], [t2], [[0, 0, 0]], [[0, 0, 1]], _, m, rfl, upd_same, se _ _ (sd _ _ (sc' _ _ upd_same)), se _ _ upd_same, .cons (se _ _ (sd _ _ (sc' _ _ (sb _ _ upd_same)))) .nil, .cons (se _ _ (sd _ _ upd_same)) .nil, setok_net, by simp, by simp, by simp, by simp, nm_one, m0, m3, fun H9 fs b9 hp9 bs9 => ⟨rfl, ?_⟩⟩
    exact hR' _ _ ⟨tn, rfl, ButP.same (sabc.trans se) (sabc.free ntn) b9, ⟨cBundle, dn, fs, hp9, .inr rfl, by rw [hz0]; exact bs9.half, bs9.room⟩⟩
  · exact hR' _ _ ⟨tn, rfl, Same.refl H8, th8⟩
  rintro σ H9 ⟨tt, rfl, s9, th9⟩
  have s29 := s27.trans (s8.trans s9)
  have s79 := s8.trans s9
  refine sq_cal (ea_cons (ev_var rfl) ea_nil) ⟨ro, as, rs, rfl, s29 _ _ hro, hsp.same s29, hfew, fun HA md kvs sA hmd dr => ?_⟩
  have s2A := s29.trans sA
  refine ⟨_, rfl, _, rfl, _, rfl, _, rfl, a, z, ro, ns, L, R, C, h, as, rs, rfl, (s79.trans sA).seq ha7, hle, s2A _ _ hz2, sz, s2A _ _ hro, hsp.same s2A, hin, h0, h2, fun HB sl bs qs sB hsl hqs hnear => ⟨sl, rfl, ⟨_, SqL.of hsl⟩, ?_⟩⟩
  have s2B := s2A.trans sB
  have flB := fl.same ((s79.trans sA).trans sB)
  have thB := th9.same (sA.trans sB)
  refine for_list (K := K) (xs := bs.map V.ref) (fun i σ H' => ∃ x8 x9 : Option V, σ = [some (.ref a), some (.ref z), some (.ref ro), some (.ref fp), some (.int h), some (.int m), some (.ref tt), some (.ref md), x8, x9] ∧ Same HB H') ⟨none, none, rfl, Same.refl HB⟩ (fun i σ H' _ ⟨_, _, _, s⟩ => SqL.of (s _ _ hsl)) ?_ ?_
  · rintro i x σ HC hx ⟨x8, x9, rfl, sC⟩
    obtain ⟨b, hb, rfl⟩ := at_ref hx
    obtain ⟨u, hu, hbu⟩ := Spots.at hqs hb
    refine gn ?_
    refine sq_cal (ea_cons (ev_var rfl) (ea_cons (ev_var rfl) (ea_cons (ev_var rfl) ea_nil))) ⟨fp, tt, b, L, R, C, rs, h, m, u, rfl, flB.same sC, sz, thB.same sC, h0, h2, sC _ _ hbu, fun HD k sD hk => ?_⟩
    have sBD := sC.trans sD
    refine if_of (or_F (et_not (et_B (ev_cb (ea_cons (ev_var rfl) (ea_cons ev_c ea_nil)) fun Q' q' => ⟨_, _, _, _, _, rfl, .ty "bool", .bl _, T.bb, q'⟩))) rfl ?_)
    refine ⟨_, rfl, _, rfl, _, rfl, _, rfl, _, rfl, z, md, b, L, R, C, h, kvs, rs, u, rfl, sBD _ _ (s2B _ _ hz2), sBD _ _ (sB _ _ hmd), dr, h0, h2, sBD _ _ hbu, hnear u (List.mem_of_getElem? hu), fun HE k' sE hk' => ⟨rfl, _, rfl, ?_⟩⟩
    have ekk : k = k' := by rw [Bool.eq_iff_iff]; exact hk.trans hk'.symm
    subst ekk
    have e0 : (!decide (V.bl k = V.bl k)) = false := by simp
    rw [e0]
    exact iteF ⟨_, _, rfl, sBD.trans sE⟩
  · rintro σ HC ⟨x8, x9, rfl, sC⟩
    exact q _
end
theorem all_mk {l : PySem.W.OpenLaw} {w : World} {K : PySem.W.Frag} {h : Heap} {mg : Str → Option Value} {fa : Addr} (X : K.In h) (G : h.Ns mainGlobals mg) (hfa : mg "law" = some (.ref fa))
    {cThing : Addr}
    {cNet : Addr}
    {cBundle : Addr}
    {cFloor : Addr}
    {cMS : Addr}
    {f0 : Addr} {od0 an0 : Option Addr} {sl0 : Array (Option Value)} {oc0 kV0 dc0 pm0 cd0 ct0 : Value}
    {f1 : Addr} {od1 an1 : Option Addr} {sl1 : Array (Option Value)} {oc1 kV1 dc1 pm1 cd1 ct1 : Value}
    {f2 : Addr} {od2 an2 : Option Addr} {sl2 : Array (Option Value)} {oc2 kV2 dc2 pm2 cd2 ct2 : Value}
    {f3 : Addr} {od3 an3 : Option Addr} {sl3 : Array (Option Value)} {oc3 kV3 dc3 pm3 cd3 ct3 : Value}
    {f4 : Addr} {od4 an4 : Option Addr} {sl4 : Array (Option Value)} {oc4 kV4 dc4 pm4 cd4 ct4 : Value}
    {f5 : Addr} {od5 an5 : Option Addr} {sl5 : Array (Option Value)} {oc5 kV5 dc5 pm5 cd5 ct5 : Value}
    {f6 : Addr} {od6 an6 : Option Addr} {sl6 : Array (Option Value)} {oc6 kV6 dc6 pm6 cd6 ct6 : Value}
    {f7 : Addr} {od7 an7 : Option Addr} {sl7 : Array (Option Value)} {oc7 kV7 dc7 pm7 cd7 ct7 : Value}
    {T7 : Addr} {do7 : Option Addr} {ds7 : Array (Option Value)} {dq7  : Value} {dn7 : Nat}
    {f8 : Addr} {od8 an8 : Option Addr} {sl8 : Array (Option Value)} {oc8 kV8 dc8 pm8 cd8 ct8 : Value}
    {f9 : Addr} {od9 an9 : Option Addr} {sl9 : Array (Option Value)} {oc9 kV9 dc9 pm9 cd9 ct9 : Value}
    {f10 : Addr} {od10 an10 : Option Addr} {sl10 : Array (Option Value)} {oc10 kV10 dc10 pm10 cd10 ct10 : Value}
    {f11 : Addr} {od11 an11 : Option Addr} {sl11 : Array (Option Value)} {oc11 kV11 dc11 pm11 cd11 ct11 : Value}
    {f12 : Addr} {od12 an12 : Option Addr} {sl12 : Array (Option Value)} {oc12 kV12 dc12 pm12 cd12 ct12 : Value}
    {f13 : Addr} {od13 an13 : Option Addr} {sl13 : Array (Option Value)} {oc13 kV13 dc13 pm13 cd13 ct13 : Value}
    {T13 : Addr} {do13 : Option Addr} {ds13 : Array (Option Value)} {dq13 du13_0 du13_1 : Value} {dn13 : Nat}
    {f14 : Addr} {od14 an14 : Option Addr} {sl14 : Array (Option Value)} {oc14 kV14 dc14 pm14 cd14 ct14 : Value}
    {T14 : Addr} {do14 : Option Addr} {ds14 : Array (Option Value)} {dq14 du14_0 : Value} {dn14 : Nat}
    {f15 : Addr} {od15 an15 : Option Addr} {sl15 : Array (Option Value)} {oc15 kV15 dc15 pm15 cd15 ct15 : Value}
    {f16 : Addr} {od16 an16 : Option Addr} {sl16 : Array (Option Value)} {oc16 kV16 dc16 pm16 cd16 ct16 : Value}
    {f17 : Addr} {od17 an17 : Option Addr} {sl17 : Array (Option Value)} {oc17 kV17 dc17 pm17 cd17 ct17 : Value}
    {f18 : Addr} {od18 an18 : Option Addr} {sl18 : Array (Option Value)} {oc18 kV18 dc18 pm18 cd18 ct18 : Value}
    {f19 : Addr} {od19 an19 : Option Addr} {sl19 : Array (Option Value)} {oc19 kV19 dc19 pm19 cd19 ct19 : Value}
    {f20 : Addr} {od20 an20 : Option Addr} {sl20 : Array (Option Value)} {oc20 kV20 dc20 pm20 cd20 ct20 : Value}
    {f21 : Addr} {od21 an21 : Option Addr} {sl21 : Array (Option Value)} {oc21 kV21 dc21 pm21 cd21 ct21 : Value}
    {tLETTERS : Tok}
    {tFIGURES : Tok}
    {tMOST_PRICE : Tok}
    {tMOST_SIGNS : Tok}
    {tMOST_HALF : Tok}
    {tMOST_ROOM : Tok}
    {tMOST_PINS : Tok}
    {tMOST_STARTS : Tok}
    {tMOST_GOALS : Tok}
    {odMS : Option Addr} {slMS : Array (Option Value)} {dnMS : Nat} {tMS0 : Tok} {tMS1 : Tok} {tMS2 : Tok}
    (n_Thing : PySem.W.nsIn K mainGlobals "Thing" = some (some (.ref cThing)))
    (n_Net : PySem.W.nsIn K mainGlobals "Net" = some (some (.ref cNet)))
    (n_Bundle : PySem.W.nsIn K mainGlobals "Bundle" = some (some (.ref cBundle)))
    (n_Floor : PySem.W.nsIn K mainGlobals "Floor" = some (some (.ref cFloor)))
    (a0 : PySem.W.nsIn K mainGlobals "_law_cell_at" = some (some (.ref f0)))
    (l0 : K.lookup f0 = some ⟨oc0, od0, .func (PySem.W.fnOf "_law_cell_at" "_law_cell_at" (defArgs sCell) (defBody sCell) (defScope sCell) .none kV0 dc0 pm0 an0 cd0 ct0), sl0⟩)
    (c0 : PySem.W.codeIn K cd0 "_law_cell_at" = true)
    (k0 : PySem.W.keepIn K (.ref f0) = true)
    (a1 : PySem.W.nsIn K mainGlobals "inside" = some (some (.ref f1)))
    (l1 : K.lookup f1 = some ⟨oc1, od1, .func (PySem.W.fnOf "inside" "inside" (defArgs sInside) (defBody sInside) (defScope sInside) .none kV1 dc1 pm1 an1 cd1 ct1), sl1⟩)
    (c1 : PySem.W.codeIn K cd1 "inside" = true)
    (k1 : PySem.W.keepIn K (.ref f1) = true)
    (a2 : PySem.W.nsIn K mainGlobals "square" = some (some (.ref f2)))
    (l2 : K.lookup f2 = some ⟨oc2, od2, .func (PySem.W.fnOf "square" "square" (defArgs sSquare) (defBody sSquare) (defScope sSquare) .none kV2 dc2 pm2 an2 cd2 ct2), sl2⟩)
    (c2 : PySem.W.codeIn K cd2 "square" = true)
    (k2 : PySem.W.keepIn K (.ref f2) = true)
    (a3 : PySem.W.nsIn K mainGlobals "check_sizes" = some (some (.ref f3)))
    (l3 : K.lookup f3 = some ⟨oc3, od3, .func (PySem.W.fnOf "check_sizes" "check_sizes" (defArgs sCSizes) (defBody sCSizes) (defScope sCSizes) .none kV3 dc3 pm3 an3 cd3 ct3), sl3⟩)
    (c3 : PySem.W.codeIn K cd3 "check_sizes" = true)
    (k3 : PySem.W.keepIn K (.ref f3) = true)
    (a4 : PySem.W.nsIn K mainGlobals "check_price" = some (some (.ref f4)))
    (l4 : K.lookup f4 = some ⟨oc4, od4, .func (PySem.W.fnOf "check_price" "check_price" (defArgs sCPrice) (defBody sCPrice) (defScope sCPrice) .none kV4 dc4 pm4 an4 cd4 ct4), sl4⟩)
    (c4 : PySem.W.codeIn K cd4 "check_price" = true)
    (k4 : PySem.W.keepIn K (.ref f4) = true)
    (a5 : PySem.W.nsIn K mainGlobals "check_prices" = some (some (.ref f5)))
    (l5 : K.lookup f5 = some ⟨oc5, od5, .func (PySem.W.fnOf "check_prices" "check_prices" (defArgs sCPrices) (defBody sCPrices) (defScope sCPrices) .none kV5 dc5 pm5 an5 cd5 ct5), sl5⟩)
    (c5 : PySem.W.codeIn K cd5 "check_prices" = true)
    (k5 : PySem.W.keepIn K (.ref f5) = true)
    (a6 : PySem.W.nsIn K mainGlobals "check_inside" = some (some (.ref f6)))
    (l6 : K.lookup f6 = some ⟨oc6, od6, .func (PySem.W.fnOf "check_inside" "check_inside" (defArgs sCInside) (defBody sCInside) (defScope sCInside) .none kV6 dc6 pm6 an6 cd6 ct6), sl6⟩)
    (c6 : PySem.W.codeIn K cd6 "check_inside" = true)
    (k6 : PySem.W.keepIn K (.ref f6) = true)
    (a7 : PySem.W.findIn K (.ref cFloor) "__init__" = some (some (.ref f7)))
    (i7 : PySem.W.isFn K (.ref f7) = true)
    (l7 : K.lookup f7 = some ⟨oc7, od7, .func (PySem.W.fnOf "__init__" "Floor.__init__" (defArgs sFInit) (defBody sFInit) (defScope sFInit) (.ref T7) kV7 dc7 pm7 an7 cd7 ct7), sl7⟩)
    (d7 : K.lookup T7 = some ⟨dq7, do7, .seq #[.none, .none] dn7, ds7⟩)
    (c7 : PySem.W.codeIn K cd7 "Floor.__init__" = true)
    (k7 : PySem.W.keepIn K (.ref f7) = true)
    (a8 : PySem.W.findIn K (.ref cFloor) "is_rock" = some (some (.ref f8)))
    (i8 : PySem.W.isFn K (.ref f8) = true)
    (l8 : K.lookup f8 = some ⟨oc8, od8, .func (PySem.W.fnOf "is_rock" "Floor.is_rock" (defArgs sIsRock) (defBody sIsRock) (defScope sIsRock) .none kV8 dc8 pm8 an8 cd8 ct8), sl8⟩)
    (c8 : PySem.W.codeIn K cd8 "Floor.is_rock" = true)
    (k8 : PySem.W.keepIn K (.ref f8) = true)
    (a9 : PySem.W.nsIn K mainGlobals "fits" = some (some (.ref f9)))
    (l9 : K.lookup f9 = some ⟨oc9, od9, .func (PySem.W.fnOf "fits" "fits" (defArgs sFits) (defBody sFits) (defScope sFits) .none kV9 dc9 pm9 an9 cd9 ct9), sl9⟩)
    (c9 : PySem.W.codeIn K cd9 "fits" = true)
    (k9 : PySem.W.keepIn K (.ref f9) = true)
    (a10 : PySem.W.nsIn K mainGlobals "is_name" = some (some (.ref f10)))
    (l10 : K.lookup f10 = some ⟨oc10, od10, .func (PySem.W.fnOf "is_name" "is_name" (defArgs sName) (defBody sName) (defScope sName) .none kV10 dc10 pm10 an10 cd10 ct10), sl10⟩)
    (c10 : PySem.W.codeIn K cd10 "is_name" = true)
    (k10 : PySem.W.keepIn K (.ref f10) = true)
    (a11 : PySem.W.nsIn K mainGlobals "check_unlike" = some (some (.ref f11)))
    (l11 : K.lookup f11 = some ⟨oc11, od11, .func (PySem.W.fnOf "check_unlike" "check_unlike" (defArgs sUnlike) (defBody sUnlike) (defScope sUnlike) .none kV11 dc11 pm11 an11 cd11 ct11), sl11⟩)
    (c11 : PySem.W.codeIn K cd11 "check_unlike" = true)
    (k11 : PySem.W.keepIn K (.ref f11) = true)
    (r12 : PySem.W.readsIn K cThing (.type "type") = true)
    (q12 : PySem.W.findCls K (.ref cThing) (.type "type") "__init__" = some (.val (.ref f12)))
    (g12 : PySem.W.specialIn K (.ref cThing) "__getattribute__" = some (some (.builtin "type.__getattribute__")))
    (l12 : K.lookup f12 = some ⟨oc12, od12, .func (PySem.W.fnOf "__init__" "Thing.__init__" (defArgs sTInit) (defBody sTInit) (defScope sTInit) .none kV12 dc12 pm12 an12 cd12 ct12), sl12⟩)
    (c12 : PySem.W.codeIn K cd12 "Thing.__init__" = true)
    (k12 : PySem.W.keepIn K (.ref f12) = true)
    (a13 : PySem.W.findIn K (.ref cNet) "__init__" = some (some (.ref f13)))
    (i13 : PySem.W.isFn K (.ref f13) = true)
    (l13 : K.lookup f13 = some ⟨oc13, od13, .func (PySem.W.fnOf "__init__" "Net.__init__" (defArgs sNInit) (defBody sNInit) (defScope sNInit) (.ref T13) kV13 dc13 pm13 an13 cd13 ct13), sl13⟩)
    (d13 : K.lookup T13 = some ⟨dq13, do13, .seq #[du13_0, du13_1] dn13, ds13⟩)
    (c13 : PySem.W.codeIn K cd13 "Net.__init__" = true)
    (k13 : PySem.W.keepIn K (.ref f13) = true)
    (a14 : PySem.W.findIn K (.ref cBundle) "__init__" = some (some (.ref f14)))
    (i14 : PySem.W.isFn K (.ref f14) = true)
    (l14 : K.lookup f14 = some ⟨oc14, od14, .func (PySem.W.fnOf "__init__" "Bundle.__init__" (defArgs sBInit) (defBody sBInit) (defScope sBInit) (.ref T14) kV14 dc14 pm14 an14 cd14 ct14), sl14⟩)
    (d14 : K.lookup T14 = some ⟨dq14, do14, .seq #[du14_0] dn14, ds14⟩)
    (c14 : PySem.W.codeIn K cd14 "Bundle.__init__" = true)
    (k14 : PySem.W.keepIn K (.ref f14) = true)
    (a15 : PySem.W.nsIn K mainGlobals "_law_sizes" = some (some (.ref f15)))
    (l15 : K.lookup f15 = some ⟨oc15, od15, .func (PySem.W.fnOf "_law_sizes" "_law_sizes" (defArgs sSizes) (defBody sSizes) (defScope sSizes) .none kV15 dc15 pm15 an15 cd15 ct15), sl15⟩)
    (c15 : PySem.W.codeIn K cd15 "_law_sizes" = true)
    (k15 : PySem.W.keepIn K (.ref f15) = true)
    (a16 : PySem.W.nsIn K mainGlobals "_law_rocks" = some (some (.ref f16)))
    (l16 : K.lookup f16 = some ⟨oc16, od16, .func (PySem.W.fnOf "_law_rocks" "_law_rocks" (defArgs sRocks) (defBody sRocks) (defScope sRocks) .none kV16 dc16 pm16 an16 cd16 ct16), sl16⟩)
    (c16 : PySem.W.codeIn K cd16 "_law_rocks" = true)
    (k16 : PySem.W.keepIn K (.ref f16) = true)
    (a17 : PySem.W.nsIn K mainGlobals "_law_marks" = some (some (.ref f17)))
    (l17 : K.lookup f17 = some ⟨oc17, od17, .func (PySem.W.fnOf "_law_marks" "_law_marks" (defArgs sMarks) (defBody sMarks) (defScope sMarks) .none kV17 dc17 pm17 an17 cd17 ct17), sl17⟩)
    (c17 : PySem.W.codeIn K cd17 "_law_marks" = true)
    (k17 : PySem.W.keepIn K (.ref f17) = true)
    (a18 : PySem.W.nsIn K mainGlobals "_law_inside" = some (some (.ref f18)))
    (l18 : K.lookup f18 = some ⟨oc18, od18, .func (PySem.W.fnOf "_law_inside" "_law_inside" (defArgs sLInside) (defBody sLInside) (defScope sLInside) .none kV18 dc18 pm18 an18 cd18 ct18), sl18⟩)
    (c18 : PySem.W.codeIn K cd18 "_law_inside" = true)
    (k18 : PySem.W.keepIn K (.ref f18) = true)
    (a19 : PySem.W.nsIn K mainGlobals "_law_due" = some (some (.ref f19)))
    (l19 : K.lookup f19 = some ⟨oc19, od19, .func (PySem.W.fnOf "_law_due" "_law_due" (defArgs sDue) (defBody sDue) (defScope sDue) .none kV19 dc19 pm19 an19 cd19 ct19), sl19⟩)
    (c19 : PySem.W.codeIn K cd19 "_law_due" = true)
    (k19 : PySem.W.keepIn K (.ref f19) = true)
    (a20 : PySem.W.nsIn K mainGlobals "_law_asked" = some (some (.ref f20)))
    (l20 : K.lookup f20 = some ⟨oc20, od20, .func (PySem.W.fnOf "_law_asked" "_law_asked" (defArgs sAsked) (defBody sAsked) (defScope sAsked) .none kV20 dc20 pm20 an20 cd20 ct20), sl20⟩)
    (c20 : PySem.W.codeIn K cd20 "_law_asked" = true)
    (k20 : PySem.W.keepIn K (.ref f20) = true)
    (a21 : PySem.W.nsIn K mainGlobals "law" = some (some (.ref f21)))
    (l21 : K.lookup f21 = some ⟨oc21, od21, .func (PySem.W.fnOf "law" "law" (defArgs slaw) (defBody slaw) (defScope slaw) .none kV21 dc21 pm21 an21 cd21 ct21), sl21⟩)
    (c21 : PySem.W.codeIn K cd21 "law" = true)
    (k21 : PySem.W.keepIn K (.ref f21) = true)
    (pg_Thing : PySem.W.plainGet K cThing Str.empty = true)
    (hd_Thing : PySem.W.hasDictIn K cThing = true)
    (po_Thing : PySem.W.plainOver K cThing = true)
    (sa_Thing : PySem.W.findIn K (.ref cThing) "__setattr__" = some (some (.builtin "object.__setattr__")))
    (pg_Net : PySem.W.plainGet K cNet Str.empty = true)
    (hd_Net : PySem.W.hasDictIn K cNet = true)
    (po_Net : PySem.W.plainOver K cNet = true)
    (sa_Net : PySem.W.findIn K (.ref cNet) "__setattr__" = some (some (.builtin "object.__setattr__")))
    (mk_Net : PySem.W.makesIn K cNet = true)
    (kc_Net : PySem.W.keepIn K (.ref cNet) = true)
    (na_Net_name : PySem.W.findIn K (.ref cNet) "name" = some none)
    (na_Net_half : PySem.W.findIn K (.ref cNet) "half" = some none)
    (na_Net_room : PySem.W.findIn K (.ref cNet) "room" = some none)
    (na_Net_pins : PySem.W.findIn K (.ref cNet) "pins" = some none)
    (pg_Bundle : PySem.W.plainGet K cBundle Str.empty = true)
    (hd_Bundle : PySem.W.hasDictIn K cBundle = true)
    (po_Bundle : PySem.W.plainOver K cBundle = true)
    (sa_Bundle : PySem.W.findIn K (.ref cBundle) "__setattr__" = some (some (.builtin "object.__setattr__")))
    (mk_Bundle : PySem.W.makesIn K cBundle = true)
    (kc_Bundle : PySem.W.keepIn K (.ref cBundle) = true)
    (na_Bundle_name : PySem.W.findIn K (.ref cBundle) "name" = some none)
    (na_Bundle_half : PySem.W.findIn K (.ref cBundle) "half" = some none)
    (na_Bundle_room : PySem.W.findIn K (.ref cBundle) "room" = some none)
    (na_Bundle_starts : PySem.W.findIn K (.ref cBundle) "starts" = some none)
    (na_Bundle_goals : PySem.W.findIn K (.ref cBundle) "goals" = some none)
    (pg_Floor : PySem.W.plainGet K cFloor Str.empty = true)
    (hd_Floor : PySem.W.hasDictIn K cFloor = true)
    (po_Floor : PySem.W.plainOver K cFloor = true)
    (sa_Floor : PySem.W.findIn K (.ref cFloor) "__setattr__" = some (some (.builtin "object.__setattr__")))
    (mk_Floor : PySem.W.makesIn K cFloor = true)
    (kc_Floor : PySem.W.keepIn K (.ref cFloor) = true)
    (na_Floor_sizes : PySem.W.findIn K (.ref cFloor) "sizes" = some none)
    (na_Floor_prices : PySem.W.findIn K (.ref cFloor) "prices" = some none)
    (na_Floor_vias : PySem.W.findIn K (.ref cFloor) "vias" = some none)
    (na_Floor_rocks : PySem.W.findIn K (.ref cFloor) "rocks" = some none)
    (na_Floor_tolls : PySem.W.findIn K (.ref cFloor) "tolls" = some none)
    (z_len : PySem.W.nsIn K mainGlobals "len" = some none)
    (z_range : PySem.W.nsIn K mainGlobals "range" = some none)
    (z_isinstance : PySem.W.nsIn K mainGlobals "isinstance" = some none)
    (z_bool : PySem.W.nsIn K mainGlobals "bool" = some none)
    (z_tuple : PySem.W.nsIn K mainGlobals "tuple" = some none)
    (z_set : PySem.W.nsIn K mainGlobals "set" = some none)
    (z_max : PySem.W.nsIn K mainGlobals "max" = some none)
    (z_min : PySem.W.nsIn K mainGlobals "min" = some none)
    (z_all : PySem.W.nsIn K mainGlobals "all" = some none)
    (z_any : PySem.W.nsIn K mainGlobals "any" = some none)
    (z_list : PySem.W.nsIn K mainGlobals "list" = some none)
    (z_dict : PySem.W.nsIn K mainGlobals "dict" = some none)
    (z_zip : PySem.W.nsIn K mainGlobals "zip" = some none)
    (q_LETTERS : PySem.W.nsIn K mainGlobals "LETTERS" = some (some (.str (Str.ofString "abcdefghijklmnopqrstuvwxyz") tLETTERS)))
    (q_FIGURES : PySem.W.nsIn K mainGlobals "FIGURES" = some (some (.str (Str.ofString "0123456789") tFIGURES)))
    (q_MOST_PRICE : PySem.W.nsIn K mainGlobals "MOST_PRICE" = some (some (.int 1000000000000 tMOST_PRICE)))
    (q_MOST_SIGNS : PySem.W.nsIn K mainGlobals "MOST_SIGNS" = some (some (.int 12 tMOST_SIGNS)))
    (q_MOST_HALF : PySem.W.nsIn K mainGlobals "MOST_HALF" = some (some (.int 2 tMOST_HALF)))
    (q_MOST_ROOM : PySem.W.nsIn K mainGlobals "MOST_ROOM" = some (some (.int 3 tMOST_ROOM)))
    (q_MOST_PINS : PySem.W.nsIn K mainGlobals "MOST_PINS" = some (some (.int 6 tMOST_PINS)))
    (q_MOST_STARTS : PySem.W.nsIn K mainGlobals "MOST_STARTS" = some (some (.int 6 tMOST_STARTS)))
    (q_MOST_GOALS : PySem.W.nsIn K mainGlobals "MOST_GOALS" = some (some (.int 12 tMOST_GOALS)))
    (q_MOST_SIZES : PySem.W.nsIn K mainGlobals "MOST_SIZES" = some (some (.ref cMS)))
    (qt_MOST_SIZES : K.lookup cMS = some ⟨.type "tuple", odMS, .seq #[.int 4 tMS0, .int 16 tMS1, .int 16 tMS2] dnMS, slMS⟩)
    (bb : PySem.W.kitOne K (.type "bool") (.type "bool") = some true)
    : ∃ fd : FuncData, (∀ (s : Shared) (v : Value), BindsTo s fd ⟨[v], []⟩ [("script", v)]) ∧ ∀ base : Heap, K.In base → base.Ns mainGlobals mg → FnOk l.prog w K mg base CX0 5 fa fd ["script"] (spLaw K) := by
  have e := hfa.symm.trans (PySem.W.mg_of X G a21)
  cases e
  have T : Txt K mg cThing cNet cBundle cFloor cMS := ⟨PySem.W.mg_none_of X G z_len, PySem.W.mg_none_of X G z_range, PySem.W.mg_none_of X G z_isinstance, PySem.W.mg_none_of X G z_bool, PySem.W.mg_none_of X G z_tuple, PySem.W.mg_none_of X G z_set, PySem.W.mg_none_of X G z_max, PySem.W.mg_none_of X G z_min, PySem.W.mg_none_of X G z_all, PySem.W.mg_none_of X G z_any, PySem.W.mg_none_of X G z_list, PySem.W.mg_none_of X G z_dict, PySem.W.mg_none_of X G z_zip, ⟨pg_Thing, hd_Thing, po_Thing, sa_Thing⟩, PySem.W.mg_of X G n_Thing, ⟨pg_Net, hd_Net, po_Net, sa_Net⟩, PySem.W.mg_of X G n_Net, na_Net_name, na_Net_half, na_Net_room, na_Net_pins, ⟨pg_Bundle, hd_Bundle, po_Bundle, sa_Bundle⟩, PySem.W.mg_of X G n_Bundle, na_Bundle_name, na_Bundle_half, na_Bundle_room, na_Bundle_starts, na_Bundle_goals, ⟨pg_Floor, hd_Floor, po_Floor, sa_Floor⟩, PySem.W.mg_of X G n_Floor, na_Floor_sizes, na_Floor_prices, na_Floor_vias, na_Floor_rocks, na_Floor_tolls, ⟨_, PySem.W.mg_of X G q_LETTERS, ⟨_, rfl⟩⟩, ⟨_, PySem.W.mg_of X G q_FIGURES, ⟨_, rfl⟩⟩, ⟨_, PySem.W.mg_of X G q_MOST_PRICE, ⟨_, rfl⟩⟩, ⟨_, PySem.W.mg_of X G q_MOST_SIGNS, ⟨_, rfl⟩⟩, ⟨_, PySem.W.mg_of X G q_MOST_HALF, ⟨_, rfl⟩⟩, ⟨_, PySem.W.mg_of X G q_MOST_ROOM, ⟨_, rfl⟩⟩, ⟨_, PySem.W.mg_of X G q_MOST_PINS, ⟨_, rfl⟩⟩, ⟨_, PySem.W.mg_of X G q_MOST_STARTS, ⟨_, rfl⟩⟩, ⟨_, PySem.W.mg_of X G q_MOST_GOALS, ⟨_, rfl⟩⟩, ⟨_, PySem.W.mg_of X G q_MOST_SIZES, rfl⟩, fun _ => .inr ⟨_, _, _, qt_MOST_SIZES, rfl, rfl, (by show 3 ≤ sizeLine; decide), (.cons ⟨_, rfl⟩ (.cons ⟨_, rfl⟩ (.cons ⟨_, rfl⟩ .nil)))⟩, bb⟩
  have F0 := fun_mk (st := sCell) l0 c0 k0
  have b0 := F0.binds (ps := ["script", "k"]) fun _ _ _ _ _ _ us hl => match us, hl with | [_, _], _ => rfl
  have F1 := fun_mk (st := sInside) l1 c1 k1
  have b1 := F1.binds (ps := ["sizes", "spot"]) fun _ _ _ _ _ _ us hl => match us, hl with | [_, _], _ => rfl
  have F2 := fun_mk (st := sSquare) l2 c2 k2
  have b2 := F2.binds (ps := ["sizes", "spot", "reach"]) fun _ _ _ _ _ _ us hl => match us, hl with | [_, _, _], _ => rfl
  have F3 := fun_mk (st := sCSizes) l3 c3 k3
  have b3 := F3.binds (ps := ["sizes", "prices", "vias"]) fun _ _ _ _ _ _ us hl => match us, hl with | [_, _, _], _ => rfl
  have F4 := fun_mk (st := sCPrice) l4 c4 k4
  have b4 := F4.binds (ps := ["price", "least"]) fun _ _ _ _ _ _ us hl => match us, hl with | [_, _], _ => rfl
  have F5 := fun_mk (st := sCPrices) l5 c5 k5
  have b5 := F5.binds (ps := ["prices", "vias", "tolls"]) fun _ _ _ _ _ _ us hl => match us, hl with | [_, _, _], _ => rfl
  have F6 := fun_mk (st := sCInside) l6 c6 k6
  have b6 := F6.binds (ps := ["sizes", "spot"]) fun _ _ _ _ _ _ us hl => match us, hl with | [_, _], _ => rfl
  have F7 := fund_mk (st := sFInit) l7 c7
  have b7 : Binds K (PySem.W.fnOf "__init__" "Floor.__init__" (defArgs sFInit) (defBody sFInit) (defScope sFInit) (.ref T7) kV7 dc7 pm7 an7 cd7 ct7) ["self", "sizes", "prices", "vias", "rocks", "tolls"] [Value.none] := bindsN rfl d7 5 rfl fun us hl => match us, hl with | [_, _, _, _, _], _ => ⟨_, rfl, rfl⟩
  have F8 := fun_mk (st := sIsRock) l8 c8 k8
  have b8 := F8.binds (ps := ["self", "spot"]) fun _ _ _ _ _ _ us hl => match us, hl with | [_, _], _ => rfl
  have F9 := fun_mk (st := sFits) l9 c9 k9
  have b9 := F9.binds (ps := ["floor", "thing", "spot"]) fun _ _ _ _ _ _ us hl => match us, hl with | [_, _, _], _ => rfl
  have F10 := fun_mk (st := sName) l10 c10 k10
  have b10 := F10.binds (ps := ["name"]) fun _ _ _ _ _ _ us hl => match us, hl with | [_], _ => rfl
  have F11 := fun_mk (st := sUnlike) l11 c11 k11
  have b11 := F11.binds (ps := ["spots"]) fun _ _ _ _ _ _ us hl => match us, hl with | [_], _ => rfl
  have F12 := fun_mk (st := sTInit) l12 c12 k12
  have b12 := F12.binds (ps := ["self", "name", "half", "room"]) fun _ _ _ _ _ _ us hl => match us, hl with | [_, _, _, _], _ => rfl
  have F13 := fund_mk (st := sNInit) l13 c13
  have b13 : Binds K (PySem.W.fnOf "__init__" "Net.__init__" (defArgs sNInit) (defBody sNInit) (defScope sNInit) (.ref T13) kV13 dc13 pm13 an13 cd13 ct13) ["self", "name", "pins", "half", "room"] [] := bindsD rfl d13 fun us hl => match us, hl with | [_, _, _, _, _], _ => ⟨_, rfl, rfl⟩
  have F14 := fund_mk (st := sBInit) l14 c14
  have b14 : Binds K (PySem.W.fnOf "__init__" "Bundle.__init__" (defArgs sBInit) (defBody sBInit) (defScope sBInit) (.ref T14) kV14 dc14 pm14 an14 cd14 ct14) ["self", "name", "starts", "goals", "room"] [] := bindsD rfl d14 fun us hl => match us, hl with | [_, _, _, _, _], _ => ⟨_, rfl, rfl⟩
  have F15 := fun_mk (st := sSizes) l15 c15 k15
  have b15 := F15.binds (ps := ["cell"]) fun _ _ _ _ _ _ us hl => match us, hl with | [_], _ => rfl
  have F16 := fun_mk (st := sRocks) l16 c16 k16
  have b16 := F16.binds (ps := ["script", "sizes"]) fun _ _ _ _ _ _ us hl => match us, hl with | [_, _], _ => rfl
  have F17 := fun_mk (st := sMarks) l17 c17 k17
  have b17 := F17.binds (ps := ["spots"]) fun _ _ _ _ _ _ us hl => match us, hl with | [_], _ => rfl
  have F18 := fun_mk (st := sLInside) l18 c18 k18
  have b18 := F18.binds (ps := ["sizes", "spot"]) fun _ _ _ _ _ _ us hl => match us, hl with | [_, _], _ => rfl
  have F19 := fun_mk (st := sDue) l19 c19 k19
  have b19 := F19.binds (ps := ["sizes", "rocks", "half", "spot"]) fun _ _ _ _ _ _ us hl => match us, hl with | [_, _, _, _], _ => rfl
  have F20 := fun_mk (st := sAsked) l20 c20 k20
  have b20 := F20.binds (ps := ["script", "sizes", "rocks", "half"]) fun _ _ _ _ _ _ us hl => match us, hl with | [_, _, _, _], _ => rfl
  have F21 := fun_mk (st := slaw) l21 c21 k21
  refine ⟨PySem.W.fnOf "law" "law" (defArgs slaw) (defBody slaw) (defScope slaw) .none kV21 dc21 pm21 an21 cd21 ct21, fun s v => .of_eq rfl, fun base hB _ => ?_⟩
  have gCell : Callee l.prog w K mg base "_law_cell_at" 1 ["script", "k"] (spCell K) := ⟨f0, _, ok_Cell F0 T, PySem.W.mg_of X G a0, k0, b0⟩
  have gInside : Callee l.prog w K mg base "inside" 1 ["sizes", "spot"] spInside := ⟨f1, _, ok_Inside F1 T, PySem.W.mg_of X G a1, k1, b1⟩
  have gSquare : Callee l.prog w K mg base "square" 1 ["sizes", "spot", "reach"] (spSquare K) := ⟨f2, _, ok_Square F2 T, PySem.W.mg_of X G a2, k2, b2⟩
  have gCSizes : Callee l.prog w K mg base "check_sizes" 1 ["sizes", "prices", "vias"] spCSizes := ⟨f3, _, ok_CSizes F3 hB T, PySem.W.mg_of X G a3, k3, b3⟩
  have gCPrice : Callee l.prog w K mg base "check_price" 1 ["price", "least"] spCPrice := ⟨f4, _, ok_CPrice F4 hB T, PySem.W.mg_of X G a4, k4, b4⟩
  have gCPrices : Callee l.prog w K mg base "check_prices" 2 ["prices", "vias", "tolls"] spCPrices := ⟨f5, _, ok_CPrices F5 T gCPrice, PySem.W.mg_of X G a5, k5, b5⟩
  have gCInside : Callee l.prog w K mg base "check_inside" 2 ["sizes", "spot"] spCInside := ⟨f6, _, ok_CInside F6 hB T gInside, PySem.W.mg_of X G a6, k6, b6⟩
  have gFInit : KCalleeN l.prog w K mg base cFloor "Floor" 3 ["self", "sizes", "prices", "vias", "rocks", "tolls"] (spFInit cFloor) := ⟨f7, _, ok_FInit F7 T gCSizes gCPrices gCInside, ⟨mk_Floor, a7, i7, kc_Floor⟩, PySem.W.mg_of X G n_Floor, b7⟩
  have gIsRock : MCallee l.prog w K mg base cFloor "is_rock" 3 ["self", "spot"] (spIsRock cFloor) := ⟨f8, _, ok_IsRock F8 T gCInside, ⟨a8, i8, k8⟩, b8⟩
  have gFits : Callee l.prog w K mg base "fits" 4 ["floor", "thing", "spot"] (spFits cNet cBundle cFloor) := ⟨f9, _, ok_Fits F9 T gInside gSquare gIsRock, PySem.W.mg_of X G a9, k9, b9⟩
  have gName : Callee l.prog w K mg base "is_name" 1 ["name"] spName := ⟨f10, _, ok_Name F10 T, PySem.W.mg_of X G a10, k10, b10⟩
  have gUnlike : Callee l.prog w K mg base "check_unlike" 1 ["spots"] spUnlike := ⟨f11, _, ok_Unlike F11 hB T, PySem.W.mg_of X G a11, k11, b11⟩
  have gTInit : ClsCallee l.prog w K mg base cThing "__init__" 2 ["self", "name", "half", "room"] (spTInit cNet cBundle) := ⟨f12, _, ok_TInit F12 hB T gName, ⟨⟨_, r12, q12⟩, rfl, g12, k12⟩, b12⟩
  have gNInit : KCallee l.prog w K mg base cNet "Net" 3 ["self", "name", "pins", "half", "room"] (spNInit cNet) := ⟨f13, _, ok_NInit F13 hB T gUnlike gTInit, ⟨mk_Net, a13, i13, kc_Net⟩, PySem.W.mg_of X G n_Net, b13⟩
  have gBInit : KCallee l.prog w K mg base cBundle "Bundle" 3 ["self", "name", "starts", "goals", "room"] (spBInit cBundle) := ⟨f14, _, ok_BInit F14 hB T gUnlike gTInit, ⟨mk_Bundle, a14, i14, kc_Bundle⟩, PySem.W.mg_of X G n_Bundle, b14⟩
  have gSizes : Callee l.prog w K mg base "_law_sizes" 1 ["cell"] spSizes := ⟨f15, _, ok_Sizes F15 T, PySem.W.mg_of X G a15, k15, b15⟩
  have gRocks : Callee l.prog w K mg base "_law_rocks" 1 ["script", "sizes"] (spRocks K) := ⟨f16, _, ok_Rocks F16 T, PySem.W.mg_of X G a16, k16, b16⟩
  have gMarks : Callee l.prog w K mg base "_law_marks" 1 ["spots"] spMarks := ⟨f17, _, ok_Marks F17 T, PySem.W.mg_of X G a17, k17, b17⟩
  have gLInside : Callee l.prog w K mg base "_law_inside" 1 ["sizes", "spot"] spInside := ⟨f18, _, ok_LInside F18 T, PySem.W.mg_of X G a18, k18, b18⟩
  have gDue : Callee l.prog w K mg base "_law_due" 2 ["sizes", "rocks", "half", "spot"] spDue := ⟨f19, _, ok_Due F19 T gLInside, PySem.W.mg_of X G a19, k19, b19⟩
  have gAsked : Callee l.prog w K mg base "_law_asked" 2 ["script", "sizes", "rocks", "half"] (spAsked K) := ⟨f20, _, ok_Asked F20 T gCell, PySem.W.mg_of X G a20, k20, b20⟩
  exact ok_law F21 T gCell gFInit gFits gNInit gBInit gSizes gRocks gMarks gDue gAsked
theorem walk {l : PySem.W.OpenLaw} {q : Program} {loose : List Str} {XP : (Str → Option Value) → Heap → Prop} {YP : World → Heap → Prop} {d : DefRec} {K : Params → PySem.W.Frag} (hn : l.most = some 63) (hdf : d.params.defaults = [])
    (hY : ∀ (w : World) (h : Heap), YP w h → (K w.params).In h)
    (F : ∀ (w : World) (mg : Str → Option Value) (fa : Addr) (h : Heap), (K w.params).In h → h.Ns mainGlobals mg → mg d.name = some (.ref fa) →
      ∃ fd : FuncData, (∀ (s : Shared) (u : Value), BindsTo s fd ⟨[u], []⟩ [("script", u)]) ∧ ∀ base : Heap, (K w.params).In base → base.Ns mainGlobals mg → FnOk l.prog w (K w.params) mg base CX0 5 fa fd ["script"] (spLaw (K w.params))) :
    PySem.W.WalkO q loose XP YP l.row.toRowW d [] (fun f vs => PySem.call f vs) :=
  L2.walk_of (n := 63) (k := 5) (x := "script") (CX := fun _ => CX0) (sp := fun w => spLaw (K w.params)) hn (by decide) hdf ⟨rfl, by decide, by decide, rfl⟩ hY F (fun _ _ a ns hl _ hS => ⟨a, ns, rfl, hS, hl, fun _ => rfl⟩) fun _ _ _ _ _ z => z
end K08
/-! these names are taken, so that the head lays no second forms of the greatest of its objects -/
def PySem.W.Fast.tw5351642307991111688 : Unit := ()
def PySem.W.Fast.tw2073750567250408174 : Unit := ()
def PySem.W.Fast.tw13528456930662460587 : Unit := ()
def PySem.W.Fast.tw10691098150065247030 : Unit := ()
def PySem.W.Fast.tw14229939589567660982 : Unit := ()
def PySem.W.Fast.tw4618823638178702207 : Unit := ()
def PySem.W.Fast.tw3885211567483706497 : Unit := ()
def PySem.W.Fast.tw17398413962771027149 : Unit := ()
def PySem.W.Fast.tw9667208772431903963 : Unit := ()
def PySem.W.Fast.tw15017336124619868392 : Unit := ()
def PySem.W.Fast.tw2079993276535292875 : Unit := ()
def PySem.W.Fast.tw6820013239810025616 : Unit := ()
def PySem.W.Fast.tw13780456337090551198 : Unit := ()
def PySem.W.Fast.tw17338277868056806956 : Unit := ()
def PySem.W.Fast.tw6962577380802908256 : Unit := ()
def PySem.W.Fast.tw14412985238201447225 : Unit := ()
def PySem.W.Fast.tw10260320844320058559 : Unit := ()
def PySem.W.Fast.tw8094762634862681912 : Unit := ()
def PySem.W.Fast.tw176473246705135543 : Unit := ()
def PySem.W.Fast.tw91195090418345979 : Unit := ()
def PySem.W.Fast.tw14524984665560897306 : Unit := ()
def PySem.W.Fast.tw14519745417064941491 : Unit := ()
def PySem.W.Fast.tw12867891333762075742 : Unit := ()
def PySem.W.Fast.tw4786160130277112218 : Unit := ()
def PySem.W.Fast.tw1469594071912006531 : Unit := ()
def PySem.W.Fast.tw17758461039849435424 : Unit := ()
def PySem.W.Fast.tw15848091732297288317 : Unit := ()
def PySem.W.Fast.tw12458641447713312363 : Unit := ()
def PySem.W.Fast.tw928136940204693413 : Unit := ()
def PySem.W.Fast.tw3035184594469340418 : Unit := ()
def PySem.W.Fast.tw14845968885996572525 : Unit := ()
def PySem.W.Fast.tw3091569078860919652 : Unit := ()
def PySem.W.Fast.tw2066543701046602249 : Unit := ()
def PySem.W.Fast.tw4625326718713594696 : Unit := ()
def PySem.W.Fast.tw13782904552712212034 : Unit := ()
def PySem.W.Fast.tw149287031480387728 : Unit := ()
def PySem.W.Fast.tw10238208989254172164 : Unit := ()
def PySem.W.Fast.tw2730207887896209065 : Unit := ()
def PySem.W.Fast.tw4889919246845453777 : Unit := ()
def PySem.W.Fast.tw11073478622834701682 : Unit := ()
def PySem.W.Fast.tw4451769512480733123 : Unit := ()
def PySem.W.Fast.tw14970519963088912483 : Unit := ()
def PySem.W.Fast.tw7904263341687566562 : Unit := ()
def PySem.W.Fast.tw10219197870753592653 : Unit := ()
def PySem.W.Fast.tw13533239429476164157 : Unit := ()
def PySem.W.Fast.tw17694733366207777733 : Unit := ()
open PySem PySem.W PyProof.Rows
set_option maxRecDepth 100000 in
set_option maxHeartbeats 0 in
theorem PySem.Challenge.cw_wirefloor_k08_fits_holds : PySem.Challenge.rw_wirefloor_k08_fits.Holds := by
  w_on; o_law; k_head; (case hw => w_witness2)
  k_fill
  refine K08.walk (l := PySem.Challenge.rw_wirefloor_k08_fits) rfl rfl (fun w h Y => PySem.W.kIn_of Y) ?F
  case F =>
    intro w mg fa h KX G hmg
    refine' K08.all_mk KX G hmg ?n_Thing ?n_Net ?n_Bundle ?n_Floor ?a0 ?l0 ?c0 ?k0 ?a1 ?l1 ?c1 ?k1 ?a2 ?l2 ?c2 ?k2 ?a3 ?l3 ?c3 ?k3 ?a4 ?l4 ?c4 ?k4 ?a5 ?l5 ?c5 ?k5 ?a6 ?l6 ?c6 ?k6 ?a7 ?i7 ?l7 ?d7 ?c7 ?k7 ?a8 ?i8 ?l8 ?c8 ?k8 ?a9 ?l9 ?c9 ?k9 ?a10 ?l10 ?c10 ?k10 ?a11 ?l11 ?c11 ?k11 ?r12 ?q12 ?g12 ?l12 ?c12 ?k12 ?a13 ?i13 ?l13 ?d13 ?c13 ?k13 ?a14 ?i14 ?l14 ?d14 ?c14 ?k14 ?a15 ?l15 ?c15 ?k15 ?a16 ?l16 ?c16 ?k16 ?a17 ?l17 ?c17 ?k17 ?a18 ?l18 ?c18 ?k18 ?a19 ?l19 ?c19 ?k19 ?a20 ?l20 ?c20 ?k20 ?a21 ?l21 ?c21 ?k21 ?pg_Thing ?hd_Thing ?po_Thing ?sa_Thing ?pg_Net ?hd_Net ?po_Net ?sa_Net ?mk_Net ?kc_Net ?na_Net_name ?na_Net_half ?na_Net_room ?na_Net_pins ?pg_Bundle ?hd_Bundle ?po_Bundle ?sa_Bundle ?mk_Bundle ?kc_Bundle ?na_Bundle_name ?na_Bundle_half ?na_Bundle_room ?na_Bundle_starts ?na_Bundle_goals ?pg_Floor ?hd_Floor ?po_Floor ?sa_Floor ?mk_Floor ?kc_Floor ?na_Floor_sizes ?na_Floor_prices ?na_Floor_vias ?na_Floor_rocks ?na_Floor_tolls ?z_len ?z_range ?z_isinstance ?z_bool ?z_tuple ?z_set ?z_max ?z_min ?z_all ?z_any ?z_list ?z_dict ?z_zip ?q_LETTERS ?q_FIGURES ?q_MOST_PRICE ?q_MOST_SIGNS ?q_MOST_HALF ?q_MOST_ROOM ?q_MOST_PINS ?q_MOST_STARTS ?q_MOST_GOALS ?q_MOST_SIZES ?qt_MOST_SIZES ?bb
    (case n_Thing => k_is)
    (case n_Net => k_is)
    (case n_Bundle => k_is)
    (case n_Floor => k_is)
    (case a0 => k_is)
    (case l0 => k_is)
    (case c0 => k_is)
    (case k0 => k_is)
    (case a1 => k_is)
    (case l1 => k_is)
    (case c1 => k_is)
    (case k1 => k_is)
    (case a2 => k_is)
    (case l2 => k_is)
    (case c2 => k_is)
    (case k2 => k_is)
    (case a3 => k_is)
    (case l3 => k_is)
    (case c3 => k_is)
    (case k3 => k_is)
    (case a4 => k_is)
    (case l4 => k_is)
    (case c4 => k_is)
    (case k4 => k_is)
    (case a5 => k_is)
    (case l5 => k_is)
    (case c5 => k_is)
    (case k5 => k_is)
    (case a6 => k_is)
    (case l6 => k_is)
    (case c6 => k_is)
    (case k6 => k_is)
    (case a7 => k_is)
    (case i7 => k_is)
    (case l7 => k_is)
    (case d7 => k_is)
    (case c7 => k_is)
    (case k7 => k_is)
    (case a8 => k_is)
    (case i8 => k_is)
    (case l8 => k_is)
    (case c8 => k_is)
    (case k8 => k_is)
    (case a9 => k_is)
    (case l9 => k_is)
    (case c9 => k_is)
    (case k9 => k_is)
    (case a10 => k_is)
    (case l10 => k_is)
    (case c10 => k_is)
    (case k10 => k_is)
    (case a11 => k_is)
    (case l11 => k_is)
    (case c11 => k_is)
    (case k11 => k_is)
    (case r12 => k_is)
    (case q12 => k_is)
    (case g12 => k_is)
    (case l12 => k_is)
    (case c12 => k_is)
    (case k12 => k_is)
    (case a13 => k_is)
    (case i13 => k_is)
    (case l13 => k_is)
    (case d13 => k_is)
    (case c13 => k_is)
    (case k13 => k_is)
    (case a14 => k_is)
    (case i14 => k_is)
    (case l14 => k_is)
    (case d14 => k_is)
    (case c14 => k_is)
    (case k14 => k_is)
    (case a15 => k_is)
    (case l15 => k_is)
    (case c15 => k_is)
    (case k15 => k_is)
    (case a16 => k_is)
    (case l16 => k_is)
    (case c16 => k_is)
    (case k16 => k_is)
    (case a17 => k_is)
    (case l17 => k_is)
    (case c17 => k_is)
    (case k17 => k_is)
    (case a18 => k_is)
    (case l18 => k_is)
    (case c18 => k_is)
    (case k18 => k_is)
    (case a19 => k_is)
    (case l19 => k_is)
    (case c19 => k_is)
    (case k19 => k_is)
    (case a20 => k_is)
    (case l20 => k_is)
    (case c20 => k_is)
    (case k20 => k_is)
    (case a21 => k_is)
    (case l21 => k_is)
    (case c21 => k_is)
    (case k21 => k_is)
    (case pg_Thing => k_is)
    (case hd_Thing => k_is)
    (case po_Thing => k_is)
    (case sa_Thing => k_is)
    (case pg_Net => k_is)
    (case hd_Net => k_is)
    (case po_Net => k_is)
    (case sa_Net => k_is)
    (case mk_Net => k_is)
    (case kc_Net => k_is)
    (case na_Net_name => k_is)
    (case na_Net_half => k_is)
    (case na_Net_room => k_is)
    (case na_Net_pins => k_is)
    (case pg_Bundle => k_is)
    (case hd_Bundle => k_is)
    (case po_Bundle => k_is)
    (case sa_Bundle => k_is)
    (case mk_Bundle => k_is)
    (case kc_Bundle => k_is)
    (case na_Bundle_name => k_is)
    (case na_Bundle_half => k_is)
    (case na_Bundle_room => k_is)
    (case na_Bundle_starts => k_is)
    (case na_Bundle_goals => k_is)
    (case pg_Floor => k_is)
    (case hd_Floor => k_is)
    (case po_Floor => k_is)
    (case sa_Floor => k_is)
    (case mk_Floor => k_is)
    (case kc_Floor => k_is)
    (case na_Floor_sizes => k_is)
    (case na_Floor_prices => k_is)
    (case na_Floor_vias => k_is)
    (case na_Floor_rocks => k_is)
    (case na_Floor_tolls => k_is)
    (case z_len => k_is)
    (case z_range => k_is)
    (case z_isinstance => k_is)
    (case z_bool => k_is)
    (case z_tuple => k_is)
    (case z_set => k_is)
    (case z_max => k_is)
    (case z_min => k_is)
    (case z_all => k_is)
    (case z_any => k_is)
    (case z_list => k_is)
    (case z_dict => k_is)
    (case z_zip => k_is)
    (case q_LETTERS => k_is)
    (case q_FIGURES => k_is)
    (case q_MOST_PRICE => k_is)
    (case q_MOST_SIGNS => k_is)
    (case q_MOST_HALF => k_is)
    (case q_MOST_ROOM => k_is)
    (case q_MOST_PINS => k_is)
    (case q_MOST_STARTS => k_is)
    (case q_MOST_GOALS => k_is)
    (case q_MOST_SIZES => k_is)
    (case qt_MOST_SIZES => k_is)
    (case bb => kit_is)
