import PyProof.Rows.All
import Wide.All
import OpenK.AllK
import Wide.FinOn
import Lean
import PyProof.EqAt
import PyProof.EqKinds
import PyProof.TupleCall
import PySem.Challenge.RW_underfloor_k54_deeds_on_turns
set_option Elab.async false
set_option linter.all false
set_option maxRecDepth 100000
/-! THE HAND LAYER, for ints, bools, texts, own classes, LISTS and tuples (index, slices, in, append, pop ..), calls, loops. Paste it whole ahead of your own text; what your proof does not reach may be deleted. -/
namespace L2
open PySem PySem.Spec PyProof.Rows

/-- a key: an int or a str -/
abbrev Key := Sum Int Str
def keyIs : Key → Value → Bool
  | .inl k, v => Value.isInt k v
  | .inr x, v => Value.isStrOf x v
def keyH (w : World) : Key → Int
  | .inl k => hashInt k
  | .inr x => hashStr w x
theorem keyIs_shape : ∀ {k : Key} {v : Value}, keyIs k v = true → (∃ i t, k = Sum.inl i ∧ v = Value.int i t) ∨ (∃ x t, k = Sum.inr x ∧ v = Value.str x t)
  | .inl i, v, h => by
    obtain ⟨t, e⟩ := Value.isInt_shape (k := i) (v := v) h
    exact .inl ⟨i, t, rfl, e⟩
  | .inr x, v, h => by
    obtain ⟨t, e⟩ := Value.isStrOf_shape (x := x) (v := v) h
    exact .inr ⟨x, t, rfl, e⟩
theorem keyIs_int (i : Int) (t : Tok) : keyIs (.inl i) (.int i t) = true := by simp [keyIs, Value.isInt]
theorem keyIs_str (x : Str) (t : Tok) : keyIs (.inr x) (.str x t) = true := by simp [keyIs, Value.isStrOf]
theorem key_ll (a b : Int) : decide ((Sum.inl a : Key) = Sum.inl b) = (a == b) := by
  by_cases e : a = b
  · subst e; simp
  · have h : ¬ (Sum.inl a : Key) = Sum.inl b := fun q => e (Sum.inl.inj q)
    rw [decide_eq_false h]
    exact (beq_eq_false_iff_ne.mpr e).symm
theorem key_rr (a b : Str) : decide ((Sum.inr a : Key) = Sum.inr b) = decide (a = b) := by
  by_cases e : a = b
  · subst e; simp
  · have h : ¬ (Sum.inr a : Key) = Sum.inr b := fun q => e (Sum.inr.inj q)
    rw [decide_eq_false h, decide_eq_false e]
theorem key_lr (a : Int) (b : Str) : decide ((Sum.inl a : Key) = Sum.inr b) = false := decide_eq_false (fun q => nomatch q)
theorem key_rl (a : Str) (b : Int) : decide ((Sum.inr a : Key) = Sum.inl b) = false := decide_eq_false (fun q => nomatch q)

def mixKind (prog : Program) (w : World) : PySem.KeyKind prog w Key where
  is := keyIs
  hash := keyH w
  inj := fun v a b ha hb => by
    rcases keyIs_shape ha with ⟨i, t, rfl, rfl⟩ | ⟨x, t, rfl, rfl⟩
    · rcases keyIs_shape hb with ⟨j, u, rfl, e⟩ | ⟨y, u, rfl, e⟩
      · injection e with e1 _; rw [e1]
      · exact nomatch e
    · rcases keyIs_shape hb with ⟨j, u, rfl, e⟩ | ⟨y, u, rfl, e⟩
      · exact nomatch e
      · injection e with e1 _; rw [e1]
  byValue := fun k v h => by
    rcases keyIs_shape h with ⟨i, t, rfl, rfl⟩ | ⟨x, t, rfl, rfl⟩ <;> rfl
  pyHash := fun hv h => by
    rcases keyIs_shape hv with ⟨i, t, rfl, rfl⟩ | ⟨x, t, rfl, rfl⟩
    · exact wpAny_pyHash_int h
    · exact wpAny_pyHash_str h
  eqBool := fun hu hv h => by
    rcases keyIs_shape hu with ⟨i, t, rfl, rfl⟩ | ⟨x, t, rfl, rfl⟩
    · rcases keyIs_shape hv with ⟨j, u, rfl, rfl⟩ | ⟨y, u, rfl, rfl⟩
      · rw [key_ll] at h; exact wpAny_eqBool_int h
      · rw [key_lr] at h; exact SeqAt.EqAt.int_str i t y u _ _ _ _ h
    · rcases keyIs_shape hv with ⟨j, u, rfl, rfl⟩ | ⟨y, u, rfl, rfl⟩
      · rw [key_rl] at h; exact SeqAt.EqAt.str_int x t j u _ _ _ _ h
      · rw [key_rr] at h; exact wpAny_eqBool_str h
  «strs» := fun k x t v h => by
    rcases keyIs_shape h with ⟨i, u, rfl, e⟩ | ⟨y, u, rfl, e⟩
    · exact nomatch e
    · injection e with e1 _
      subst e1
      cases v <;> rfl

theorem mixKind_int (prog : Program) (w : World) (i : Int) (t : Tok) : (mixKind prog w).is (.inl i) (.int i t) = true := keyIs_int i t
theorem mixKind_str (prog : Program) (w : World) (x : Str) (t : Tok) : (mixKind prog w).is (.inr x) (.str x t) = true := keyIs_str x t
end L2

namespace L2
open PySem PySem.Spec PyProof.Rows

/-- a value, without the heap -/
inductive V where
  | non | bl (b : Bool) | int (i : Int) | str (x : Str) | byt (b : Array UInt8) | flt (b : UInt64) | ref (a : Addr) | ty (n : String)
  deriving DecidableEq

def RelV : V → Value → Prop
  | .non, u => u = Value.none
  | .bl b, u => u = Value.bool b
  | .int i, u => ∃ t, u = Value.int i t
  | .str x, u => ∃ t, u = Value.str x t
  | .byt b, u => ∃ t, u = Value.bytes b t
  | .flt b, u => ∃ t, u = Value.float b t
  | .ref a, u => u = Value.ref a
  | .ty n, u => u = Value.type n

abbrev Vals : List V → List Value → Prop := Paired RelV
theorem Vals.length {xs : List V} {us : List Value} (r : Vals xs us) : xs.length = us.length := Paired.length r
theorem Vals.get : ∀ {xs : List V} {us : List Value} {i : Nat} {x : V}, Vals xs us → xs[i]? = some x → ∃ u, us[i]? = some u ∧ RelV x u
  | _, _, _, _, .nil, e => by simp at e
  | _, _, 0, _, .cons r _, e => by simp at e; subst e; exact ⟨_, rfl, r⟩
  | _, _, i + 1, x, .cons _ t, e => by
    obtain ⟨u, h1, h2⟩ := Vals.get (i := i) (x := x) t (by simpa using e)
    exact ⟨u, by simpa using h1, h2⟩
theorem Vals.set {x : V} {u : Value} (r : RelV x u) : ∀ {xs : List V} {us : List Value} (i : Nat), Vals xs us → Vals (xs.set i x) (us.set i u)
  | _, _, _, .nil => .nil
  | _, _, 0, .cons _ t => .cons r t
  | _, _, i + 1, .cons q t => .cons q (Vals.set r i t)
theorem Vals.append : ∀ {xs ys : List V} {us ws : List Value}, Vals xs us → Vals ys ws → Vals (xs ++ ys) (us ++ ws)
  | _, _, _, _, .nil, s => s
  | _, _, _, _, .cons r t, s => .cons r (Vals.append t s)
theorem Vals.take : ∀ {xs : List V} {us : List Value} (n : Nat), Vals xs us → Vals (xs.take n) (us.take n)
  | _, _, 0, _ => .nil
  | _, _, _ + 1, .nil => .nil
  | _, _, n + 1, .cons r t => .cons r (Vals.take n t)
theorem Vals.drop : ∀ {xs : List V} {us : List Value} (n : Nat), Vals xs us → Vals (xs.drop n) (us.drop n)
  | _, _, 0, r => r
  | _, _, _ + 1, .nil => .nil
  | _, _, n + 1, .cons _ t => Vals.drop n t
theorem Vals.none_of : ∀ {xs : List V} {us : List Value} {i : Nat}, Vals xs us → xs[i]? = none → us[i]? = none := fun {xs us i} r e => by
  have h1 := r.length
  have h2 : xs.length ≤ i := List.getElem?_eq_none_iff.mp e
  exact List.getElem?_eq_none_iff.mpr (by omega)

def RelO : Option V → Option Value → Prop
  | some v, some u => RelV v u
  | none, none => True
  | _, _ => False
def KV {κ : Type} : List (κ × V) → List (κ × Value) → Prop := Paired fun (p : κ × V) (q : κ × Value) => p.1 = q.1 ∧ RelV p.2 q.2

/-- a key of a dict (00_mix): an int or a text -/
def kV : Key → V
  | .inl i => .int i
  | .inr x => .str x

/-- what stands at a tracked address -/
inductive HO where
  /-- a list -/
  | lst (xs : List V)
  /-- a tuple (never changes) -/
  | tup (xs : List V)
  /-- a dict whose keys are ints and texts; one whose keys are tuples of ints and texts (the empty one is both) -/
  | dK (kvs : List (Key × V)) | dT (kvs : List (List Key × V))
  /-- a set of ints: its members, its size -/
  | set (S : Int → Bool) (n : Nat)
  /-- an instance of the class at C, its dict at dx, its attributes -/
  | ins (C dx : Addr) (fs : List (Str × V))
  /-- the dict of the instance at x -/
  | own (x : Addr)
  /-- the dict of an exception -/
  | xd (fs : List (Str × V))
  /-- a bound method, f of x -/
  | met (f x : Addr)
  /-- a range object lo, lo + 1, .. below hi -/
  | rng (lo hi : Int)
  /-- a thing that is known to the object (the script; a dict while a loop walks it): read, never written while it is so -/
  | frz (o : Obj) (u : HO)
  /-- a code object's table -/
  | tbl (ps : Array Value)
  /-- any other thing, by what is true of its one object (a def of one's own: SetO a S n := HO.ext fun h => ..) -/
  | ext (φ : Heap → Prop)

abbrev Hp := Addr → Option HO
def upd (H : Hp) (a : Addr) (o : HO) : Hp := fun b => if b = a then some o else H b
theorem upd_same {H : Hp} {a : Addr} {o : HO} : upd H a o a = some o := by unfold upd; rw [if_pos rfl]
theorem upd_ne {H : Hp} {a b : Addr} {o : HO} (h : b ≠ a) : upd H a o b = H b := by unfold upd; rw [if_neg h]
theorem ne_of_none {H : Hp} {a b : Addr} {o : HO} (h : H a = some o) (h' : H b = none) : a ≠ b := by
  intro e; subst e; rw [h] at h'; cases h'

section
variable (P : Program) (w : World)
def ObjOk (H : Hp) (h : Heap) (a : Addr) : HO → Prop
  | .lst xs => xs.length ≤ sizeLine ∧ ∃ (its : List Value) (n : Nat), Vals xs its ∧ h.get? a = some { cls := .type "list", data := .seq its.toArray n }
  | .tup xs => xs.length ≤ sizeLine ∧ ∃ its : List Value, Vals xs its ∧ IsTup h a its.toArray
  | .dK kvs => kvs.length ≤ sizeLine ∧ (a == sysModules) = false ∧ ∃ vs, KV kvs vs ∧ h.DictOf (mixKind P w) a vs
  | .dT kvs => kvs.length ≤ sizeLine ∧ (a == sysModules) = false ∧ ∃ xs : List (List Key × Addr × Value),
      Paired (fun (p : List Key × V) (q : List Key × Addr × Value) => p.1 = q.1 ∧ H q.2.1 = some (.tup (p.1.map kV)) ∧ RelV p.2 q.2.2) kvs xs ∧
      ∃ o es ep, h.get? a = some o ∧ o.ExactDict ∧ o.data = .dict es ep ∧ es.toList = xs.map (entryOfKey (tupleKind (mixKind P w))) ∧ (xs.map (·.1)).Nodup
  | .set S n => h.SetOf (intKind P w) a S n
  | .ins C dx fs => H dx = some (.own a) ∧ fs.length ≤ 1000 ∧ dx ≠ a ∧ h.get? a = some (PySem.W.instObj C dx) ∧
      ∃ mA, h.Ns1 dx mA ∧ (∀ f, RelO (fs.lookup f) (mA f)) ∧ PySem.Within mA (fs.map (·.1))
  | .own _ => ∃ o, h.get? a = some o
  | .xd fs => ∃ mA, h.Ns1 a mA ∧ ∀ f, RelO (fs.lookup f) (mA f)
  | .rng lo hi => ∃ t u v, h.get? a = some { cls := .type "range", data := .fields #[.int lo t, .int hi u, .int 1 v] }
  | .frz o u => h.get? a = some o ∧ ObjOk H h a u
  | .tbl ps => h.get? a = some { cls := .none, data := .fields ps }
  | .met f x => h.get? a = some (PySem.W.methodObj (.ref f) (.ref x))
  | .ext φ => φ h ∧ (∃ o, h.get? a = some o) ∧ ∀ h1 h2 : Heap, φ h1 → (∀ o, h1.get? a = some o → h2.get? a = some o) → φ h2
/-- the abstract heap is held -/
def HOk (H : Hp) (h : Heap) : Prop := ∀ a o, H a = some o → ObjOk P w H h a o
end

section
variable {P : Program} {w : World} {H H' : Hp} {h h' : Heap} {a : Addr} {o : HO}
theorem ObjOk.lt (x : ObjOk P w H h a o) : a < h.objs.size := by
  cases o with
  | lst xs => obtain ⟨_, _, _, _, e⟩ := x; exact Heap.lt_size e
  | tup xs => obtain ⟨_, _, _, p⟩ := x; exact p.lt
  | dK kvs => obtain ⟨_, _, _, _, o, _, _, e, _⟩ := x; exact Heap.lt_size e
  | dT kvs => obtain ⟨_, _, _, _, o, _, _, e, _⟩ := x; exact Heap.lt_size e
  | set S n => obtain ⟨o, _, _, _, e, _⟩ := x; exact Heap.lt_size e
  | ins C dx fs => obtain ⟨_, _, _, e, _⟩ := x; exact Heap.lt_size e
  | own y => obtain ⟨_, e⟩ := x; exact Heap.lt_size e
  | xd fs => obtain ⟨_, ⟨_, _, _, e, _⟩, _⟩ := x; exact Heap.lt_size e
  | rng lo hi => obtain ⟨_, _, _, e⟩ := x; exact Heap.lt_size e
  | frz ob u => obtain ⟨e, _⟩ := x; exact Heap.lt_size e
  | tbl ps => exact Heap.lt_size (show h.get? a = some _ from x)
  | met f y => exact Heap.lt_size (show h.get? a = some _ from x)
  | ext φ => obtain ⟨_, ⟨_, e⟩, _⟩ := x; exact Heap.lt_size e
theorem Paired.mapP {α β : Type} {F G : α → β → Prop} : ∀ {l₁ : List α} {l₂ : List β}, Paired F l₁ l₂ → (∀ a b, F a b → G a b) → Paired G l₁ l₂
  | _, _, .nil, _ => .nil
  | _, _, .cons r t, f => .cons (f _ _ r) (Paired.mapP t f)
/-- what an object's description leans on: its own object, its own dict, the tuples -/
theorem ObjOk.stay (x : ObjOk P w H h a o) (k : ∀ b u, (b = a ∨ H b = some (.own a)) → h.get? b = some u → h'.get? b = some u)
    (ho : ∀ b, H b = some (.own a) → H' b = some (.own a)) (ht : ∀ b xs, H b = some (.tup xs) → H' b = some (.tup xs)) : ObjOk P w H' h' a o := by
  induction o with
  | lst xs => obtain ⟨z, its, n, r, e⟩ := x; exact ⟨z, its, n, r, k _ _ (.inl rfl) e⟩
  | tup xs => obtain ⟨z, its, r, ob, e, c⟩ := x; exact ⟨z, its, r, ob, k _ _ (.inl rfl) e, c⟩
  | dK kvs => obtain ⟨z, y, vs, r, ob, es, ep, e, c⟩ := x; exact ⟨z, y, vs, r, ob, es, ep, k _ _ (.inl rfl) e, c⟩
  | dT kvs =>
    obtain ⟨z, y, xs, r, ob, es, ep, e, c⟩ := x
    exact ⟨z, y, xs, Paired.mapP r fun p q z => ⟨z.1, ht _ _ z.2.1, z.2.2⟩, ob, es, ep, k _ _ (.inl rfl) e, c⟩
  | set S n => obtain ⟨ob, es, ep, t, e, c⟩ := x; exact ⟨ob, es, ep, t, k _ _ (.inl rfl) e, c⟩
  | ins C dx fs =>
    obtain ⟨d, z, ne, e, mA, ⟨od, es, ep, e2, c⟩, r⟩ := x
    exact ⟨ho _ d, z, ne, k _ _ (.inl rfl) e, mA, ⟨od, es, ep, k _ _ (.inr d) e2, c⟩, r⟩
  | own y => obtain ⟨ob, e⟩ := x; exact ⟨ob, k _ _ (.inl rfl) e⟩
  | xd fs => obtain ⟨mA, ⟨od, es, ep, e, c⟩, r⟩ := x; exact ⟨mA, ⟨od, es, ep, k _ _ (.inl rfl) e, c⟩, r⟩
  | rng lo hi => obtain ⟨t, u, v, e⟩ := x; exact ⟨t, u, v, k _ _ (.inl rfl) e⟩
  | frz ob u ih => obtain ⟨e, q⟩ := x; exact ⟨k _ _ (.inl rfl) e, ih q⟩
  | tbl ps =>
    have e : h.get? a = some { cls := .none, data := .fields ps } := x
    show h'.get? a = some { cls := .none, data := .fields ps }
    exact k a _ (.inl rfl) e
  | met f y =>
    have e : h.get? a = some (PySem.W.methodObj (.ref f) (.ref y)) := x
    show h'.get? a = some (PySem.W.methodObj (.ref f) (.ref y))
    exact k a _ (.inl rfl) e
  | ext φ => obtain ⟨p, ⟨o, e⟩, st⟩ := x; exact ⟨st _ _ p fun o q => k _ _ (.inl rfl) q, ⟨o, k _ _ (.inl rfl) e⟩, st⟩
theorem HOk.lt (x : HOk P w H h) (e : H a = some o) : a < h.objs.size := (x a o e).lt
theorem HOk.fresh (x : HOk P w H h) (e : h.objs.size ≤ a) : H a = none := by
  cases q : H a with
  | none => rfl
  | some u => exact absurd (Nat.lt_of_lt_of_le (x.lt q) e) (Nat.lt_irrefl _)
/-- every object of the heap is kept -/
theorem HOk.kept (x : HOk P w H h) (k : ∀ b u, h.get? b = some u → h'.get? b = some u) : HOk P w H h' := fun a o e =>
  (x a o e).stay (fun b u _ q => k b u q) (fun _ q => q) fun _ _ q => q
/-- a new object is laid and tracked -/
theorem HOk.laid (x : HOk P w H h) (k : ∀ b u, h.get? b = some u → h'.get? b = some u) (hp : h.objs.size ≤ a) (new : ObjOk P w (upd H a o) h' a o) : HOk P w (upd H a o) h' := fun b u e => by
  have hn := x.fresh hp
  by_cases hb : b = a
  · subst hb; rw [upd_same] at e; cases e; exact new
  · rw [upd_ne hb] at e
    exact (x b u e).stay (fun c v _ q => k c v q) (fun c q => by rw [upd_ne (ne_of_none q hn)]; exact q) fun c xs q => by rw [upd_ne (ne_of_none q hn)]; exact q
end

/-- what may be read as u: it is u, or a known u -/
def Rd (H : Hp) (a : Addr) (u : HO) : Prop := H a = some u ∨ ∃ o, H a = some (.frz o u)
theorem Rd.of {H : Hp} {a : Addr} {u : HO} (h : H a = some u) : Rd H a u := .inl h
theorem Rd.ok {P : Program} {w : World} {H : Hp} {h : Heap} {a : Addr} {u : HO} (r : Rd H a u) (x : HOk P w H h) : ObjOk P w H h a u := by
  rcases r with r | ⟨o, r⟩
  · exact x a u r
  · obtain ⟨_, q⟩ := x a _ r
    exact q
/-- what may be written -/
def Mut : Option HO → Prop
  | some (.lst _) => True
  | some (.dK _) => True
  | some (.dT _) => True
  | some (.set _ _) => True
  | some (.ins _ _ _) => True
  | some (.ext _) => True
  | _ => False
section
variable {P : Program} {w : World} {H : Hp} {h h' : Heap} {x e : Addr} {o' : HO}
/-- the object at e is changed: x itself, or the dict of the instance x -/
theorem HOk.write (ok : HOk P w H h) (mu : Mut (H x)) (he : e = x ∨ H e = some (.own x)) (k : ∀ b u, b ≠ e → h.get? b = some u → h'.get? b = some u) (heo : ∃ u, h'.get? e = some u)
    (new : ObjOk P w (upd H x o') h' x o') : HOk P w (upd H x o') h' := fun b u q => by
  have nown : ∀ c y, H c = some (.own y) → c ≠ x := fun c y r z => by subst z; rw [r] at mu; exact mu
  have ntup : ∀ c xs, H c = some (.tup xs) → c ≠ x := fun c xs r z => by subst z; rw [r] at mu; exact mu
  by_cases hb : b = x
  · subst hb; rw [upd_same] at q; cases q; exact new
  · rw [upd_ne hb] at q
    by_cases hbe : b = e
    · have q' : H b = some (.own x) := by
        rcases he with z | z
        · exact absurd (hbe.trans z) hb
        · rw [hbe]; exact z
      rw [q] at q'; cases q'
      obtain ⟨v, hv⟩ := heo
      exact ⟨v, by rw [hbe]; exact hv⟩
    · refine (ok b u q).stay (fun c v hc r => k c v ?_ r) (fun c r => by rw [upd_ne (nown c b r)]; exact r) fun c xs r => by rw [upd_ne (ntup c xs r)]; exact r
      rcases hc with rfl | hc
      · exact hbe
      · rintro rfl
        rcases he with z | z
        · exact nown c b hc z
        · rw [hc] at z; cases z; exact hb rfl
end

/-! ### kept unless tracked; of the frames at fs (the callers') the slots may change (an exception that passes writes there); of the records at ex (iterators) nothing is said -/
structure Un (fs ex : List Addr) (H H' : Hp) (h h' : Heap) : Prop where
  keep : ∀ b o, h.get? b = some o → H b = none → b ∉ fs → b ∉ ex → h'.get? b = some o
  slot : ∀ b o, h.get? b = some o → H b = none → b ∈ fs → b ∉ ex → ∃ sl, h'.get? b = some { o with slots := sl }
  free : ∀ b o, h.get? b = some o → H b = none → b ∉ ex → H' b = none
  there : ∀ b o, h.get? b = some o → b ∉ ex → ∃ o', h'.get? b = some o'
  tups : ∀ b xs, H b = some (.tup xs) → H' b = some (.tup xs)
  frzs : ∀ b o u, H b = some (.frz o u) → H' b = some (.frz o u)
  tbls : ∀ b ps, H b = some (.tbl ps) → ∃ more, H' b = some (.tbl (ps ++ more))
section
variable {fs fs' ex ex' : List Addr} {H H1 H2 : Hp} {h h1 h2 h' : Heap} {a x e : Addr} {o : HO}
theorem Un.any (u : Un fs ex H H1 h h1) {b : Addr} {ob : Obj} (q : h.get? b = some ob) (n : H b = none) (hx : b ∉ ex) : ∃ sl, h1.get? b = some { ob with slots := sl } := by
  by_cases hb : b ∈ fs
  · exact u.slot b ob q n hb hx
  · exact ⟨ob.slots, u.keep b ob q n hb hx⟩
theorem Un.trans (a : Un fs ex H H1 h h1) (b : Un fs ex H1 H2 h1 h2) : Un fs ex H H2 h h2 where
  keep := fun c ob q n hc hx => b.keep c ob (a.keep c ob q n hc hx) (a.free c ob q n hx) hc hx
  slot := fun c ob q n hc hx => by
    obtain ⟨sl, e1⟩ := a.slot c ob q n hc hx
    obtain ⟨sl', e2⟩ := b.slot c _ e1 (a.free c ob q n hx) hc hx
    exact ⟨sl', e2⟩
  free := fun c ob q n hx => by
    obtain ⟨o', e1⟩ := a.there c ob q hx
    exact b.free c o' e1 (a.free c ob q n hx) hx
  there := fun c ob q hx => by
    obtain ⟨o', e1⟩ := a.there c ob q hx
    exact b.there c o' e1 hx
  tups := fun c xs q => b.tups c xs (a.tups c xs q)
  frzs := fun c ob xs q => b.frzs c ob xs (a.frzs c ob xs q)
  tbls := fun c ps q => by
    obtain ⟨m1, e1⟩ := a.tbls c ps q
    obtain ⟨m2, e2⟩ := b.tbls c _ e1
    exact ⟨m1 ++ m2, by rw [e2, Array.append_assoc]⟩
theorem Un.kept (k : ∀ b u, h.get? b = some u → h'.get? b = some u) : Un fs ex H H h h' :=
  ⟨fun b ob q _ _ _ => k b ob q, fun b ob q _ _ _ => ⟨ob.slots, k b ob q⟩, fun _ _ _ n _ => n, fun b ob q _ => ⟨ob, k b ob q⟩, fun _ _ q => q, fun _ _ _ q => q, fun _ ps q => ⟨#[], by rw [q]; simp⟩⟩
theorem Un.refl : Un fs ex H H h h := Un.kept fun _ _ q => q
theorem Un.laid (k : ∀ b u, h.get? b = some u → h'.get? b = some u) (hp : h.objs.size ≤ a) (hn : H a = none) : Un fs ex H (upd H a o) h h' where
  keep := fun b u q _ _ _ => k b u q
  slot := fun b u q _ _ _ => ⟨u.slots, k b u q⟩
  free := fun b u q n _ => by rw [upd_ne (Nat.ne_of_lt (Nat.lt_of_lt_of_le (Heap.lt_size q) hp))]; exact n
  there := fun b u q _ => ⟨u, k b u q⟩
  tups := fun b xs q => by rw [upd_ne (ne_of_none q hn)]; exact q
  frzs := fun b u xs q => by rw [upd_ne (ne_of_none q hn)]; exact q
  tbls := fun b ps q => ⟨#[], by rw [upd_ne (ne_of_none q hn), q]; simp⟩
theorem Un.write (mu : Mut (H x)) (he : e = x ∨ H e = some (.own x)) (k : ∀ b u, b ≠ e → h.get? b = some u → h'.get? b = some u) (heo : ∃ u, h'.get? e = some u) : Un fs ex H (upd H x o) h h' := by
  have hx : ∀ b, H b = none → b ≠ x := fun b n z => by subst z; rw [n] at mu; exact mu
  have hb : ∀ b, H b = none → b ≠ e := fun b n z => by
    subst z
    rcases he with r | r
    · exact hx b n r
    · rw [n] at r; cases r
  have hm : ∀ b u, H b = some u → ¬ Mut (some u) → b ≠ x := fun b u q nm z => by subst z; rw [q] at mu; exact nm mu
  refine ⟨fun b u q n _ _ => k b u (hb b n) q, fun b u q n _ _ => ⟨u.slots, k b u (hb b n) q⟩, fun b u q n _ => by rw [upd_ne (hx b n)]; exact n, fun b u q _ => ?_,
    fun b xs q => by rw [upd_ne (hm b _ q fun z => z)]; exact q, fun b u xs q => by rw [upd_ne (hm b _ q fun z => z)]; exact q, fun b ps q => ⟨#[], by rw [upd_ne (hm b _ q fun z => z), q]; simp⟩⟩
  by_cases hbe : b = e
  · subst hbe; exact heo
  · exact ⟨u, k b u hbe q⟩
theorem Un.mono (u : Un fs ex H H1 h h1) (hs : ∀ b ∈ fs, b ∈ fs') (hx : ∀ b ∈ ex, b ∈ ex') : Un fs' ex' H H1 h h1 :=
  ⟨fun b ob q n hb he => u.keep b ob q n (fun z => hb (hs b z)) fun z => he (hx b z), fun _ _ q n _ he => u.any q n fun z => he (hx _ z), fun b ob q n he => u.free b ob q n fun z => he (hx b z), fun b ob q he => u.there b ob q fun z => he (hx b z), u.tups, u.frzs, u.tbls⟩
end

/-! ### the heap without what is tracked -/
def trk (h : Heap) (H : Hp) : List Addr := (List.range h.objs.size).filter fun a => (H a).isSome
def hidT (h : Heap) (H : Hp) : Heap := PySem.W.hideAll h (trk h H)
theorem hidT_size (h : Heap) (H : Hp) : (hidT h H).objs.size = h.objs.size := PySem.W.hideAll_size _ _
theorem hidT_get {h : Heap} {H : Hp} {b : Addr} {o : Obj} (e : h.get? b = some o) (n : H b = none) : (hidT h H).get? b = some o :=
  PySem.W.hideAll_get _ e fun hm => by
    have q : (H b).isSome = true := (List.mem_filter.mp hm).2
    rw [n] at q; simp at q
theorem of_hidT {h : Heap} {H : Hp} {b : Addr} {o : Obj} (e : (hidT h H).get? b = some o) : h.get? b = some o ∧ H b = none := by
  have e' : h.get? b = some o := PySem.W.of_hideAll (trk h H) e
  refine ⟨e', ?_⟩
  cases q : H b with
  | none => rfl
  | some x =>
    have hm : b ∈ trk h H := List.mem_filter.mpr ⟨List.mem_range.mpr (Heap.lt_size e'), by simp [q]⟩
    have z : (hidT h H).get? b = none := PySem.W.hideAll_none (trk h H) hm
    rw [z] at e; cases e

/-! ### OpenK's ledger, filled with every new object but one -/
def allNews (g h : Heap) (L : Addr) : List (Addr × Obj) := (List.range h.objs.size).filterMap fun a => if a = L ∨ (g.get? a).isSome = true then none else (h.get? a).map fun o => (a, o)
def rest (g h : Heap) (L d : Addr) : List (Addr × Obj) := (allNews g h L).filter fun p => decide (p.1 ≠ d)
end L2

namespace L2
open PySem PySem.Spec PyProof.Rows

/-- the module's facts, over the base: the heap at the law's entry without what is tracked there -/
structure Mod (K : PySem.W.Frag) (mg : Str → Option Value) (base : Heap) : Prop where
  kin : K.In base
  glob : base.Ns mainGlobals mg
  blt : ∃ mb, base.Ns builtinsNs mb ∧ ∀ x : Str, x ≠ "__name__" → mb x = bootBuiltins x
  nolimit : base.NoLimit

/-- the context: a def's body (or a comprehension's block) running. base: fixed through the whole law; s₀, H₀: the entry; outer: the frames whose slots others may change (a def's callers); stack: all frames that run;
   ex: iterators that were made ahead of the entry and are walked here (a comprehension's); fn: the names whose cells were made at the entry (a def: all; a comprehension's block: its own); calm: not within an except suite; pn: pins that every state bears; xe: what is wanted of an exception that leaves the code -/
structure Cx where
  prog : Program
  w : World
  K : PySem.W.Frag
  mg : Str → Option Value
  base : Heap
  A : Around
  N : List Str
  s₀ : Shared
  H₀ : Hp
  env : Env
  outer : List Env
  stack : List Env
  ex : List Addr
  fn : Str → Bool
  calm : Bool
  pn : List (Addr × Obj)
  xe : Value → Shared → Prop
/-- the callers' frames -/
def frs (l : List Env) : List Addr := l.filterMap (·.frame)
abbrev Cx.fs (X : Cx) : List Addr := frs X.outer

def Vis (sc : Scope) (x : Str) : Prop := sc.names.lookup x = some .local ∨ sc.names.lookup x = some .cell ∨ sc.names.lookup x = some .free
def Loc (sc : Scope) (x : Str) : Prop := sc.names.lookup x = some .local ∨ sc.names.lookup x = some .cell
def Look (env : Env) (h : Heap) (m : Str → Option Value) (x : Str) (u : Value) : Prop :=
  (env.kindOf x = some .local ∧ m x = some u) ∨ ((env.kindOf x = some .cell ∨ env.kindOf x = some .free) ∧ ∃ c, env.cells.lookup x = some c ∧ h.IsCell c (some u))

structure Cx.Ok (X : Cx) : Prop where
  mod : Mod X.K X.mg X.base
  kind : X.env.scope.kind = .function
  glob : X.env.globals = mainGlobals
  blt : X.env.builtins = builtinsNs
  above : X.s₀.heap.objs.size ≤ X.env.locals
  inj : ∀ x y c, X.env.cells.lookup x = some c → X.env.cells.lookup y = some c → x = y
  has : ∀ x, (X.env.kindOf x = some .cell ∨ X.env.kindOf x = some .free) → ∃ c, X.env.cells.lookup x = some c
  cab : ∀ x c, X.fn x = true → X.env.cells.lookup x = some c → X.s₀.heap.objs.size ≤ c
  hd : X.calm = true → X.A.handled = none
  frames : X.A.frames = some X.stack
  stk : X.stack = X.outer ∨ (X.stack = X.env :: X.outer ∧ X.env.frame = some X.env.locals)
  exf : ∀ b ∈ X.ex, b ≠ X.env.locals ∧ ∀ x c, X.env.cells.lookup x = some c → c ≠ b
  bs : ∀ b o, X.base.get? b = some o → X.s₀.heap.get? b = some o ∧ X.H₀ b = none
  bsz : X.base.objs.size ≤ X.s₀.heap.objs.size
  noex : ∀ b o, X.base.get? b = some o → b ∉ X.ex
  exfs : ∀ b ∈ X.ex, b ∉ X.fs
  funs : X.s₀.heap.FunFrames X.base X.outer
  frf : ∀ b ∈ X.fs, X.H₀ b = none

structure Inv (X : Cx) (pins : List (Addr × Obj)) (σ : List (Option V)) (H : Hp) (s : Shared) : Prop where
  ok : X.Ok
  os : s.os = X.s₀.os
  bare : AllBare s.gens
  base : Un X.fs X.ex X.H₀ H X.s₀.heap s.heap
  loc : ∃ m, s.heap.Ns X.env.locals m ∧ ∀ (i : Nat) (x : Str) (v : V), X.N[i]? = some x → σ[i]? = some (some v) → Vis X.env.scope x → ∃ u, RelV v u ∧ Look X.env s.heap m x u
  cell : ∀ x c, X.env.cells.lookup x = some c → ∃ v, s.heap.IsCell c v
  free : H X.env.locals = none
  freeC : ∀ x c, X.env.cells.lookup x = some c → H c = none
  pin : ∀ p ∈ X.pn ++ pins, s.heap.get? p.1 = some p.2 ∧ H p.1 = none ∧ p.1 ≠ X.env.locals ∧ p.1 ∉ X.fs ∧ ∀ v, p.2.data ≠ .cell v
  hok : HOk X.prog X.w H s.heap
  len : σ.length = X.N.length

section
variable {X : Cx} {pins : List (Addr × Obj)} {σ : List (Option V)} {H H' : Hp} {s : Shared} {h' : Heap}

theorem Cx.Ok.nofr (ok : X.Ok) {b : Addr} {o : Obj} (e : X.base.get? b = some o) : b ∉ X.fs := fun hb => by
  have := (ok.funs.mem hb).1
  rw [e] at this; cases this
theorem Inv.bs (I : Inv X pins σ H s) : ∀ b o, X.base.get? b = some o → s.heap.get? b = some o ∧ H b = none := fun b o e =>
  ⟨I.base.keep b o (I.ok.bs b o e).1 (I.ok.bs b o e).2 (I.ok.nofr e) (I.ok.noex b o e), I.base.free b o (I.ok.bs b o e).1 (I.ok.bs b o e).2 (I.ok.noex b o e)⟩
theorem Inv.bk (I : Inv X pins σ H s) : ∀ b o, X.base.get? b = some o → s.heap.get? b = some o := fun b o e => (I.bs b o e).1
theorem Inv.mod (I : Inv X pins σ H s) : Mod X.K X.mg X.base := I.ok.mod
theorem Inv.kIn (I : Inv X pins σ H s) : X.K.In s.heap := I.ok.mod.kin.keeps I.bk
theorem Inv.nolimit (I : Inv X pins σ H s) : s.heap.NoLimit := I.ok.mod.nolimit.keeps I.bk
theorem Inv.lt (I : Inv X pins σ H s) : X.env.locals < s.heap.objs.size := let ⟨_, hn, _⟩ := I.loc; hn.lt
theorem Inv.sz (I : Inv X pins σ H s) : X.s₀.heap.objs.size ≤ s.heap.objs.size := Nat.le_trans I.ok.above (Nat.le_of_lt I.lt)
theorem Inv.nofs (I : Inv X pins σ H s) {a : Addr} (h : s.heap.objs.size ≤ a) : a ∉ X.fs := fun hb => by
  obtain ⟨_, o, ho, _⟩ := I.ok.funs.mem hb
  exact absurd (Nat.lt_of_lt_of_le (Heap.lt_size ho) (Nat.le_trans I.sz h)) (Nat.lt_irrefl _)
theorem Inv.cne (I : Inv X pins σ H s) : ∀ x c, X.env.cells.lookup x = some c → c ≠ X.env.locals := fun x c e z => by
  obtain ⟨v, o, ho, hd⟩ := I.cell x c e
  obtain ⟨m, ⟨o', es, ep, ho', hd', _⟩, _⟩ := I.loc
  rw [z, ho'] at ho; cases ho; rw [hd'] at hd; cases hd
theorem Inv.funs (I : Inv X pins σ H s) : s.heap.FunFrames X.base X.outer := by
  have all : ∀ (l : List Env), (∀ b ∈ frs l, b ∈ X.fs) → X.s₀.heap.FunFrames X.base l → s.heap.FunFrames X.base l := by
    intro l
    induction l with
    | nil => intro _ _; trivial
    | cons env r ih =>
      intro hs hl
      obtain ⟨hk, ⟨L, o, hf, hn, ho, hd⟩, hr⟩ := hl
      have hL : L ∈ X.fs := hs L (by unfold frs; rw [List.filterMap_cons, hf]; exact List.mem_cons_self)
      obtain ⟨sl, e⟩ := I.base.slot L o ho (I.ok.frf L hL) hL fun z => I.ok.exfs L z hL
      exact ⟨hk, ⟨L, _, hf, hn, e, hd⟩, ih (fun b hb => hs b (by unfold frs; rw [List.filterMap_cons, hf]; exact List.mem_cons_of_mem _ hb)) hr⟩
  exact all X.outer (fun _ hb => hb) I.ok.funs

/-- the frames that run, for a call -/
theorem Inv.stack (I : Inv X pins σ H s) : s.heap.FunFrames X.base X.stack := by
  rcases I.ok.stk with e | ⟨e, hf⟩
  · rw [e]; exact I.funs
  · rw [e]
    obtain ⟨m, hn, _⟩ := I.loc
    refine .cons (by rw [I.ok.kind]; decide) hf hn ?_ I.funs
    exact Heap.get?_none_of_le (Nat.le_trans I.ok.bsz I.ok.above)
theorem Inv.stkSub (I : Inv X pins σ H s) : ∀ b ∈ frs X.stack, b ∈ X.env.locals :: X.fs := fun b hb => by
  rcases I.ok.stk with e | ⟨e, hf⟩
  · rw [e] at hb; exact List.mem_cons_of_mem _ hb
  · rw [e] at hb
    unfold frs at hb
    rw [List.filterMap_cons, hf] at hb
    exact hb
theorem Inv.stkFree (I : Inv X pins σ H s) : ∀ b ∈ frs X.stack, H b = none := fun b hb => by
  rcases List.mem_cons.mp (I.stkSub b hb) with e | hb
  · rw [e]; exact I.free
  · obtain ⟨_, o, ho, _⟩ := I.ok.funs.mem hb
    exact I.base.free b o ho (I.ok.frf b hb) fun z => I.ok.exfs b z hb

/-- THE STEP: the untracked objects but the frame and the records at ch are kept (the callers' frames up to slots), the frame's map is kept, the new abstract heap is held -/
theorem Inv.step {g' : Array GenState} {t' : Nat} {d' : Drawn} {ch : List Addr} (I : Inv X pins σ H s)
    (hch : ∀ b ∈ ch, (b ∈ X.ex ∨ X.s₀.heap.objs.size ≤ b) ∧ b ≠ X.env.locals ∧ (∀ x c, X.env.cells.lookup x = some c → c ≠ b) ∧ ∀ p ∈ X.pn ++ pins, p.1 ≠ b)
    (keep : ∀ b o, b ≠ X.env.locals → b ∉ X.fs → b ∉ ch → s.heap.get? b = some o → H b = none → h'.get? b = some o)
    (slot : ∀ b o, b ≠ X.env.locals → b ∈ X.fs → b ∉ ch → s.heap.get? b = some o → H b = none → ∃ sl, h'.get? b = some { o with slots := sl }) (free : ∀ b o, b ∉ ch → s.heap.get? b = some o → H b = none → H' b = none)
    (there : ∀ b o, b ∉ ch → s.heap.get? b = some o → ∃ o', h'.get? b = some o')
    (tups : ∀ b xs, H b = some (.tup xs) → H' b = some (.tup xs)) (frzs : ∀ b o u, H b = some (.frz o u) → H' b = some (.frz o u)) (tbls : ∀ b ps, H b = some (.tbl ps) → ∃ more, H' b = some (.tbl (ps ++ more)))
    (ns : ∀ m, s.heap.Ns X.env.locals m → h'.Ns X.env.locals m) (hok : HOk X.prog X.w H' h') (hg : AllBare g') :
    Inv X pins σ H' { s with heap := h', gens := g', drawn := d', toks := t' } := by
  have neL : ∀ b o, X.s₀.heap.get? b = some o → b ≠ X.env.locals := fun b o e => Nat.ne_of_lt (Nat.lt_of_lt_of_le (Heap.lt_size e) I.ok.above)
  have neC : ∀ b o, X.s₀.heap.get? b = some o → b ∉ X.ex → b ∉ ch := fun b o e hx hb => by
    rcases (hch b hb).1 with z | z
    · exact hx z
    · exact absurd (Nat.lt_of_lt_of_le (Heap.lt_size e) z) (Nat.lt_irrefl _)
  have cellK : ∀ x c, X.env.cells.lookup x = some c → ∀ v, s.heap.IsCell c v → h'.IsCell c v := fun x c e v ⟨o, ho, hd⟩ => by
    have nch : c ∉ ch := fun z => (hch c z).2.2.1 x c e rfl
    by_cases hc : c ∈ X.fs
    · obtain ⟨sl, q⟩ := slot c o (I.cne x c e) hc nch ho (I.freeC x c e)
      exact ⟨_, q, hd⟩
    · exact ⟨o, keep c o (I.cne x c e) hc nch ho (I.freeC x c e), hd⟩
  refine ⟨I.ok, I.os, hg, ⟨fun b o e n hb hx => ?_, fun b o e n hb hx => ?_, fun b o e n hx => ?_, fun b o e hx => ?_, fun b xs e => tups b xs (I.base.tups b xs e), fun b o xs e => frzs b o xs (I.base.frzs b o xs e), fun b ps e => ?_⟩, ?_, fun x c e => ?_, ?_, fun x c e => ?_, fun p hp => ?_, hok, I.len⟩
  · exact keep b o (neL b o e) hb (neC b o e hx) (I.base.keep b o e n hb hx) (I.base.free b o e n hx)
  · obtain ⟨sl, e1⟩ := I.base.slot b o e n hb hx
    obtain ⟨sl', e2⟩ := slot b _ (neL b o e) hb (neC b o e hx) e1 (I.base.free b o e n hx)
    exact ⟨sl', e2⟩
  · obtain ⟨o', e1⟩ := I.base.there b o e hx
    exact free b o' (neC b o e hx) e1 (I.base.free b o e n hx)
  · obtain ⟨o', e1⟩ := I.base.there b o e hx
    exact there b o' (neC b o e hx) e1
  · obtain ⟨m1, e1⟩ := I.base.tbls b ps e
    obtain ⟨m2, e2⟩ := tbls b _ e1
    exact ⟨m1 ++ m2, by rw [e2, Array.append_assoc]⟩
  · obtain ⟨m, hn, hl⟩ := I.loc
    refine ⟨m, ns m hn, fun i x v e1 e2 e3 => ?_⟩
    obtain ⟨u, r, l⟩ := hl i x v e1 e2 e3
    refine ⟨u, r, ?_⟩
    rcases l with l | ⟨k, c, e, z⟩
    · exact .inl l
    · exact .inr ⟨k, c, e, cellK x c e _ z⟩
  · obtain ⟨v, z⟩ := I.cell x c e
    exact ⟨v, cellK x c e v z⟩
  · obtain ⟨m, ⟨o, _, _, ho, _⟩, _⟩ := I.loc
    exact free _ o (fun z => (hch _ z).2.1 rfl) ho I.free
  · obtain ⟨v, o, ho, hd⟩ := I.cell x c e
    exact free c o (fun z => (hch c z).2.2.1 x c e rfl) ho (I.freeC x c e)
  · obtain ⟨e, n, ne, nf, d⟩ := I.pin p hp
    have nch : p.1 ∉ ch := fun z => (hch p.1 z).2.2.2 p hp rfl
    exact ⟨keep p.1 p.2 ne nf nch e n, free p.1 p.2 nch e n, ne, nf, d⟩
/-- .. where the frame's own object is kept too -/
theorem Inv.un {t' : Nat} (I : Inv X pins σ H s) (u : Un X.fs [] H H' s.heap h') (hok : HOk X.prog X.w H' h') : Inv X pins σ H' { s with heap := h', toks := t' } := by
  obtain ⟨m, ⟨o, es, ep, ho, r⟩, _⟩ := id I.loc
  obtain ⟨sl, hL⟩ := u.any ho I.free (by simp)
  exact I.step (g' := s.gens) (d' := s.drawn) (ch := []) (fun _ z => nomatch z) (fun b o _ hb _ e n => u.keep b o e n hb (by simp)) (fun b o _ hb _ e n => u.slot b o e n hb (by simp)) (fun b o _ e n => u.free b o e n (by simp)) (fun b o _ e => u.there b o e (by simp)) u.tups u.frzs u.tbls (fun m' hm => by
    obtain ⟨o', es', ep', ho', r'⟩ := hm
    rw [ho] at ho'; cases ho'
    exact ⟨_, es', ep', hL, r'⟩) hok I.bare
/-- behind a call (or a comprehension's block): the slots of this frame may have changed too, the records at ch may have turned -/
theorem Inv.call {g' : Array GenState} {t' : Nat} {d' : Drawn} {ch : List Addr} (I : Inv X pins σ H s) (u : Un (frs X.stack) ch H H' s.heap h') (hok : HOk X.prog X.w H' h') (hg : AllBare g')
    (hch : ∀ b ∈ ch, (b ∈ X.ex ∨ X.s₀.heap.objs.size ≤ b) ∧ b ≠ X.env.locals ∧ (∀ x c, X.env.cells.lookup x = some c → c ≠ b) ∧ ∀ p ∈ X.pn ++ pins, p.1 ≠ b) :
    Inv X pins σ H' { s with heap := h', gens := g', drawn := d', toks := t' } := by
  obtain ⟨m, ⟨o, es, ep, ho, r⟩, _⟩ := id I.loc
  obtain ⟨sl, hL⟩ := u.any ho I.free fun z => (hch _ z).2.1 rfl
  exact I.step (ch := ch) hch (fun b o hL hb hc e n => u.keep b o e n (fun z => (List.mem_cons.mp (I.stkSub b z)).elim hL hb) hc) (fun b o _ _ hc e n => u.any e n hc) (fun b o hc e n => u.free b o e n hc) (fun b o hc e => u.there b o e hc) u.tups u.frzs u.tbls (fun m' hm => by
    obtain ⟨o', es', ep', ho', r'⟩ := hm
    rw [ho] at ho'; cases ho'
    exact ⟨_, es', ep', hL, r'⟩) hok hg
/-- an untracked record of ours (an iterator) has turned -/
theorem Inv.turned {t' : Nat} {it : Addr} (I : Inv X pins σ H s) (k : ∀ b o, b ≠ it → s.heap.get? b = some o → h'.get? b = some o) (hn : H it = none) (hL : it ≠ X.env.locals)
    (h1 : it ∈ X.ex ∨ X.s₀.heap.objs.size ≤ it) (h2 : ∀ x c, X.env.cells.lookup x = some c → c ≠ it) (h3 : ∀ p ∈ X.pn ++ pins, p.1 ≠ it) : Inv X pins σ H { s with heap := h', toks := t' } := by
  have nit : ∀ b u, H b = some u → b ≠ it := fun b u e z => by rw [z, hn] at e; cases e
  refine I.step (g' := s.gens) (d' := s.drawn) (ch := [it]) (fun b hb => ?_) (fun b o _ _ hc e _ => k b o (fun z => hc (by simp [z])) e) (fun b o _ _ hc e _ => ⟨o.slots, k b o (fun z => hc (by simp [z])) e⟩) (fun _ _ _ _ n => n)
    (fun b o hc e => ⟨o, k b o (fun z => hc (by simp [z])) e⟩) (fun _ _ e => e) (fun _ _ _ e => e) (fun b ps e => ⟨#[], by rw [e]; simp⟩) (fun m hm => ?_) (fun b u e => ?_) I.bare
  · have e : b = it := by simpa using hb
    subst e
    exact ⟨h1, hL, h2, h3⟩
  · obtain ⟨o, es, ep, ho, r⟩ := hm
    exact ⟨o, es, ep, k _ o (Ne.symm hL) ho, r⟩
  · refine (I.hok b u e).stay (fun c v hc q => k c v ?_ q) (fun _ q => q) fun _ _ q => q
    rcases hc with z | z
    · rw [z]; exact nit b u e
    · exact nit c _ z
theorem Inv.tok (I : Inv X pins σ H s) (t : Nat) : Inv X pins σ H { s with toks := t } := I.un (h' := s.heap) (t' := t) Un.refl I.hok
/-- all objects kept -/
theorem Inv.kept {t' : Nat} (I : Inv X pins σ H s) (k : ∀ b u, s.heap.get? b = some u → h'.get? b = some u) : Inv X pins σ H { s with heap := h', toks := t' } := I.un (Un.kept k) (I.hok.kept k)
/-- a new object laid and tracked -/
theorem Inv.laid {a : Addr} {o : HO} {t' : Nat} (I : Inv X pins σ H s) (k : ∀ b u, s.heap.get? b = some u → h'.get? b = some u) (hp : s.heap.objs.size ≤ a) (new : ObjOk X.prog X.w (upd H a o) h' a o) :
    Inv X pins σ (upd H a o) { s with heap := h', toks := t' } := I.un (Un.laid k hp (I.hok.fresh hp)) (I.hok.laid k hp new)
/-- an object written -/
theorem Inv.write {x e : Addr} {o : HO} {t' : Nat} (I : Inv X pins σ H s) (mu : Mut (H x)) (he : e = x ∨ H e = some (.own x)) (k : ∀ b u, b ≠ e → s.heap.get? b = some u → h'.get? b = some u) (heo : ∃ u, h'.get? e = some u)
    (new : ObjOk X.prog X.w (upd H x o) h' x o) : Inv X pins σ (upd H x o) { s with heap := h', toks := t' } := I.un (Un.write mu he k heo) (I.hok.write mu he k heo new)
theorem Inv.pins_of {pins' : List (Addr × Obj)} (I : Inv X pins σ H s) (h : ∀ p ∈ pins', s.heap.get? p.1 = some p.2 ∧ H p.1 = none ∧ p.1 ≠ X.env.locals ∧ p.1 ∉ X.fs ∧ ∀ v, p.2.data ≠ .cell v) : Inv X pins' σ H s :=
  ⟨I.ok, I.os, I.bare, I.base, I.loc, I.cell, I.free, I.freeC, fun p hp => (List.mem_append.mp hp).elim (fun z => I.pin p (List.mem_append_left _ z)) (h p), I.hok, I.len⟩

theorem nodup_ix {N : List Str} (hN : N.Nodup) {i j : Nat} {x : Str} (a : N[i]? = some x) (b : N[j]? = some x) : i = j := by
  obtain ⟨h1, e1⟩ := List.getElem?_eq_some_iff.mp a
  obtain ⟨h2, e2⟩ := List.getElem?_eq_some_iff.mp b
  exact (List.getElem_inj hN).mp (e1.trans e2.symm)

/-- a name is stored; what changed -/
theorem store_ok2 {M : Model} {A : Around} {E : Value → Shared → Prop} {i : Nat} {x : Str} {v : V} {u : Value} {Q : Unit → Shared → Prop} (I : Inv X pins σ H s) (hN : X.N.Nodup) (hi : X.N[i]? = some x) (hx : Loc X.env.scope x) (r : RelV v u)
    (h : ∀ s', Inv X pins (σ.set i (some v)) H s' → (∃ a, Heap.SameBut a s.heap s'.heap ∧ (a = X.env.locals ∨ X.env.cells.lookup x = some a)) → Q () s') (hf : X.fn x = true ∨ X.env.scope.names.lookup x = some .local := by first | exact .inl rfl | exact .inr rfl | assumption) : wpAny M A (storeName X.env x u) Q E s := by
  obtain ⟨m, hn, hl⟩ := id I.loc
  have hcls : (X.env.scope.kind == .class || (X.env.scope.kind == .module && X.env.locals != X.env.globals)) = false := by rw [I.ok.kind]; rfl
  have hiσ : i < σ.length := by rw [I.len]; exact (List.getElem?_eq_some_iff.mp hi).1
  have cne := I.cne
  have tracked : ∀ {a : Addr} {h' : Heap}, (∃ o, s.heap.get? a = some o ∧ H a = none) → Heap.SameBut a s.heap h' → HOk X.prog X.w H h' := fun {a h'} ha hs b ob e => by
    obtain ⟨_, _, hfree⟩ := ha
    refine (I.hok b ob e).stay (fun c w' hc q => (hs.2 c ?_).trans q) (fun _ q => q) fun _ _ q => q
    rintro rfl
    rcases hc with rfl | hc
    · rw [hfree] at e; cases e
    · rw [hfree] at hc; cases hc
  rcases hx with hk | hk
  · refine wpAny_storeName_local hk hn (fun h' hn' hs => ?_) hcls
    obtain ⟨oL, _, _, hoL, _⟩ := id hn
    refine h _ ⟨I.ok, I.os, I.bare, ⟨fun b o e n hb hx => ?_, fun b o e n hb hx => ?_, I.base.free, fun b o e hx => ?_, I.base.tups, I.base.frzs, I.base.tbls⟩, ⟨_, hn', fun j y v' e1 e2 e3 => ?_⟩, fun y c e => ?_, I.free, I.freeC, fun p hp => ?_, tracked ⟨oL, hoL, I.free⟩ hs, by simpa using I.len⟩ ⟨_, hs, .inl rfl⟩
    · exact (hs.2 b (Nat.ne_of_lt (Nat.lt_of_lt_of_le (Heap.lt_size e) I.ok.above))).trans (I.base.keep b o e n hb hx)
    · obtain ⟨sl, e1⟩ := I.base.slot b o e n hb hx
      exact ⟨sl, (hs.2 b (Nat.ne_of_lt (Nat.lt_of_lt_of_le (Heap.lt_size e) I.ok.above))).trans e1⟩
    · obtain ⟨o', e1⟩ := I.base.there b o e hx
      exact ⟨o', (hs.2 b (Nat.ne_of_lt (Nat.lt_of_lt_of_le (Heap.lt_size e) I.ok.above))).trans e1⟩
    · by_cases hj : j = i
      · subst hj
        rw [hi] at e1; cases e1
        rw [List.getElem?_set_self hiσ] at e2
        cases e2
        exact ⟨u, r, .inl ⟨hk, by simp⟩⟩
      · rw [List.getElem?_set_ne (Ne.symm hj)] at e2
        obtain ⟨u', r', q⟩ := hl j y v' e1 e2 e3
        refine ⟨u', r', ?_⟩
        rcases q with ⟨k, e⟩ | ⟨k, c, e, z⟩
        · refine .inl ⟨k, ?_⟩
          have : y ≠ x := fun e => hj (nodup_ix hN e1 (e ▸ hi))
          simp [this, e]
        · exact .inr ⟨k, c, e, z.sameBut hs (cne y c e)⟩
    · obtain ⟨w', z⟩ := I.cell y c e
      exact ⟨w', z.sameBut hs (cne y c e)⟩
    · obtain ⟨e, n, ne, nf, d⟩ := I.pin p hp
      exact ⟨(hs.2 p.1 ne).trans e, n, ne, nf, d⟩
  · have hfn : X.fn x = true := by
      rcases hf with z | z
      · exact z
      · rw [z] at hk; cases hk
    obtain ⟨c, hc⟩ := I.ok.has x (.inl hk)
    obtain ⟨w', z⟩ := I.cell x c hc
    refine wpAny_storeName_cell I.ok.kind hk hc z (fun h' hc' hs => ?_)
    obtain ⟨oc, hoc, hocd⟩ := id z
    refine h { s with heap := h' } ⟨I.ok, I.os, I.bare, ⟨fun b o e n hb hx => ?_, fun b o e n hb hx => ?_, I.base.free, fun b o e hx => ?_, I.base.tups, I.base.frzs, I.base.tbls⟩, ⟨m, hn.sameBut hs (Ne.symm (cne x c hc)), fun j y v' e1 e2 e3 => ?_⟩, fun y c' e => ?_, I.free, I.freeC, fun p hp => ?_, tracked ⟨oc, hoc, I.freeC x c hc⟩ hs, by simpa using I.len⟩ ⟨c, hs, .inr hc⟩
    · exact (hs.2 b (Nat.ne_of_lt (Nat.lt_of_lt_of_le (Heap.lt_size e) (I.ok.cab x c hfn hc)))).trans (I.base.keep b o e n hb hx)
    · obtain ⟨sl, e1⟩ := I.base.slot b o e n hb hx
      exact ⟨sl, (hs.2 b (Nat.ne_of_lt (Nat.lt_of_lt_of_le (Heap.lt_size e) (I.ok.cab x c hfn hc)))).trans e1⟩
    · obtain ⟨o', e1⟩ := I.base.there b o e hx
      exact ⟨o', (hs.2 b (Nat.ne_of_lt (Nat.lt_of_lt_of_le (Heap.lt_size e) (I.ok.cab x c hfn hc)))).trans e1⟩
    · by_cases hj : j = i
      · subst hj
        rw [hi] at e1; cases e1
        rw [List.getElem?_set_self hiσ] at e2
        cases e2
        exact ⟨u, r, .inr ⟨.inl hk, c, hc, hc'⟩⟩
      · rw [List.getElem?_set_ne (Ne.symm hj)] at e2
        obtain ⟨u', r', q⟩ := hl j y v' e1 e2 e3
        refine ⟨u', r', ?_⟩
        rcases q with q | ⟨k, c', e, z'⟩
        · exact .inl q
        · refine .inr ⟨k, c', e, z'.sameBut hs ?_⟩
          rintro rfl
          exact hj (nodup_ix hN e1 (I.ok.inj _ _ _ e hc ▸ hi))
    · by_cases hcc : c' = c
      · subst hcc; exact ⟨_, hc'⟩
      · obtain ⟨w2, z2⟩ := I.cell y c' e
        exact ⟨w2, z2.sameBut hs hcc⟩
    · obtain ⟨e, n, ne, nf, d⟩ := I.pin p hp
      refine ⟨(hs.2 p.1 ?_).trans e, n, ne, nf, d⟩
      intro q
      rw [q, hoc] at e
      have q' : oc = p.2 := Option.some.inj e
      exact d w' (by rw [← q']; exact hocd)
theorem store_ok {M : Model} {A : Around} {E : Value → Shared → Prop} {i : Nat} {x : Str} {v : V} {u : Value} {Q : Unit → Shared → Prop} (I : Inv X pins σ H s) (hN : X.N.Nodup) (hi : X.N[i]? = some x) (hx : Loc X.env.scope x) (r : RelV v u)
    (h : ∀ s', Inv X pins (σ.set i (some v)) H s' → Q () s') (hf : X.fn x = true ∨ X.env.scope.names.lookup x = some .local := by first | exact .inl rfl | exact .inr rfl | assumption) : wpAny M A (storeName X.env x u) Q E s :=
  store_ok2 I hN hi hx r (fun s' I' _ => h s' I') hf
/-- behind a call or a block, the state as it is -/
theorem Inv.call' {s' : Shared} {ch : List Addr} (I : Inv X pins σ H s) (ho : s'.os = s.os) (u : Un (frs X.stack) ch H H' s.heap s'.heap) (hok : HOk X.prog X.w H' s'.heap) (hg : AllBare s'.gens)
    (hch : ∀ b ∈ ch, (b ∈ X.ex ∨ X.s₀.heap.objs.size ≤ b) ∧ b ≠ X.env.locals ∧ (∀ x c, X.env.cells.lookup x = some c → c ≠ b) ∧ ∀ p ∈ X.pn ++ pins, p.1 ≠ b) : Inv X pins σ H' s' := by
  obtain ⟨h', g', d', t', o'⟩ := s'
  have e : o' = s.os := ho
  subst e
  exact I.call (g' := g') (t' := t') (d' := d') u hok hg hch
end

/-! ### the judgements -/
/-- an exception: its class, its own dict's address (where it has one), the abstract heap behind it -/
abbrev XK := Value → Option Addr → Hp → Prop
abbrev St := List (Option V)
abbrev VK := V → Hp → Prop
/-- an expression's reading; a test's; an argument list's -/
abbrev TE := St → Hp → VK → Prop
abbrev TT := St → Hp → (Bool → Hp → Prop) → Prop
abbrev TA := St → Hp → (List V → Hp → Prop) → Prop
/-- what is wanted behind a statement -/
structure Ends where
  nx : St → Hp → Prop
  rt : VK
  bk : St → Hp → Prop := fun _ _ => False
  ct : St → Hp → Prop := fun _ _ => False
abbrev TS := Ends → St → Hp → Prop

def EP (X : Cx) (pins : List (Addr × Obj)) (σ : St) (Q : VK) (u : Value) (s' : Shared) : Prop := ∃ v H', Inv X pins σ H' s' ∧ RelV v u ∧ Q v H'
def TP (X : Cx) (pins : List (Addr × Obj)) (σ : St) (Q : Bool → Hp → Prop) (b : Bool) (s' : Shared) : Prop := ∃ H', Inv X pins σ H' s' ∧ Q b H'
def AP (X : Cx) (pins : List (Addr × Obj)) (σ : St) (Q : List V → Hp → Prop) (us : List Value) (s' : Shared) : Prop := ∃ vs H', Inv X pins σ H' s' ∧ Vals vs us ∧ Q vs H'
def SP (X : Cx) (pins : List (Addr × Obj)) (D : Ends) (f : Flow) (s' : Shared) : Prop :=
  match f with
  | .next => ∃ σ' H', Inv X pins σ' H' s' ∧ D.nx σ' H'
  | .brk => ∃ σ' H', Inv X pins σ' H' s' ∧ D.bk σ' H'
  | .cont => ∃ σ' H', Inv X pins σ' H' s' ∧ D.ct σ' H'
  | .ret u => ∃ v σ' H', Inv X pins σ' H' s' ∧ RelV v u ∧ D.rt v H'

def PE (X : Cx) (e : Expr) (t : TE) : Prop :=
  ∀ (pins : List (Addr × Obj)) (s : Shared) (σ : St) (H : Hp) (Q : VK), Inv X pins σ H s → t σ H Q → wpAny (model X.prog X.w) X.A (eval e X.env) (EP X pins σ Q) X.xe s
def PT (X : Cx) (e : Expr) (t : TT) : Prop :=
  ∀ (pins : List (Addr × Obj)) (s : Shared) (σ : St) (H : Hp) (Q : Bool → Hp → Prop), Inv X pins σ H s → t σ H Q → wpAny (model X.prog X.w) X.A (isTrue e X.env (eval e X.env)) (TP X pins σ Q) X.xe s
/-- a test whatever its 'whole' is (and, or) -/
def PW (X : Cx) (e : Expr) (t : TT) : Prop :=
  ∀ (whole : Sem Value) (pins : List (Addr × Obj)) (s : Shared) (σ : St) (H : Hp) (Q : Bool → Hp → Prop), Inv X pins σ H s → t σ H Q → wpAny (model X.prog X.w) X.A (isTrue e X.env whole) (TP X pins σ Q) X.xe s
theorem PW.pt {X : Cx} {e : Expr} {t : TT} (h : PW X e t) : PT X e t := h _
/-- an argument list (no star), from the left -/
def PA (X : Cx) (es : List Expr) (t : TA) : Prop :=
  ∀ (pos : Pos) (pins : List (Addr × Obj)) (s : Shared) (σ : St) (H : Hp) (Q : List V → Hp → Prop), Inv X pins σ H s → t σ H Q → wpAny (model X.prog X.w) X.A (spliced (backTo pos (starEach es X.env))) (AP X pins σ Q) X.xe s
def PS (X : Cx) (st : Stmt) (t : TS) : Prop :=
  ∀ (pins : List (Addr × Obj)) (s : Shared) (σ : St) (H : Hp) (D : Ends), Inv X pins σ H s → t D σ H → wpAny (model X.prog X.w) X.A (exec st X.env) (SP X pins D) X.xe s
def PSs (X : Cx) (st : List Stmt) (t : TS) : Prop :=
  ∀ (pins : List (Addr × Obj)) (s : Shared) (σ : St) (H : Hp) (D : Ends), Inv X pins σ H s → t D σ H → wpAny (model X.prog X.w) X.A (execs st X.env) (SP X pins D) X.xe s
/-- weaken the end -/
theorem thn {α : Type} {t : Sem α} {Q Q' : α → Shared → Prop} {M : Model} {A : Around} {E : Value → Shared → Prop} {s : Shared} (h : wpAny M A t Q E s) (hQ : ∀ a s, Q a s → Q' a s) : wpAny M A t Q' E s := wpAny_mono h hQ fun _ _ x => x
end L2

namespace L2
open PySem PySem.Spec PyProof.Rows
section
variable {X : Cx}

/-- two expressions in a row -/
theorem bin {a b : Expr} {ta tb : TE} (ha : PE X a ta) (hb : PE X b tb) {pins : List (Addr × Obj)} {s : Shared} {σ : St} {H : Hp} {R : V → V → Hp → Prop} (I : Inv X pins σ H s) (h : ta σ H fun x H1 => tb σ H1 fun y H2 => R x y H2)
    {α : Type} {Q : α → Shared → Prop} {f : Value → Value → Sem α}
    (hf : ∀ v u s2 x y H2, Inv X pins σ H2 s2 → RelV x v → RelV y u → R x y H2 → wpAny (model X.prog X.w) X.A (f v u) Q X.xe s2) :
    wpAny (model X.prog X.w) X.A (eval a X.env) (fun v s₁ => wpAny (model X.prog X.w) X.A (eval b X.env) (fun u s₂ => wpAny (model X.prog X.w) X.A (f v u) Q X.xe s₂) X.xe s₁) X.xe s := by
  refine thn (ha pins s σ H _ I h) fun v s1 ⟨x, H1, I1, r1, q1⟩ => ?_
  refine thn (hb pins s1 σ H1 _ I1 q1) fun u s2 ⟨y, H2, I2, r2, q2⟩ => ?_
  exact hf v u s2 x y H2 I2 r1 r2 q2

/-! ### names and constants -/
def tVar (i : Nat) : TE := fun σ H Q => ∃ v, σ[i]? = some (some v) ∧ Q v H
def tC (v : V) : TE := fun _ H Q => Q v H
theorem pe_var {i : Nat} {x : Str} {pos : Pos} (hN : X.N[i]? = some x) (hv : Vis X.env.scope x) (hd : (x == ("__debug__" : Str)) = false := by decide) (hcd : (x == ("__classdict__" : Str)) = false := by decide) : PE X (.Name x pos) (tVar i) := by
  intro pins s σ H Q I h
  obtain ⟨v, e, h⟩ := h
  obtain ⟨m, hn, hl⟩ := I.loc
  obtain ⟨u, r, l⟩ := hl i x v hN e hv
  have fin : EP X pins σ Q u s := ⟨v, H, I, r, h⟩
  rcases l with ⟨hk, hm⟩ | ⟨hk, c, hc, hcell⟩
  · exact wpAny_Name (wpAny_loadName_local I.ok.kind hk hn hm fin) hd
  · rcases hk with hk | hk
    · exact wpAny_Name (wpAny_loadName_cell I.ok.kind hk hc hcell fin) hd
    · exact wpAny_Name (wpAny_loadName_free I.ok.kind hk hc hcell fin hcd) hd
theorem pe_int {i j pos} : PE X (.Constant (.int i) j pos) (tC (.int i)) := fun _ _ _ H _ I h => wpAny_Constant_int ⟨.int i, H, I.tok _, ⟨_, rfl⟩, h⟩
theorem pe_bl {b j pos} : PE X (.Constant (.bool b) j pos) (tC (.bl b)) := fun _ _ _ H _ I h => Constant_bool ⟨.bl b, H, I, rfl, h⟩
theorem pe_non {j pos} : PE X (.Constant .none j pos) (tC .non) := fun _ _ _ H _ I h => Constant_none ⟨.non, H, I, rfl, h⟩

/-- a global name of the def -/
def Gl (X : Cx) (x : Str) : Prop := X.env.kindOf x = some .globalImplicit
theorem ld_glob {E : Value → Shared → Prop} {pins : List (Addr × Obj)} {s : Shared} {σ : St} {H : Hp} {x : Str} {u : Value} {pos : Pos} {Q : Value → Shared → Prop} (I : Inv X pins σ H s) (hg : Gl X x) (hm : X.mg x = some u) (h : Q u s)
    (hd : (x == ("__debug__" : Str)) = false := by decide) : wpAny (model X.prog X.w) X.A (eval (.Name x pos) X.env) Q E s :=
  Calls.Name_function_global I.ok.kind hg (Calls.loadGlobal_global (by rw [I.ok.glob]; exact I.mod.glob.keeps I.bk) hm h) hd
theorem ld_blt {E : Value → Shared → Prop} {pins : List (Addr × Obj)} {s : Shared} {σ : St} {H : Hp} {x : Str} {u : Value} {pos : Pos} {Q : Value → Shared → Prop} (I : Inv X pins σ H s) (hg : Gl X x) (hm : X.mg x = none) (hv : bootBuiltins x = some u) (h : Q u s)
    (hn : x ≠ "__name__" := by decide) (hd : (x == ("__debug__" : Str)) = false := by decide) : wpAny (model X.prog X.w) X.A (eval (.Name x pos) X.env) Q E s := by
  obtain ⟨mb, h1, h2⟩ := I.mod.blt
  exact Calls.Name_function_global I.ok.kind hg (Calls.loadGlobal_builtin (by rw [I.ok.glob]; exact I.mod.glob.keeps I.bk) hm (by rw [I.ok.blt]; exact h1.keeps I.bk) ((h2 x hn).trans hv) h) hd
/-- a module's constant, a class, a function, as a value -/
theorem pe_glob {x : Str} {v : V} {u : Value} {pos : Pos} (hg : Gl X x) (hm : X.mg x = some u) (r : RelV v u) (hd : (x == ("__debug__" : Str)) = false := by decide) : PE X (.Name x pos) (tC v) :=
  fun _ _ _ H _ I h => ld_glob I hg hm ⟨v, H, I, r, h⟩ hd
theorem pe_bltn {x : Str} {v : V} {u : Value} {pos : Pos} (hg : Gl X x) (hm : X.mg x = none) (hv : bootBuiltins x = some u) (r : RelV v u) (hn : x ≠ "__name__" := by decide) (hd : (x == ("__debug__" : Str)) = false := by decide) : PE X (.Name x pos) (tC v) :=
  fun _ _ _ H _ I h => ld_blt I hg hm hv ⟨v, H, I, r, h⟩ hn hd

/-! ### arithmetic -/
/-- two ints -/
def t2I (ta tb : TE) (k : Int → Int → Hp → Prop) : St → Hp → Prop := fun σ H => ta σ H fun x H1 => tb σ H1 fun y H2 => ∃ i j, x = .int i ∧ y = .int j ∧ k i j H2
def tAdd (ta tb : TE) : TE := fun σ H Q => t2I ta tb (fun i j H2 => Q (.int (i + j)) H2) σ H
def tSub (ta tb : TE) : TE := fun σ H Q => t2I ta tb (fun i j H2 => Q (.int (i - j)) H2) σ H
/-- the left factor below 2^64 -/
def tMul (ta tb : TE) : TE := fun σ H Q => t2I ta tb (fun i j H2 => (-(2 ^ 64) < i ∧ i < 2 ^ 64) ∧ Q (.int (i * j)) H2) σ H
variable {a b : Expr} {ta tb : TE} {pos : Pos}

/-! ### comparisons -/
def PC (X : Cx) (op : CmpOp) (a b : Expr) (t : TE) : Prop :=
  ∀ (pins : List (Addr × Obj)) (s : Shared) (σ : St) (H : Hp) (Q : VK), Inv X pins σ H s → t σ H Q →
    wpAny (model X.prog X.w) X.A (eval a X.env) (fun v s₁ => wpAny (model X.prog X.w) X.A (eval b X.env) (fun u s₂ => wpAny (model X.prog X.w) X.A (compareOp op v u) (EP X pins σ Q) X.xe s₂) X.xe s₁) X.xe s
theorem nobehind (b : Expr) {op : CmpOp} (h : op ≠ .In) (h2 : op ≠ .NotIn) : behindInMarks op b = false := by
  have e1 : (op == CmpOp.In) = false := by cases op <;> first | rfl | exact absurd rfl h
  have e2 : (op == CmpOp.NotIn) = false := by cases op <;> first | rfl | exact absurd rfl h2
  cases b <;> simp [behindInMarks, e1, e2]
def tCmp (p : Int → Int → Bool) (ta tb : TE) : TE := fun σ H Q => t2I ta tb (fun i j H2 => Q (.bl (p i j)) H2) σ H
abbrev tLt : TE → TE → TE := tCmp fun i j => decide (i < j)
abbrev tLe : TE → TE → TE := tCmp fun i j => decide (i ≤ j)
abbrev tGt : TE → TE → TE := tCmp fun i j => decide (j < i)
abbrev tGe : TE → TE → TE := tCmp fun i j => decide (j ≤ i)
abbrev tEqI : TE → TE → TE := tCmp fun i j => decide (i = j)
abbrev tNeI : TE → TE → TE := tCmp fun i j => !decide (i = j)
/-- is None -/
def tIsN (ta : TE) : TE := fun σ H Q => ta σ H fun x H1 => Q (.bl (decide (x = .non))) H1
def tNotN (ta : TE) : TE := fun σ H Q => ta σ H fun x H1 => Q (.bl (!decide (x = .non))) H1
theorem RelV.none_iff {x : V} {v : Value} (r : RelV x v) : (v == Value.none) = decide (x = .non) := by
  cases x with
  | non => cases r; rfl
  | bl _ => cases r; rfl
  | int _ => obtain ⟨t, rfl⟩ := r; rfl
  | str _ => obtain ⟨t, rfl⟩ := r; rfl
  | byt _ => obtain ⟨t, rfl⟩ := r; rfl
  | flt _ => obtain ⟨t, rfl⟩ := r; rfl
  | ref _ => cases r; rfl
  | ty _ => cases r; rfl
theorem pc_isN {j pos'} (ha : PE X a ta) : PC X .Is a (.Constant .none j pos') (tIsN ta) := by
  intro pins s σ H Q I h
  refine thn (ha pins s σ H _ I h) fun v s1 ⟨x, H1, I1, r1, q1⟩ => ?_
  exact Constant_none (is_none_gen ⟨.bl _, H1, I1, by rw [r1.none_iff]; rfl, q1⟩)
/-- a comparison as a value, as a test -/
def tB (t : TE) : TT := fun σ H Q => t σ H fun x H1 => ∃ c, x = .bl c ∧ Q c H1
theorem pt_cmp {op : CmpOp} {t : TE} (h : PC X op a b t) (h1 : behindInMarks op b = false := by first | exact nobehind _ (by decide) (by decide) | rfl) : PT X (.Compare a [op] [b] pos) (tB t) := by
  intro pins s σ H Q I hw
  refine wpAny_isTrue_Compare1 (thn (h pins s σ H _ I hw) fun v s1 h1 => thn h1 fun u s2 h2 => thn h2 fun c s3 ⟨x, H1, I1, r1, q1⟩ => ?_) h1
  obtain ⟨d, rfl, q⟩ := q1
  cases r1
  exact wpAny_truthy_bool ⟨H1, I1, q⟩

/-! ### and, or, not -/
variable {tA tB' : TT} {rest : List Expr}
def tAnd (t u : TT) : TT := fun σ H Q => t σ H fun c H1 => if c = true then u σ H1 Q else Q false H1
def tOr (t u : TT) : TT := fun σ H Q => t σ H fun c H1 => if c = true then Q true H1 else u σ H1 Q
def tNot (t : TT) : TT := fun σ H Q => t σ H fun c H1 => Q (!c) H1
theorem pw_and1 (ha : PT X a tA) : PW X (.BoolOp .And [a] pos) tA := by
  intro wh pins s σ H Q I h
  refine isTrue_and (thn (ha pins s σ H Q I h) fun c s1 e => ?_)
  cases c with
  | true => exact isTrue_and_nil e
  | false => exact e
theorem pw_or1 (ha : PT X a tA) : PW X (.BoolOp .Or [a] pos) tA := by
  intro wh pins s σ H Q I h
  refine isTrue_or (thn (ha pins s σ H Q I h) fun c s1 e => ?_)
  cases c with
  | false => exact isTrue_or_nil e
  | true => exact e
theorem pw_and (ha : PT X a tA) (hb : PW X (.BoolOp .And (b :: rest) pos) tB') : PW X (.BoolOp .And (a :: b :: rest) pos) (tAnd tA tB') := by
  intro wh pins s σ H Q I h
  refine isTrue_and (thn (ha pins s σ H _ I h) fun c s1 ⟨H1, I1, q1⟩ => ?_)
  cases c with
  | true => exact hb wh pins s1 σ H1 Q I1 q1
  | false => exact ⟨H1, I1, q1⟩
theorem pw_or (ha : PT X a tA) (hb : PW X (.BoolOp .Or (b :: rest) pos) tB') : PW X (.BoolOp .Or (a :: b :: rest) pos) (tOr tA tB') := by
  intro wh pins s σ H Q I h
  refine isTrue_or (thn (ha pins s σ H _ I h) fun c s1 ⟨H1, I1, q1⟩ => ?_)
  cases c with
  | true => exact ⟨H1, I1, q1⟩
  | false => exact hb wh pins s1 σ H1 Q I1 q1
theorem pt_not (ha : PT X a tA) : PT X (.UnaryOp .Not a pos) (tNot tA) := by
  intro pins s σ H Q I h
  exact isTrue_not (ha pins s σ H (fun c H1 => Q (!c) H1) I h)
/-- .. as values (bools) -/
def tAndV (ta tb : TE) : TE := fun σ H Q => ta σ H fun x H1 => ∃ c, x = .bl c ∧ if c = true then tb σ H1 Q else Q (.bl false) H1
def tOrV (ta tb : TE) : TE := fun σ H Q => ta σ H fun x H1 => ∃ c, x = .bl c ∧ if c = true then Q (.bl true) H1 else tb σ H1 Q
def tNotV (ta : TE) : TE := fun σ H Q => ta σ H fun x H1 => ∃ c, x = .bl c ∧ Q (.bl (!c)) H1
theorem pe_one {op} {t : TE} (h : PE X a t) : PE X (.BoolOp op [a] pos) t := fun pins s σ H Q I hw => BoolOp_one (h pins s σ H Q I hw)
theorem pe_and (ha : PE X a ta) (hb : PE X (.BoolOp .And (b :: rest) pos) tb) : PE X (.BoolOp .And (a :: b :: rest) pos) (tAndV ta tb) := by
  intro pins s σ H Q I h
  refine BoolOp_and (thn (ha pins s σ H _ I h) fun v s1 ⟨x, H1, I1, r1, q1⟩ => ?_)
  obtain ⟨c, rfl, q1⟩ := q1
  cases r1
  refine wpAny_truthy_bool ?_
  cases c with
  | true => exact hb pins s1 σ H1 Q I1 q1
  | false => exact ⟨.bl false, H1, I1, rfl, q1⟩
theorem pe_not (ha : PE X a ta) : PE X (.UnaryOp .Not a pos) (tNotV ta) := by
  intro pins s σ H Q I h
  refine UnaryOp_ (thn (ha pins s σ H _ I h) fun v s1 ⟨x, H1, I1, r1, q1⟩ => ?_)
  obtain ⟨c, rfl, q1⟩ := q1
  cases r1
  exact not_of (wpAny_truthy_bool ⟨.bl (!c), H1, I1, rfl, q1⟩)
/-- a if t else b -/
def tIf (t : TT) (ta tb : TE) : TE := fun σ H Q => t σ H fun c H1 => if c = true then ta σ H1 Q else tb σ H1 Q
end
end L2

namespace L2
open PySem PySem.Spec PyProof.Rows

/-! ### a list, a tuple that is read: tracked, frozen, or an object of the module -/
def SqL (K : PySem.W.Frag) (H : Hp) (a : Addr) (xs : List V) : Prop :=
  Rd H a (.lst xs) ∨
    ∃ (o : Obj) (its : Array Value) (n : Nat), K.lookup a = some o ∧ o.cls = .type "list" ∧ o.dict = none ∧ o.data = .seq its n ∧ its.size ≤ sizeLine ∧ Vals xs its.toList
def SqT (K : PySem.W.Frag) (H : Hp) (a : Addr) (xs : List V) : Prop :=
  Rd H a (.tup xs) ∨
    ∃ (o : Obj) (its : Array Value) (n : Nat), K.lookup a = some o ∧ o.cls = .type "tuple" ∧ o.data = .seq its n ∧ its.size ≤ sizeLine ∧ Vals xs its.toList
def absV : Value → Option V
  | .none => some .non
  | .bool b => some (.bl b)
  | .int i _ => some (.int i)
  | .str x _ => some (.str x)
  | .bytes b _ => some (.byt b)
  | .float b _ => some (.flt b)
  | .ref a => some (.ref a)
  | .type n => some (.ty n)
  | _ => none
theorem RelV.abs {x : V} {u : Value} (r : RelV x u) : absV u = some x := by
  cases x with
  | non => cases r; rfl
  | bl _ => cases r; rfl
  | int _ => obtain ⟨t, rfl⟩ := r; rfl
  | str _ => obtain ⟨t, rfl⟩ := r; rfl
  | byt _ => obtain ⟨t, rfl⟩ := r; rfl
  | flt _ => obtain ⟨t, rfl⟩ := r; rfl
  | ref _ => cases r; rfl
  | ty _ => cases r; rfl
theorem RelV.inj {x y : V} {u : Value} (r : RelV x u) (q : RelV y u) : x = y := Option.some.inj (r.abs.symm.trans q.abs)
theorem Vals.inj : ∀ {xs ys : List V} {us : List Value}, Vals xs us → Vals ys us → xs = ys
  | _, _, _, .nil, .nil => rfl
  | _, _, _, .cons r t, .cons r' t' => by rw [r.inj r', Vals.inj t t']
section
variable {X : Cx} {pins : List (Addr × Obj)} {σ : St} {H : Hp} {s : Shared} {a : Addr} {xs ys : List V}
theorem SqL.of {K : PySem.W.Frag} (h : H a = some (.lst xs)) : SqL K H a xs := .inl (.inl h)
theorem SqT.of {K : PySem.W.Frag} (h : H a = some (.tup xs)) : SqT K H a xs := .inl (.inl h)
theorem Inv.list (I : Inv X pins σ H s) (h : SqL X.K H a xs) : ∃ its : List Value, Vals xs its ∧ PlainL s.heap a its.toArray ∧ xs.length ≤ sizeLine := by
  rcases h with h | ⟨o, its, n, hk, hc, hd, hs, hz, r⟩
  · obtain ⟨z, its, n, r, e⟩ := h.ok I.hok
    exact ⟨its, r, ⟨_, n, e, rfl, rfl, rfl⟩, z⟩
  · refine ⟨its.toList, r, ⟨o, n, I.kIn a o hk, hc, hd, by simpa using hs⟩, ?_⟩
    have e := r.length
    simp only [Array.length_toList] at e
    omega
theorem Inv.tuple (I : Inv X pins σ H s) (h : SqT X.K H a xs) : ∃ its : List Value, Vals xs its ∧ IsTup s.heap a its.toArray ∧ xs.length ≤ sizeLine := by
  rcases h with h | ⟨o, its, n, hk, hc, hs, hz, r⟩
  · obtain ⟨z, its, r, p⟩ := h.ok I.hok
    exact ⟨its, r, p, z⟩
  · refine ⟨its.toList, r, ⟨o, I.kIn a o hk, hc, n, by simpa using hs⟩, ?_⟩
    have e := r.length
    simp only [Array.length_toList] at e
    omega
theorem Inv.list_inj (I : Inv X pins σ H s) (h : SqL X.K H a xs) (h' : SqL X.K H a ys) : xs = ys := by
  obtain ⟨its, r, ⟨o, n, e, _, _, d⟩, _⟩ := I.list h
  obtain ⟨its', r', ⟨o', n', e', _, _, d'⟩, _⟩ := I.list h'
  rw [e] at e'; cases e'
  rw [d] at d'
  injection d' with d1 _
  have : its = its' := by simpa using congrArg Array.toList d1
  subst this
  exact r.inj r'
theorem Inv.tuple_inj (I : Inv X pins σ H s) (h : SqT X.K H a xs) (h' : SqT X.K H a ys) : xs = ys := by
  obtain ⟨its, r, ⟨o, e, _, n, d⟩, _⟩ := I.tuple h
  obtain ⟨its', r', ⟨o', e', _, n', d'⟩, _⟩ := I.tuple h'
  rw [e] at e'; cases e'
  rw [d] at d'
  injection d' with d1 _
  have : its = its' := by simpa using congrArg Array.toList d1
  subst this
  exact r.inj r'
end

/-! ### another wish about exceptions -/
abbrev Cx.wish (X : Cx) (E : Value → Shared → Prop) : Cx := { X with xe := E }
/-- no exception leaves -/
abbrev Cx.nox (X : Cx) : Cx := X.wish fun _ _ => False
theorem Cx.Ok.wish {X : Cx} (ok : X.Ok) (E : Value → Shared → Prop) : (X.wish E).Ok :=
  ⟨ok.mod, ok.kind, ok.glob, ok.blt, ok.above, ok.inj, ok.has, ok.cab, ok.hd, ok.frames, ok.stk, ok.exf, ok.bs, ok.bsz, ok.noex, ok.exfs, ok.funs, ok.frf⟩
theorem Cx.Ok.unwish {X : Cx} {E : Value → Shared → Prop} (ok : (X.wish E).Ok) : X.Ok :=
  ⟨ok.mod, ok.kind, ok.glob, ok.blt, ok.above, ok.inj, ok.has, ok.cab, ok.hd, ok.frames, ok.stk, ok.exf, ok.bs, ok.bsz, ok.noex, ok.exfs, ok.funs, ok.frf⟩
section
variable {X : Cx} {pins : List (Addr × Obj)} {σ : St} {H : Hp} {s : Shared} {E : Value → Shared → Prop}
theorem Inv.wish (I : Inv X pins σ H s) (E : Value → Shared → Prop) : Inv (X.wish E) pins σ H s := ⟨I.ok.wish E, I.os, I.bare, I.base, I.loc, I.cell, I.free, I.freeC, I.pin, I.hok, I.len⟩
theorem Inv.unwish (I : Inv (X.wish E) pins σ H s) : Inv X pins σ H s := ⟨I.ok.unwish, I.os, I.bare, I.base, I.loc, I.cell, I.free, I.freeC, I.pin, I.hok, I.len⟩
theorem SP.unwish {D : Ends} {f : Flow} {s' : Shared} (h : SP (X.wish E) pins D f s') : SP X pins D f s' := by
  cases f with
  | next => obtain ⟨σ', H', I, q⟩ := h; exact ⟨σ', H', I.unwish, q⟩
  | brk => obtain ⟨σ', H', I, q⟩ := h; exact ⟨σ', H', I.unwish, q⟩
  | cont => obtain ⟨σ', H', I, q⟩ := h; exact ⟨σ', H', I.unwish, q⟩
  | ret u => obtain ⟨v, σ', H', I, r, q⟩ := h; exact ⟨v, σ', H', I.unwish, r, q⟩
theorem PE.nox {e : Expr} {t : TE} (h : PE X.nox e t) : PE X e t := fun pins s σ H Q I hw =>
  wpAny_mono (h pins s σ H Q (I.wish _) hw) (fun _ _ ⟨v, H', I', r, q⟩ => ⟨v, H', I'.unwish, r, q⟩) fun _ _ z => False.elim z
theorem PT.nox {e : Expr} {t : TT} (h : PT X.nox e t) : PT X e t := fun pins s σ H Q I hw =>
  wpAny_mono (h pins s σ H Q (I.wish _) hw) (fun _ _ ⟨H', I', q⟩ => ⟨H', I'.unwish, q⟩) fun _ _ z => False.elim z
theorem PSs.nox {st : List Stmt} {t : TS} (h : PSs X.nox st t) : PSs X st t := fun pins s σ H D I hw =>
  wpAny_mono (h pins s σ H D (I.wish _) hw) (fun _ _ q => q.unwish) fun _ _ z => False.elim z
end

/-! ### blocks and small statements -/
section
variable {X : Cx} {st : Stmt} {rest : List Stmt} {t u : TS} {e : Expr} {te : TE} {pos : Pos}
def tNext : TS := fun D σ H => D.nx σ H
def tSeq (t u : TS) : TS := fun D σ H => t { D with nx := u D } σ H
theorem pss_nil : PSs X [] tNext := fun _ _ σ H _ I h => wpAny_execs_nil ⟨σ, H, I, h⟩
theorem pss_cons (h1 : PS X st t) (h2 : PSs X rest u) : PSs X (st :: rest) (tSeq t u) := by
  intro pins s σ H D I h
  refine wpAny_execs_cons (thn (h1 pins s σ H { D with nx := u D } I h) fun f s1 q => ?_)
  cases f with
  | next =>
    obtain ⟨σ', H', I', q⟩ := q
    exact h2 pins s1 σ' H' D I' q
  | ret v => exact q
  | brk => exact q
  | cont => exact q
theorem pss_one (h1 : PS X st t) : PSs X [st] t := by
  intro pins s σ H D I h
  refine wpAny_execs_cons (thn (h1 pins s σ H D I h) fun f s1 q => ?_)
  cases f with
  | next => exact wpAny_execs_nil q
  | ret v => exact q
  | brk => exact q
  | cont => exact q
def tBreak : TS := fun D σ H => D.bk σ H
def tCont : TS := fun D σ H => D.ct σ H
/-- in a def's body nothing is shown -/
theorem Inv.quiet {pins : List (Addr × Obj)} {σ : St} {H : Hp} {s : Shared} (I : Inv X pins σ H s) : interactive X.env = false := by simp [interactive, I.ok.kind]
/-- an expression whose value is dropped -/
def tDrop (te : TE) : TS := fun D σ H => te σ H fun _ H1 => D.nx σ H1
theorem ps_expr (he : PE X e te) (hs : swapsWith e none pos.line X.env = pure false := by rfl) : PS X (.Expr e pos) (tDrop te) := by
  intro pins s σ H D I h
  exact wpAny_Expr_any (thn (he pins s σ H _ I h) fun v s1 ⟨x, H1, I1, r1, q1⟩ => ⟨σ, H1, I1, q1⟩) I.quiet hs
def tRet (te : TE) : TS := fun D σ H => te σ H D.rt
theorem ps_ret (he : PE X e te) : PS X (.Return (some e) pos) (tRet te) := by
  intro pins s σ H D I h
  exact wpAny_Return_some (thn (he pins s σ H _ I h) fun v s1 ⟨x, H1, I1, r1, q1⟩ => ⟨x, σ, H1, I1, r1, q1⟩)
def tRetN : TS := fun D _ H => D.rt .non H
def tIfS (c : TT) (t u : TS) : TS := fun D σ H => c σ H fun b H1 => if b = true then t D σ H1 else u D σ H1
theorem ps_if {c : Expr} {a b : List Stmt} {tc : TT} (hc : PT X c tc) (ha : PSs X a t) (hb : PSs X b u) : PS X (.If c a b pos) (tIfS tc t u) := by
  intro pins s σ H D I h
  refine wpAny_If (thn (hc pins s σ H _ I h) fun d s1 ⟨H1, I1, q1⟩ => ?_)
  cases d with
  | true => exact ha pins s1 σ H1 D I1 q1
  | false => exact hb pins s1 σ H1 D I1 q1
/-- code that the proof never comes to -/
def tNever : TS := fun _ _ _ => False
end

/-! ### targets -/
abbrev TG := V → St → Hp → (St → Hp → Prop) → Prop
abbrev TGs := List V → St → Hp → (St → Hp → Prop) → Prop
def PG (X : Cx) (target : Expr) (t : TG) : Prop :=
  ∀ (pins : List (Addr × Obj)) (s : Shared) (σ : St) (H : Hp) (v : V) (u : Value) (Q : St → Hp → Prop), Inv X pins σ H s → RelV v u → t v σ H Q →
    wpAny (model X.prog X.w) X.A (assign target X.env u) (fun _ s' => ∃ σ' H', Inv X pins σ' H' s' ∧ Q σ' H') X.xe s
/-- several targets, one after another -/
def PGs (X : Cx) (ts : List Expr) (t : TGs) : Prop :=
  ∀ (pins : List (Addr × Obj)) (s : Shared) (σ : St) (H : Hp) (vs : List V) (us : List Value) (Q : St → Hp → Prop), Inv X pins σ H s → Vals vs us → t vs σ H Q →
    wpAny (model X.prog X.w) X.A (assignInOrder ((assignEach ts X.env).map (·.2)) us) (fun _ s' => ∃ σ' H', Inv X pins σ' H' s' ∧ Q σ' H') X.xe s
/-- o[i] = v, by values -/
abbrev TSet := V → V → V → Hp → (Hp → Prop) → Prop
def PSet (X : Cx) (t : TSet) : Prop :=
  ∀ (pins : List (Addr × Obj)) (s : Shared) (σ : St) (H : Hp) (o i v : V) (ov iv u : Value) (Q : Hp → Prop), Inv X pins σ H s → RelV o ov → RelV i iv → RelV v u → t o i v H Q →
    wpAny (model X.prog X.w) X.A (setItem ov iv u) (fun _ s' => ∃ H', Inv X pins σ H' s' ∧ Q H') X.xe s
/-- a op= b, by values -/
abbrev TIp := V → V → Hp → VK → Prop
def PIp (X : Cx) (op : Operator) (t : TIp) : Prop :=
  ∀ (pins : List (Addr × Obj)) (s : Shared) (σ : St) (H : Hp) (x y : V) (v u : Value) (Q : VK), Inv X pins σ H s → RelV x v → RelV y u → t x y H Q →
    wpAny (model X.prog X.w) X.A (inplaceOp op v u) (EP X pins σ Q) X.xe s
section
variable {X : Cx} {pos : Pos}
def gName (i : Nat) : TG := fun v σ H Q => Q (σ.set i (some v)) H
theorem pg_name {i : Nat} {x : Str} (hN : X.N.Nodup) (hi : X.N[i]? = some x) (hx : Loc X.env.scope x) (hf : X.fn x = true ∨ X.env.scope.names.lookup x = some .local := by first | exact .inl rfl | exact .inr rfl | assumption) : PG X (.Name x pos) (gName i) := by
  intro pins s σ H v u Q I r h
  exact wpAny_assign_Name (store_ok I hN hi hx r (fun s' I' => ⟨_, H, I', h⟩) hf)
def gNil : TGs := fun vs σ H Q => vs = [] ∧ Q σ H
def gCons (t : TG) (u : TGs) : TGs := fun vs σ H Q => ∃ v r, vs = v :: r ∧ t v σ H fun σ' H' => u r σ' H' Q
theorem pgs_nil : PGs X [] gNil := by
  intro pins s σ H vs us Q I r h
  obtain ⟨e, h⟩ := h
  subst e
  cases r
  exact assignInOrder_nil ⟨σ, H, I, h⟩
theorem pgs_cons {e : Expr} {es : List Expr} {t : TG} {u : TGs} (h1 : PG X e t) (h2 : PGs X es u)
    (hs : (assignEach (e :: es) X.env).map (·.2) = assign e X.env :: (assignEach es X.env).map (·.2) := by rfl) : PGs X (e :: es) (gCons t u) := by
  intro pins s σ H vs us Q I r h
  obtain ⟨v, vr, e1, h⟩ := h
  subst e1
  cases r with
  | cons r rr =>
    rw [hs]
    refine assignInOrder_cons (thn (h1 pins s σ H _ _ _ I r h) fun _ s1 ⟨σ1, H1, I1, q1⟩ => ?_)
    exact h2 pins s1 σ1 H1 _ _ Q I1 rr q1
/-- (a, b, ..) = a tuple of that length -/
def gTup (K : PySem.W.Frag) (n : Nat) (t : TGs) : TG := fun v σ H Q => ∃ a xs, v = .ref a ∧ SqT K H a xs ∧ xs.length = n ∧ t xs σ H Q
theorem pg_tup {es : List Expr} {k : Nat} {t : TGs} {n : Nat} (hc : X.calm = true) (h : PGs X es t)
    (hn : (assignEach es X.env).length = n := by rfl) (hst : (assignEach es X.env).findIdx? (·.1) = none := by rfl) : PG X (.Tuple es k pos) (gTup X.K n t) := by
  intro pins s σ H v u Q I r hw
  obtain ⟨a, xs, e1, hq, hl, hw⟩ := hw
  subst e1
  cases r
  obtain ⟨its, rv, ht, hz⟩ := I.tuple hq
  refine assign_Tuple_tuple (I.ok.hd hc) ht (by simp [hn, ← hl, rv.length]) hst fun h' hx => ?_
  have I1 : Inv X pins σ H { s with heap := h' } := I.kept (t' := s.toks) fun b o e => hx b o (Nat.ne_of_lt (Heap.lt_size e)) e
  exact h pins _ σ H xs _ Q I1 (by simpa using rv) hw
/-- o[i] = .. -/
def gSub (to ti : TE) (t : TSet) : TG := fun v σ H Q => to σ H fun o H1 => ti σ H1 fun i H2 => t o i v H2 fun H3 => Q σ H3
theorem pg_sub {o i : Expr} {to ti : TE} {t : TSet} (ho : PE X o to) (hi : PE X i ti) (hs : PSet X t)
    (ha : ∀ v, assign (.Subscript o i pos) X.env v = (do
      let ov ← holding [v] (eval o X.env)
      let iv ← holding [v, ov] (eval i X.env)
      standAt pos
      holding [v, ov, iv] (setItem ov iv v)
      release [v, ov, iv] []) := by intro _; rfl) : PG X (.Subscript o i pos) (gSub to ti t) := by
  intro pins s σ H v u Q I r h
  rw [ha]
  refine wpAny_bind (wpAny_holding (thn (ho pins s σ H _ I h) fun ov s1 ⟨x, H1, I1, r1, q1⟩ => ?_))
  refine wpAny_bind (wpAny_holding (thn (hi pins s1 σ H1 _ I1 q1) fun iv s2 ⟨y, H2, I2, r2, q2⟩ => ?_))
  refine wpAny_bind (wpAny_standAt (wpAny_bind (wpAny_holding (thn (hs pins s2 σ H2 x y v ov iv u _ I2 r1 r2 r q2) fun _ s3 ⟨H3, I3, q3⟩ => ?_))))
  exact wpAny_release ⟨σ, H3, I3, q3⟩
/-- target = value -/
def tAsg (te : TE) (g : TG) : TS := fun D σ H => te σ H fun x H1 => g x σ H1 D.nx
theorem ps_asg {tg e : Expr} {te : TE} {g : TG} (he : PE X e te) (hg : PG X tg g) (hs : swapsWithSole [tg] e pos.line X.env = pure false := by rfl) (hw : swappedStores [tg] e X.env = pure none := by rfl)
    (h1 : (assignEach [tg] X.env).map (·.2) = [assign tg X.env] := by rfl) : PS X (.Assign [tg] e pos) (tAsg te g) := by
  intro pins s σ H D I h
  refine wpAny_Assign_stores (thn (he pins s σ H _ I h) fun v s1 ⟨x, H1, I1, r1, q1⟩ => ?_) hs hw
  rw [h1]
  exact thn (hg pins s1 σ H1 x v _ I1 r1 q1) fun _ s2 q => q
/-- name = value -/
theorem ps_set {i : Nat} {x : Str} {e : Expr} {te : TE} {pos' : Pos} (hN : X.N.Nodup) (hi : X.N[i]? = some x) (hx : Loc X.env.scope x) (he : PE X e te) (hs : swapsWith e (some (.Name x pos')) pos.line X.env = pure false := by rfl) (hf : X.fn x = true ∨ X.env.scope.names.lookup x = some .local := by first | exact .inl rfl | exact .inr rfl | assumption) :
    PS X (.Assign [.Name x pos'] e pos) (tAsg te (gName i)) := by
  intro pins s σ H D I h
  refine wpAny_Assign_Name (thn (he pins s σ H _ I h) fun v s1 ⟨y, H1, I1, r1, q1⟩ => ?_) hs
  exact store_ok I1 hN hi hx r1 (fun s2 I2 => ⟨_, H1, I2, q1⟩) hf
/-- a, b = x, y with plain local names: stored from the right; the pair itself is not tracked (the opening rows as in PyProof/Rows/TupAssign.lean:23) -/
def tPar (i j : Nat) (ta : TA) : TS := fun D σ H => ta σ H fun vs H1 => ∃ v w, vs = [v, w] ∧ D.nx ((σ.set i (some v)).set j (some w)) H1
/-- name op= e -/
def tAug (i : Nat) (te : TE) (ti : TIp) : TS := fun D σ H => ∃ x, σ[i]? = some (some x) ∧ te σ H fun y H1 => ti x y H1 fun z H2 => D.nx (σ.set i (some z)) H2
/-- o[i] op= e -/
def tAugS (to ti te : TE) (tget : V → V → Hp → VK → Prop) (tip : TIp) (tset : TSet) : TS := fun D σ H => to σ H fun o H1 => ti σ H1 fun i H2 => tget o i H2 fun x H3 => te σ H3 fun y H4 => tip x y H4 fun z H5 => tset o i z H5 fun H6 => D.nx σ H6
/-- o[i], by values -/
def PGet (X : Cx) (t : V → V → Hp → VK → Prop) : Prop :=
  ∀ (pins : List (Addr × Obj)) (s : Shared) (σ : St) (H : Hp) (o i : V) (ov iv : Value) (Q : VK), Inv X pins σ H s → RelV o ov → RelV i iv → t o i H Q →
    wpAny (model X.prog X.w) X.A (getItem ov iv) (EP X pins σ Q) X.xe s
/-- ints -/
def ipI (f : Int → Int → Int) : TIp := fun x y H Q => ∃ i j, x = .int i ∧ y = .int j ∧ Q (.int (f i j)) H
end

/-! ### while -/
section
variable {X : Cx} {pos : Pos}
/-- the invariant W with its measure -/
def tWhile (c : TT) (tb : TS) : TS := fun D σ H => ∃ W : Nat → St → Hp → Prop, (∃ m, W m σ H) ∧ ∀ m σ H, W m σ H →
  c σ H fun b H1 => if b = true then ∃ N : St → Hp → Prop, (∀ σ' H', N σ' H' → ∃ m', m' < m ∧ W m' σ' H') ∧ tb { D with nx := N, ct := N, bk := D.nx } σ H1 else D.nx σ H1
end

/-! ### what a loop or a comprehension walks -/
/-- at turn i: it yields x (the heap may grow), or it stops -/
structure It where
  go : Nat → Hp → Prop
  yld : Nat → Hp → V → Hp → Prop
  stop : Nat → Hp → Prop
/-- the iterator's own objects may turn: they are not the frame's, not pinned, younger than the entry (or a comprehension's own) -/
def FpOk (X : Cx) (pins : List (Addr × Obj)) (H : Hp) (b : Addr) : Prop :=
  H b = none ∧ b ≠ X.env.locals ∧ b ∉ X.fs ∧ (b ∈ X.ex ∨ X.s₀.heap.objs.size ≤ b) ∧ (∀ x c, X.env.cells.lookup x = some c → c ≠ b) ∧ ∀ p ∈ X.pn ++ pins, p.1 ≠ b
theorem Inv.fpOk {X : Cx} {pins : List (Addr × Obj)} {σ : St} {H H' : Hp} {s : Shared} {b : Addr} (I : Inv X pins σ H s) (hb : s.heap.objs.size ≤ b) (hn : H' b = none) : FpOk X pins H' b := by
  refine ⟨hn, Nat.ne_of_gt (Nat.lt_of_lt_of_le I.lt hb), I.nofs hb, .inr (Nat.le_trans I.sz hb), fun x c e z => ?_, fun p hp z => ?_⟩
  · obtain ⟨v, q⟩ := I.cell x c e
    exact absurd (Nat.lt_of_lt_of_le q.lt (by rw [z]; exact hb)) (Nat.lt_irrefl _)
  · exact absurd (Nat.lt_of_lt_of_le (Heap.lt_size (I.pin p hp).1) (by rw [z]; exact hb)) (Nat.lt_irrefl _)
structure Turn (P : Program) (w : World) (K : PySem.W.Frag) (tg : Expr) (J : It) (fp : List Addr) (it : Addr) (tn : Nat → Heap → Prop) : Prop where
  mem : it ∈ fp
  obj : ∀ i h, tn i h → ∀ b ∈ fp, ∃ o, h.get? b = some o ∧ ∀ v, o.data ≠ .cell v
  keep : ∀ i h h', tn i h → (∀ b ∈ fp, ∀ o, h.get? b = some o → h'.get? b = some o) → tn i h'
  item : ∀ (X : Cx), X.prog = P → X.w = w → X.K = K → X.calm = true → ∀ (i : Nat) (pins : List (Addr × Obj)) (s : Shared) (σ : St) (H : Hp) (E : Value → Shared → Prop), Inv X pins σ H s → (∀ b ∈ fp, FpOk X pins H b) → tn i s.heap → J.go i H →
    wpAny (model P w) X.A (pyNext (.ref it)) (fun r s1 => ∃ u, r = some u ∧
      wpAny (model P w) X.A (letOwnedTupleGo tg (.ref it) u) (fun _ s2 => ∃ x H', Inv X pins σ H' s2 ∧ RelV x u ∧ J.yld i H x H' ∧ tn (i + 1) s2.heap ∧ ∀ b ∈ fp, H' b = none) E s1) E s
  done : ∀ (X : Cx), X.prog = P → X.w = w → X.K = K → X.calm = true → ∀ (i : Nat) (pins : List (Addr × Obj)) (s : Shared) (σ : St) (H : Hp) (E : Value → Shared → Prop), Inv X pins σ H s → (∀ b ∈ fp, FpOk X pins H b) → tn i s.heap → J.stop i H →
    wpAny (model P w) X.A (pyNext (.ref it)) (fun r s1 => r = none ∧ Inv X pins σ H s1) E s
  self : ∀ (A : Around) (i : Nat) (s : Shared) (Q : Value → Shared → Prop) (E : Value → Shared → Prop), tn i s.heap → Q (.ref it) s → wpAny (model P w) A (pyIter (.ref it)) Q E s
abbrev TI := St → Hp → (It → Hp → Prop) → Prop
/-- an iterator has come -/
def PIE (X : Cx) (pins : List (Addr × Obj)) (σ : St) (tg : Expr) (R : It → Hp → Prop) (itv : Value) (s2 : Shared) : Prop :=
  ∃ (it : Addr) (fp : List Addr) (tn : Nat → Heap → Prop) (J : It) (H' : Hp), itv = .ref it ∧ Inv X pins σ H' s2 ∧ Turn X.prog X.w X.K tg J fp it tn ∧ tn 0 s2.heap ∧ (∀ b ∈ fp, FpOk X pins H' b) ∧ R J H'
def PI (X : Cx) (tg iter : Expr) (wi : TI) : Prop :=
  ∀ (pins : List (Addr × Obj)) (s : Shared) (σ : St) (H : Hp) (R : It → Hp → Prop), Inv X pins σ H s → wi σ H R →
    wpAny (model X.prog X.w) X.A (eval iter X.env) (fun v s1 => wpAny (model X.prog X.w) X.A (pyIter v) (PIE X pins σ tg R) X.xe s1) X.xe s

/-- the step ahead of the store is nothing for an iterator that keeps no tuple -/
theorem go_of {M : Model} {A : Around} {E : Value → Shared → Prop} {s : Shared} {tg : Expr} {it : Addr} {u : Value} {o : Obj} {n : String} {vs : Array Value} {Q : Unit → Shared → Prop} (ho : s.heap.get? it = some o) (hc : o.cls = .type n) (hd : o.data = .fields vs)
    (hn : ["enumerate", "zip", "dict_itemiterator", "dict_reverseitemiterator", "odict_iterator", "itertools.zip_longest", "itertools.pairwise"].contains n = false) (hQ : Q () s) : wpAny M A (letOwnedTupleGo tg (.ref it) u) Q E s := by
  unfold letOwnedTupleGo
  cases tg <;> first
    | exact wpAny_pure hQ
    | (cases u <;> first
        | exact wpAny_pure hQ
        | (refine wpAny_bind (wpAny_load ho ?_)
           rw [hc, hd]
           show wpAny M A (if (["enumerate", "zip", "dict_itemiterator", "dict_reverseitemiterator", "odict_iterator", "itertools.zip_longest", "itertools.pairwise"].contains n && vs[0]? == some (rawInt _)) = true then _ else _) Q E s
           rw [if_neg (by intro h; rw [hn, Bool.false_and] at h; cases h)]
           exact wpAny_pure hQ))

/-- the list at a, as it stands at each turn (a loop may append to it) -/
def Itl (K : PySem.W.Frag) (a : Addr) : It :=
  ⟨fun i H => ∃ xs x, SqL K H a xs ∧ xs[i]? = some x, fun i H x H' => H' = H ∧ ∀ xs, SqL K H a xs → xs[i]? = some x, fun i H => ∃ xs, SqL K H a xs ∧ xs.length ≤ i⟩
def Itt (K : PySem.W.Frag) (a : Addr) : It :=
  ⟨fun i H => ∃ xs x, SqT K H a xs ∧ xs[i]? = some x, fun i H x H' => H' = H ∧ ∀ xs, SqT K H a xs → xs[i]? = some x, fun i H => ∃ xs, SqT K H a xs ∧ xs.length ≤ i⟩
/-- lo, lo + 1, .. (n of them) -/
def Itr (lo : Int) (n : Nat) : It := ⟨fun i _ => i < n, fun i H x H' => H' = H ∧ x = .int (lo + i), fun i _ => n ≤ i⟩
theorem turn_list {P : Program} {w : World} {K : PySem.W.Frag} {tg : Expr} (a it : Addr) : Turn P w K tg (Itl K a) [it] it (fun i h => h.IsListIter it a i) where
  mem := by simp
  obj := fun i h st b hb => by
    have e : b = it := by simpa using hb
    subst e
    obtain ⟨o, e, c, d⟩ := st
    exact ⟨o, e, fun v z => by rw [d] at z; cases z⟩
  keep := fun i h h' st k => st.at fun o e => k it (by simp) o e
  item := by
    intro X hP hw hK hc i pins s σ H E I hf st hg
    subst hP hw hK
    obtain ⟨xs, x, hq, hx⟩ := hg
    obtain ⟨its, rv, p, hz⟩ := I.list hq
    obtain ⟨u, hu, ru⟩ := rv.get hx
    obtain ⟨f0, f1, f2, f3, f4, f5⟩ := hf it (by simp)
    refine wpAny_pyNext_list_item st p.isList (x := u) (by simpa using hu) fun h' st' sb => ?_
    have I1 : Inv X pins σ H { s with heap := h' } := I.turned (t' := s.toks) (fun b o hb e => (sb.2 b hb).trans e) f0 f1 f3 f4 f5
    obtain ⟨o, e, c, d⟩ := id st'
    exact ⟨u, rfl, go_of (s := { s with heap := h' }) e c d (by decide) ⟨x, H, I1, ru, ⟨rfl, fun ys hy => by rw [I.list_inj hy hq]; exact hx⟩, st', fun b hb => (hf b hb).1⟩⟩
  done := by
    intro X hP hw hK hc i pins s σ H E I hf st hg
    subst hP hw hK
    obtain ⟨xs, hq, hx⟩ := hg
    obtain ⟨its, rv, p, hz⟩ := I.list hq
    obtain ⟨f0, f1, f2, f3, f4, f5⟩ := hf it (by simp)
    have hl := rv.length
    exact wpAny_pyNext_list_end (I.ok.hd hc) st p.isList (by simp; omega) fun h' eb => ⟨rfl, I.turned (t' := s.toks) (fun b o hb e => eb b o hb e) f0 f1 f3 f4 f5⟩
  self := fun _ _ _ _ _ st h => wpAny_pyIter_listiter st h
theorem turn_tuple {P : Program} {w : World} {K : PySem.W.Frag} {tg : Expr} (a it : Addr) : Turn P w K tg (Itt K a) [it] it (fun i h => h.IsTupleIter it a i) where
  mem := by simp
  obj := fun i h st b hb => by
    have e : b = it := by simpa using hb
    subst e
    obtain ⟨o, e, c, d⟩ := st
    exact ⟨o, e, fun v z => by rw [d] at z; cases z⟩
  keep := fun i h h' st k => st.at fun o e => k it (by simp) o e
  item := by
    intro X hP hw hK hc i pins s σ H E I hf st hg
    subst hP hw hK
    obtain ⟨xs, x, hq, hx⟩ := hg
    obtain ⟨its, rv, p, hz⟩ := I.tuple hq
    obtain ⟨u, hu, ru⟩ := rv.get hx
    obtain ⟨f0, f1, f2, f3, f4, f5⟩ := hf it (by simp)
    refine wpAny_pyNext_tuple_item st (show s.heap.IsTuple a its.toArray from p) (x := u) (by simpa using hu) fun h' st' sb => ?_
    have I1 : Inv X pins σ H { s with heap := h' } := I.turned (t' := s.toks) (fun b o hb e => (sb.2 b hb).trans e) f0 f1 f3 f4 f5
    obtain ⟨o, e, c, d⟩ := id st'
    exact ⟨u, rfl, go_of (s := { s with heap := h' }) e c d (by decide) ⟨x, H, I1, ru, ⟨rfl, fun ys hy => by rw [I.tuple_inj hy hq]; exact hx⟩, st', fun b hb => (hf b hb).1⟩⟩
  done := by
    intro X hP hw hK hc i pins s σ H E I hf st hg
    subst hP hw hK
    obtain ⟨xs, hq, hx⟩ := hg
    obtain ⟨its, rv, p, hz⟩ := I.tuple hq
    obtain ⟨f0, f1, f2, f3, f4, f5⟩ := hf it (by simp)
    have hl := rv.length
    exact wpAny_pyNext_tuple_end (I.ok.hd hc) st (show s.heap.IsTuple a its.toArray from p) (by simp; omega) fun h' eb => ⟨rfl, I.turned (t' := s.toks) (fun b o hb e => eb b o hb e) f0 f1 f3 f4 f5⟩
  self := fun _ _ _ _ _ st h => wpAny_pyIter_tupleiter st h
theorem turn_range {P : Program} {w : World} {K : PySem.W.Frag} {tg : Expr} (it : Addr) (lo : Int) (n : Nat) : Turn P w K tg (Itr lo n) [it] it (fun i h => IsRangeIter h it (lo + (i : Nat) * 1) ((n : Int) - (i : Nat)) 1) where
  mem := by simp
  obj := fun i h st b hb => by
    have e : b = it := by simpa using hb
    subst e
    exact ⟨_, st, fun v z => by
      have z' : Data.fields _ = Data.cell v := z
      cases z'⟩
  keep := fun i h h' st k => k it (by simp) _ st
  item := by
    intro X hP hw hK hc i pins s σ H E I hf st hg
    subst hP hw hK
    obtain ⟨f0, f1, f2, f3, f4, f5⟩ := hf it (by simp)
    have W := Walks.range (prog := X.prog) (w := X.w) (I.ok.hd hc) it lo 1 n
    refine W.item i s _ _ hg st fun v h' tk hv st' kk => ?_
    obtain ⟨t, rfl⟩ := hv
    have I1 : Inv X pins σ H { s with heap := h', toks := tk } := I.turned (fun b o hb e => kk b o (by simpa using hb) e) f0 f1 f3 f4 f5
    refine ⟨_, rfl, go_of (s := { s with heap := h', toks := tk }) (n := "range_iterator") st' rfl rfl (by decide) ⟨.int (lo + i), H, I1, ⟨t, ?_⟩, ⟨rfl, rfl⟩, st', fun b hb => (hf b hb).1⟩⟩
    rw [Int.mul_one]
  done := by
    intro X hP hw hK hc i pins s σ H E I hf st hg
    subst hP hw hK
    obtain ⟨f0, f1, f2, f3, f4, f5⟩ := hf it (by simp)
    exact wpAny_pyNext_range_end (I.ok.hd hc) st (by have : n ≤ i := hg; omega) fun h' eb => ⟨rfl, I.turned (t' := s.toks) (fun b o hb e => eb b o hb e) f0 f1 f3 f4 f5⟩
  self := fun _ _ _ _ _ st h => wpAny_pyIter_rangeiter st h
end L2

namespace L2
open PySem PySem.Spec PyProof.Rows
section
variable {X : Cx} {tg : Expr}
def iList (K : PySem.W.Frag) (tl : TE) : TI := fun σ H R => tl σ H fun x H1 => ∃ a, x = .ref a ∧ (∃ xs, SqL K H1 a xs) ∧ R (Itl K a) H1
def iTup (K : PySem.W.Frag) (tl : TE) : TI := fun σ H R => tl σ H fun x H1 => ∃ a, x = .ref a ∧ (∃ xs, SqT K H1 a xs) ∧ R (Itt K a) H1
/-- a range object just made, walked -/
theorem range_it {pins : List (Addr × Obj)} {σ : St} {H : Hp} {s : Shared} {R : It → Hp → Prop} {E : Value → Shared → Prop} {lo hi : Int} {t u v : Tok} {tk : Nat} (I : Inv X pins σ H s) (h1 : -(2 ^ 62) ≤ lo) (h2 : lo < 2 ^ 62) (h3 : -(2 ^ 62) ≤ hi) (h4 : hi < 2 ^ 62)
    (q : R (Itr lo (hi - lo).toNat) H) : wpAny (model X.prog X.w) X.A (pyIter (.ref s.heap.objs.size)) (PIE X pins σ tg R) E { s with heap := s.heap.push { cls := .type "range", data := .fields #[.int lo t, .int hi u, .int 1 v] }, toks := tk } := by
  refine wpAny_pyIter_range (IsRange.new ..) (small_one h1 h2 h3 h4) ?_
  have I1 : Inv X pins σ H { s with heap := s.heap.push { cls := .type "range", data := .fields #[.int lo t, .int hi u, .int 1 v] }, toks := tk } := I.kept fun b o e => Heap.get?_push_of_some _ e
  refine ⟨(s.heap.push { cls := .type "range", data := .fields #[.int lo t, .int hi u, .int 1 v] }).objs.size, [(s.heap.push { cls := .type "range", data := .fields #[.int lo t, .int hi u, .int 1 v] }).objs.size], _, _, H, rfl,
    I1.kept (t' := tk) fun b o e => Heap.get?_push_of_some _ e, turn_range _ lo (hi - lo).toNat, ?_, fun b hb => ?_, q⟩
  · have e1 : lo + ((0 : Nat) : Int) * 1 = lo := by simp
    have e2 : (((hi - lo).toNat : Nat) : Int) - ((0 : Nat) : Int) = Builtin.Range.rangeSize lo hi 1 := by rw [rangeSize_one]; split <;> omega
    show IsRangeIter _ _ (lo + ((0 : Nat) : Int) * 1) ((((hi - lo).toNat : Nat) : Int) - ((0 : Nat) : Int)) 1
    rw [e1, e2]
    exact Heap.get?_push_size _ rfl
  · have e : b = (s.heap.push { cls := .type "range", data := .fields #[.int lo t, .int hi u, .int 1 v] }).objs.size := by simpa using hb
    subst e
    exact I1.fpOk (Nat.le_refl _) (I1.hok.fresh (Nat.le_refl _))
def iRng1 (ta : TA) : TI := fun σ H R => ta σ H fun vs H1 => ∃ j : Int, vs = [.int j] ∧ -(2 ^ 62) ≤ j ∧ j < 2 ^ 62 ∧ R (Itr 0 j.toNat) H1
def iRng2 (ta : TA) : TI := fun σ H R => ta σ H fun vs H1 => ∃ i j : Int, vs = [.int i, .int j] ∧ (-(2 ^ 62) ≤ i ∧ i < 2 ^ 62 ∧ -(2 ^ 62) ≤ j ∧ j < 2 ^ 62) ∧ R (Itr i (j - i).toNat) H1
theorem pi_range1 {a : Expr} {ta : TA} {p pos : Pos} (hg : Gl X "range") (hm : X.mg "range" = none) (ha : PA X [a] ta) (hs : starEach [a] X.env = [(false, eval a X.env)] := by rfl) : PI X tg (.Call (.Name "range" p) [a] [] pos) (iRng1 ta) := by
  intro pins s σ H R I h
  refine Call_ (ld_blt I hg hm boot_range (PyProof.Rows.callWith_type1 (thn (ha pos pins s σ H _ I h) fun us s1 ⟨vs, H1, I1, r1, q1⟩ => ?_) hs rfl))
  obtain ⟨j, e, q1, q2, q⟩ := q1
  subst e
  cases r1 with
  | cons r rr =>
    cases rr
    obtain ⟨t, rfl⟩ := r
    exact call_range_1 (range_it I1 (by omega) (by omega) q1 q2 (by simpa using q))
theorem pi_range2 {a b : Expr} {ta : TA} {p pos : Pos} (hg : Gl X "range") (hm : X.mg "range" = none) (ha : PA X [a, b] ta) (hs : starEach [a, b] X.env = [(false, eval a X.env), (false, eval b X.env)] := by rfl) (hs2 : starEach [b] X.env = [(false, eval b X.env)] := by rfl) :
    PI X tg (.Call (.Name "range" p) [a, b] [] pos) (iRng2 ta) := by
  intro pins s σ H R I h
  refine Call_ (ld_blt I hg hm boot_range (PyProof.Rows.callWith_type1 (thn (ha pos pins s σ H _ I h) fun us s1 ⟨vs, H1, I1, r1, q1⟩ => ?_) (by rw [hs, hs2]) (by rw [hs2]; rfl)))
  obtain ⟨i, j, e, ⟨q1, q2, q3, q4⟩, q⟩ := q1
  subst e
  cases r1 with
  | cons r rr =>
    cases rr with
    | cons r' rr =>
      cases rr
      obtain ⟨t, rfl⟩ := r
      obtain ⟨t', rfl⟩ := r'
      exact call_range_2 (range_it I1 q1 q2 q3 q4 q)

/-! ### for -/
/-- W: the invariant by the turn and a measure; N: what the body is to reach -/
def tFor (wi : TI) (g : TG) (tb : TS) : TS := fun D σ H => wi σ H fun J H1 => ∃ W : Nat → Nat → St → Hp → Prop, (∃ m, W 0 m σ H1) ∧ ∀ i m σ H, W i m σ H →
  (J.stop i H ∧ D.nx σ H) ∨ (J.go i H ∧ ∃ N : St → Hp → Prop, (∀ σ' H', N σ' H' → ∃ m', m' < m ∧ W (i + 1) m' σ' H') ∧ ∀ x H', J.yld i H x H' → g x σ H' fun σ2 H2 => tb { D with nx := N, ct := N, bk := D.nx } σ2 H2)
/-- the records at fp as they stand -/
def pinsAt (fp : List Addr) (h : Heap) : List (Addr × Obj) := fp.filterMap fun b => (h.get? b).map fun o => (b, o)
theorem mem_pinsAt {fp : List Addr} {h : Heap} {b : Addr} {o : Obj} (hb : b ∈ fp) (e : h.get? b = some o) : (b, o) ∈ pinsAt fp h := List.mem_filterMap.mpr ⟨b, hb, by rw [e]; rfl⟩
theorem of_pinsAt {fp : List Addr} {h : Heap} {p : Addr × Obj} (hp : p ∈ pinsAt fp h) : p.1 ∈ fp ∧ h.get? p.1 = some p.2 := by
  obtain ⟨b, hb, e⟩ := List.mem_filterMap.mp hp
  cases q : h.get? b with
  | none => rw [q] at e; cases e
  | some o =>
    rw [q] at e
    have e' : (b, o) = p := Option.some.inj e
    subst e'
    exact ⟨hb, q⟩
theorem Inv.pinned {pins : List (Addr × Obj)} {σ : St} {H : Hp} {s : Shared} {fp : List Addr} (I : Inv X pins σ H s) (hf : ∀ b ∈ fp, FpOk X pins H b) (ho : ∀ b ∈ fp, ∃ o, s.heap.get? b = some o ∧ ∀ v, o.data ≠ .cell v) : Inv X (pins ++ pinsAt fp s.heap) σ H s :=
  I.pins_of fun p hp => (List.mem_append.mp hp).elim (fun z => I.pin p (List.mem_append_right _ z)) fun z => by
    obtain ⟨hb, e⟩ := of_pinsAt z
    obtain ⟨f0, f1, f2, _⟩ := hf p.1 hb
    obtain ⟨o, e', d⟩ := ho p.1 hb
    rw [e] at e'; cases e'
    exact ⟨e, f0, f1, f2, d⟩
theorem Inv.unpinned {pins pl : List (Addr × Obj)} {σ : St} {H : Hp} {s : Shared} (I : Inv X (pins ++ pl) σ H s) : Inv X pins σ H s := I.pins_of fun p hp => I.pin p (List.mem_append_right _ (List.mem_append_left _ hp))
theorem ps_for {iter : Expr} {body : List Stmt} {wi : TI} {g : TG} {tb : TS} {pos : Pos} (hp : PassesOwn (model X.prog X.w) X.A X.env X.xe) (hc : X.calm = true) (hi : PI X tg iter wi) (hg : PG X tg g) (hb : PSs X body tb)
    (hs : ∀ x, foldedSetIterable iter X.env x = pure x := by intro _; rfl) : PS X (.For tg iter body [] pos) (tFor wi g tb) := by
  intro pins s σ H D I h
  refine wpAny_For (thn (hi pins s σ H _ I h) fun v s1 h1 => thn h1 fun itv s2 h2 => ?_) hs
  obtain ⟨it, fp, tn, J, H2, e, I2, T, st2, f2, W, ⟨m0, w0⟩, turn⟩ := h2
  subst e
  -- what stays true of the iterator's objects through the loop
  have stat : ∀ {H' : Hp}, (∀ b ∈ fp, H' b = none) → ∀ b ∈ fp, FpOk X pins H' b := fun hn b hb => ⟨hn b hb, (f2 b hb).2⟩
  refine codeAny_forLoop_any (fun n s' => ∃ i σ' H', Inv X pins σ' H' s' ∧ tn i s'.heap ∧ (∀ b ∈ fp, H' b = none) ∧ W i n σ' H') ?_ m0 ⟨0, σ, H2, I2, st2, fun b hb => (f2 b hb).1, w0⟩
  rintro n s3 ⟨i, σ3, H3, I3, st3, fr3, w3⟩
  rcases turn i n σ3 H3 w3 with ⟨stop, qn⟩ | ⟨go, N, hN, step⟩
  · refine wpAny_passesOwn hp (thn (T.done X rfl rfl rfl hc i pins s3 σ3 H3 X.xe I3 (stat fr3) st3 stop) fun r s4 ⟨hr, I4⟩ => ?_)
    subst hr
    exact wpAny_execs_nil ⟨σ3, H3, I4, qn⟩
  · refine wpAny_passesOwn hp (thn (T.item X rfl rfl rfl hc i pins s3 σ3 H3 X.xe I3 (stat fr3) st3 go) fun r s4 ⟨u, hr, h4⟩ => ?_)
    subst hr
    refine wpAny_passesOwn hp (thn h4 fun _ s5 ⟨x, H5, I5, r5, y5, st5, fr5⟩ => ?_)
    have I5' := I5.pinned (stat fr5) (T.obj _ _ st5)
    refine wpAny_passesOwn hp (thn (hg _ s5 σ3 H5 x u _ I5' r5 (step x H5 y5)) fun _ s6 ⟨σ6, H6, I6, q6⟩ => ?_)
    refine wpAny_passesOwn hp (thn (hb _ s6 σ6 H6 _ I6 q6) fun f s7 q7 => ?_)
    have again : ∀ {σ7 : St} {H7 : Hp}, Inv X (pins ++ pinsAt fp s5.heap) σ7 H7 s7 → N σ7 H7 → ∃ m, m < n ∧ ∃ i σ' H', Inv X pins σ' H' s7 ∧ tn i s7.heap ∧ (∀ b ∈ fp, H' b = none) ∧ W i m σ' H' := fun {σ7 H7} I7 n7 => by
      obtain ⟨m', hm, w7⟩ := hN σ7 H7 n7
      refine ⟨m', hm, i + 1, σ7, H7, I7.unpinned, T.keep _ _ _ st5 fun b hb o e => (I7.pin (b, o) (List.mem_append_right _ (List.mem_append_right _ (mem_pinsAt hb e)))).1, fun b hb => ?_, w7⟩
      obtain ⟨o, e, d⟩ := T.obj _ _ st5 b hb
      exact (I7.pin (b, o) (List.mem_append_right _ (List.mem_append_right _ (mem_pinsAt hb e)))).2.1
    cases f with
    | next => obtain ⟨σ7, H7, I7, n7⟩ := q7; exact again I7 n7
    | cont => obtain ⟨σ7, H7, I7, n7⟩ := q7; exact again I7 n7
    | brk => obtain ⟨σ7, H7, I7, q7⟩ := q7; exact ⟨σ7, H7, I7.unpinned, q7⟩
    | ret v => obtain ⟨x7, σ7, H7, I7, r7, q7⟩ := q7; exact ⟨x7, σ7, H7, I7.unpinned, r7, q7⟩
end

/-! ### the forms one uses -/
end L2

namespace L2
open PySem PySem.Spec PyProof.Rows

abbrev R2 := V → V → Hp → VK → Prop
/-- a two-place operation on values: f is binaryOp op, inplaceOp op or compareOp op -/
def OpR (X : Cx) (f : Value → Value → Sem Value) (r : R2) : Prop :=
  ∀ (pins : List (Addr × Obj)) (s : Shared) (σ : St) (H : Hp) (x y : V) (v u : Value) (Q : VK), Inv X pins σ H s → RelV x v → RelV y u → r x y H Q →
    wpAny (model X.prog X.w) X.A (f v u) (EP X pins σ Q) X.xe s
/-- a one-place operation -/
def UnR (X : Cx) (f : Value → Sem Value) (r : V → Hp → VK → Prop) : Prop :=
  ∀ (pins : List (Addr × Obj)) (s : Shared) (σ : St) (H : Hp) (x : V) (v : Value) (Q : VK), Inv X pins σ H s → RelV x v → r x H Q →
    wpAny (model X.prog X.w) X.A (f v) (EP X pins σ Q) X.xe s
/-- a call of a value that is known (a builtin, a type) with values -/
def CallR (X : Cx) (f : Value) (r : List V → Hp → VK → Prop) : Prop :=
  ∀ (pins : List (Addr × Obj)) (s : Shared) (σ : St) (H : Hp) (xs : List V) (us : List Value) (Q : VK), Inv X pins σ H s → Vals xs us → r xs H Q →
    wpAny (model X.prog X.w) X.A (call f us) (EP X pins σ Q) X.xe s
/-- a value's truth -/
def TruR (X : Cx) (r : V → Hp → (Bool → Hp → Prop) → Prop) : Prop :=
  ∀ (pins : List (Addr × Obj)) (s : Shared) (σ : St) (H : Hp) (x : V) (v : Value) (Q : Bool → Hp → Prop), Inv X pins σ H s → RelV x v → r x H Q →
    wpAny (model X.prog X.w) X.A (truthy v) (TP X pins σ Q) X.xe s

def tOp (r : R2) (ta tb : TE) : TE := fun σ H Q => ta σ H fun x H1 => tb σ H1 fun y H2 => r x y H2 Q
def tUn (r : V → Hp → VK → Prop) (ta : TE) : TE := fun σ H Q => ta σ H fun x H1 => r x H1 Q
/-- ints in, under C, and a value out -/
def rI (C : Int → Int → Prop) (g : Int → Int → V) : R2 := fun x y H Q => ∃ i j, x = .int i ∧ y = .int j ∧ C i j ∧ Q (g i j) H
def rI0 (g : Int → Int → V) : R2 := fun x y H Q => ∃ i j, x = .int i ∧ y = .int j ∧ Q (g i j) H
def rU (g : Int → V) : V → Hp → VK → Prop := fun x H Q => ∃ i, x = .int i ∧ Q (g i) H

section
variable {X : Cx} {a b c : Expr} {ta tb tc : TE} {pos : Pos}

theorem binT (ha : PE X a ta) (hb : PE X b tb) {pins : List (Addr × Obj)} {s : Shared} {σ : St} {H : Hp} {R : V → V → Hp → Prop} (I : Inv X pins σ H s)
    (h : ta σ H fun x H1 => tb σ H1 fun y H2 => R x y H2) {Q : Value → Shared → Prop} {f : Value → Value → Sem Value}
    (hf : ∀ v u s2 x y H2, Inv X pins σ H2 s2 → RelV x v → RelV y u → R x y H2 → wpAny (model X.prog X.w) X.A (f v u) Q X.xe s2) :
    wpAny (model X.prog X.w) X.A (eval a X.env) (fun v s₁ => wpAny (model X.prog X.w) X.A (eval b X.env) (fun u s₂ => wpAny (model X.prog X.w) X.A (f v u) Q X.xe s₂) X.xe s₁) X.xe s := by
  refine thn (ha pins s σ H _ I h) fun v s1 ⟨x, H1, I1, r1, q1⟩ => ?_
  refine thn (hb pins s1 σ H1 _ I1 q1) fun u s2 ⟨y, H2, I2, r2, q2⟩ => ?_
  exact hf v u s2 x y H2 I2 r1 r2 q2

theorem pe_op {op : Operator} {r : R2} (ho : OpR X (binaryOp op) r) (ha : PE X a ta) (hb : PE X b tb) : PE X (.BinOp a op b pos) (tOp r ta tb) := by
  intro pins s σ H Q I h
  exact wpAny_BinOp (binT ha hb I h fun v u s2 x y H2 I2 rx ry q => ho pins s2 σ H2 x y v u Q I2 rx ry q)

/-! ### ints -/
theorem opI {f : Value → Value → Sem Value} {C : Int → Int → Prop} {g : Int → Int → Int}
    (rule : ∀ (i j : Int) (t u : Tok) (s : Shared) (Q : Value → Shared → Prop) (E : Value → Shared → Prop), C i j → Q (.int (g i j) s.toks) { s with toks := s.toks + 1 } → wpAny (model X.prog X.w) X.A (f (.int i t) (.int j u)) Q E s) :
    OpR X f (rI C fun i j => .int (g i j)) := by
  intro pins s σ H x y v u Q I rx ry h
  obtain ⟨i, j, rfl, rfl, hc, q⟩ := h
  obtain ⟨t, rfl⟩ := rx
  obtain ⟨t', rfl⟩ := ry
  exact rule i j t t' s _ _ hc ⟨.int (g i j), H, I.tok _, ⟨_, rfl⟩, q⟩
theorem opI0 {f : Value → Value → Sem Value} {g : Int → Int → Int}
    (rule : ∀ (i j : Int) (t u : Tok) (s : Shared) (Q : Value → Shared → Prop) (E : Value → Shared → Prop), Q (.int (g i j) s.toks) { s with toks := s.toks + 1 } → wpAny (model X.prog X.w) X.A (f (.int i t) (.int j u)) Q E s) :
    OpR X f (rI0 fun i j => .int (g i j)) := by
  intro pins s σ H x y v u Q I rx ry h
  obtain ⟨i, j, rfl, rfl, q⟩ := h
  obtain ⟨t, rfl⟩ := rx
  obtain ⟨t', rfl⟩ := ry
  exact rule i j t t' s _ _ ⟨.int (g i j), H, I.tok _, ⟨_, rfl⟩, q⟩
theorem opB0 {f : Value → Value → Sem Value} {g : Int → Int → Bool}
    (rule : ∀ (i j : Int) (t u : Tok) (s : Shared) (Q : Value → Shared → Prop) (E : Value → Shared → Prop), Q (.bool (g i j)) s → wpAny (model X.prog X.w) X.A (f (.int i t) (.int j u)) Q E s) :
    OpR X f (rI0 fun i j => .bl (g i j)) := by
  intro pins s σ H x y v u Q I rx ry h
  obtain ⟨i, j, rfl, rfl, q⟩ := h
  obtain ⟨t, rfl⟩ := rx
  obtain ⟨t', rfl⟩ := ry
  exact rule i j t t' s _ _ ⟨.bl (g i j), H, I, rfl, q⟩

def CDiv (i j : Int) : Prop := 0 < j ∧ j < 1073741824
def CDivN (i j : Int) : Prop := j ≠ 0 ∧ j.natAbs < 1073741824
def CPow (i j : Int) : Prop := 0 ≤ j ∧ j ≤ 1000000 ∧ i.natAbs < 2 ^ 64
def CMul (i j : Int) : Prop := (-(2 ^ 64) < i ∧ i < 2 ^ 64) ∨ (-(2 ^ 64) < j ∧ j < 2 ^ 64)
theorem CMul.ok {i j : Int} (h : CMul i j) : IntMulOk i j := by
  rcases h with ⟨h1, h2⟩ | ⟨h1, h2⟩
  · exact .of_left (intBits_le_64 h1 h2)
  · exact .of_right (intBits_le_64 h1 h2)

theorem op_add : OpR X (binaryOp .Add) (rI0 fun i j => .int (i + j)) := opI0 fun _ _ _ _ _ _ _ q => add_int q
/-- % by a positive divisor of any size -/
theorem op_mod : OpR X (binaryOp .Mod) (rI (fun _ j => 0 < j) fun i j => .int (i % j)) := opI fun i j _ _ _ _ _ hc q => by
  have h1 : (0 : Int) < j := hc
  exact mod_int' (by omega) (by rw [Int.fmod_eq_emod_of_nonneg i (by omega)]; exact q)



/-! ### bools among ints: n += (a < b) -/
end

/-! ### comparisons -/
/-- the scalars that == tells apart as data does -/
def scal : V → V → Bool
  | .non, .non => true | .non, .int _ => true | .int _, .non => true | .non, .bl _ => true | .bl _, .non => true | .non, .str _ => true | .str _, .non => true
  | .int _, .int _ => true | .bl _, .bl _ => true | .str _, .str _ => true | .byt _, .byt _ => true
  | .int _, .str _ => true | .str _, .int _ => true | .bl _, .str _ => true | .str _, .bl _ => true
  | _, _ => false
def rEq : R2 := fun x y H Q => scal x y = true ∧ Q (.bl (decide (x = y))) H
def rNe : R2 := fun x y H Q => scal x y = true ∧ Q (.bl (!decide (x = y))) H


section
variable {X : Cx} {a b c : Expr} {ta tb tc : TE} {pos : Pos}

theorem op_lt : OpR X (compareOp .Lt) (rI0 fun i j => .bl (decide (i < j))) := opB0 fun _ _ _ _ _ _ _ q => lt_int q
theorem op_gt : OpR X (compareOp .Gt) (rI0 fun i j => .bl (decide (j < i))) := opB0 fun _ _ _ _ _ _ _ q => gt_int q


/-- is, is not of two objects that are tracked lists or instances -/
def isObj : HO → Bool
  | .lst _ => true
  | .ins _ _ _ => true
  | _ => false

/-- two rules for one operation: by cases -/
theorem OpR.or {f : Value → Value → Sem Value} {r r' : R2} (h : OpR X f r) (h' : OpR X f r') : OpR X f (fun x y H Q => r x y H Q ∨ r' x y H Q) := by
  intro pins s σ H x y v u Q I rx ry q
  rcases q with q | q
  · exact h pins s σ H x y v u Q I rx ry q
  · exact h' pins s σ H x y v u Q I rx ry q

theorem nomark (b : Expr) {op : CmpOp} (h : op ≠ .In := by decide) (h2 : op ≠ .NotIn := by decide) : behindInMarks op b = false := by
  have e1 : (op == CmpOp.In) = false := by cases op <;> first | rfl | exact absurd rfl h
  have e2 : (op == CmpOp.NotIn) = false := by cases op <;> first | rfl | exact absurd rfl h2
  cases b <;> simp [behindInMarks, e1, e2]
/-- a comparison as a value; hm: nomark b, or (for in, not in) by with_unfolding_all rfl -/
theorem pe_cmpR {op : CmpOp} {r : R2} (ho : OpR X (compareOp op) r) (ha : PE X a ta) (hb : PE X b tb) (hm : behindInMarks op b = false) : PE X (.Compare a [op] [b] pos) (tOp r ta tb) := by
  intro pins s σ H Q I h
  exact wpAny_Compare1 (binT ha hb I h fun v u s2 x y H2 I2 rx ry q => ho pins s2 σ H2 x y v u Q I2 rx ry q) hm
/-- a reading of a value as a test -/
def tTest (t : TE) : TT := fun σ H Q => t σ H fun x H' => ∃ k, x = .bl k ∧ Q k H'
theorem pt_cmpR {op : CmpOp} {r : R2} (ho : OpR X (compareOp op) r) (ha : PE X a ta) (hb : PE X b tb) (hm : behindInMarks op b = false) : PT X (.Compare a [op] [b] pos) (tTest (tOp r ta tb)) := by
  intro pins s σ H Q I h
  refine wpAny_isTrue_Compare1 (thn (ha pins s σ H _ I h) fun v s1 ⟨x, H1, I1, r1, q1⟩ => thn (hb pins s1 σ H1 _ I1 q1) fun u s2 ⟨y, H2, I2, r2, q2⟩ =>
    thn (ho pins s2 σ H2 x y v u _ I2 r1 r2 q2) fun c s3 ⟨z, H3, I3, r3, k, e, q3⟩ => ?_) hm
  subst e
  cases r3
  exact wpAny_truthy_bool ⟨H3, I3, q3⟩
/-- a op1 b op2 c -/
def tChain (r r' : R2) (ta tb tc : TE) : TE := fun σ H Q => ta σ H fun x H1 => tb σ H1 fun y H2 => r x y H2 fun z H3 => ∃ k, z = .bl k ∧
  (if k = true then tc σ H3 fun w' H4 => r' y w' H4 Q else Q (.bl false) H3)

/-! ### truth -/
/-- a value's truth by the abstract heap -/
def TruV (K : PySem.W.Frag) (x : V) (H : Hp) (k : Bool) : Prop :=
  match x with
  | .non => k = false
  | .bl b => k = b
  | .int i => k = (i != 0)
  | .str y => y.length ≤ sizeLine ∧ k = ((y.length : Int) != 0)
  | .byt y => y.size ≤ sizeLine ∧ k = ((y.size : Int) != 0)
  | .ref p => (∃ xs, SqL K H p xs ∧ k = !xs.isEmpty) ∨ (∃ xs, SqT K H p xs ∧ k = !xs.isEmpty) ∨ ∃ kvs, H p = some (.dK kvs) ∧ k = !kvs.isEmpty
  | _ => False
theorem isEmpty_kv {κ : Type} {kvs : List (κ × V)} {vs : List (κ × Value)} (r : KV kvs vs) : (!vs.isEmpty) = !kvs.isEmpty := by
  cases r <;> rfl
theorem isEmpty_of {xs : List V} {its : List Value} (r : Vals xs its) : (!its.toArray.isEmpty) = !xs.isEmpty := by
  cases r <;> simp
theorem line63 : (sizeLine : Nat) < 2 ^ 63 := by rw [sizeLine_eq]; decide
theorem tru_ok : TruR X (fun x H Q => ∃ k, TruV X.K x H k ∧ Q k H) := by
  intro pins s σ H x v Q I rx h
  obtain ⟨k, e, q⟩ := h
  have hl := line63
  have hs : sizeLine = 16777216 := sizeLine_eq
  cases x with
  | non =>
    cases rx
    have e' : k = false := e
    subst e'
    exact truthy_none ⟨H, I, q⟩
  | bl b =>
    cases rx
    have e' : k = b := e
    subst e'
    exact wpAny_truthy_bool ⟨H, I, q⟩
  | int i =>
    obtain ⟨t, rfl⟩ := rx
    have e' : k = (i != 0) := e
    subst e'
    exact PySem.P.truthy_int ⟨H, I, q⟩
  | str y =>
    obtain ⟨t, rfl⟩ := rx
    obtain ⟨hy, e'⟩ : y.length ≤ sizeLine ∧ k = ((y.length : Int) != 0) := e
    subst e'
    exact PySem.P.truthy_str (by omega) ⟨H, I.tok _, q⟩
  | byt y =>
    obtain ⟨t, rfl⟩ := rx
    obtain ⟨hy, e'⟩ : y.size ≤ sizeLine ∧ k = ((y.size : Int) != 0) := e
    subst e'
    exact PySem.W.truthy_bytes (by omega) ⟨H, I.tok _, q⟩
  | ref p =>
    cases rx
    have e' : (∃ xs, SqL X.K H p xs ∧ k = !xs.isEmpty) ∨ (∃ xs, SqT X.K H p xs ∧ k = !xs.isEmpty) ∨ ∃ kvs, H p = some (.dK kvs) ∧ k = !kvs.isEmpty := e
    rcases e' with ⟨xs, hx, e'⟩ | ⟨xs, hx, e'⟩ | ⟨kvs, hx, e'⟩
    · subst e'
      obtain ⟨its, r, pl, hz⟩ := I.list hx
      have hlen := r.length
      exact wpAny_truthy_list pl.isList (by simp only [List.size_toArray]; omega) ⟨H, I.tok _, by rw [isEmpty_of r]; exact q⟩
    · subst e'
      obtain ⟨its, r, pl, hz⟩ := I.tuple hx
      have hlen := r.length
      exact truthy_tuple pl (by simp only [List.size_toArray]; omega) ⟨H, I.tok _, by rw [isEmpty_of r]; exact q⟩
    · subst e'
      obtain ⟨hz, hS, vs, r, m⟩ : kvs.length ≤ sizeLine ∧ (p == sysModules) = false ∧ ∃ vs, KV kvs vs ∧ s.heap.DictOf (mixKind X.prog X.w) p vs := I.hok p _ hx
      have hlen : kvs.length = vs.length := Paired.length r
      exact wpAny_truthy_dict hS m (by omega) ⟨H, I.tok _, by rw [isEmpty_kv r]; exact q⟩
  | _ => exact (show False from e).elim
/-- any expression whose test is its value's truth (a name, a call, a subscript, a field ..: he by fun _ => rfl) -/
theorem pt_truth (ha : PE X a ta) (he : ∀ whole, isTrue a X.env whole = (do let v ← whole; standAt a.pos; holding [v] (truthy v))) :
    PT X a (fun σ H Q => ta σ H fun x H' => ∃ k, TruV X.K x H' k ∧ Q k H') := by
  intro pins s σ H Q I h
  exact isTrue_plain (thn (ha pins s σ H _ I h) fun v s1 ⟨x, H1, I1, r1, q1⟩ => tru_ok pins s1 σ H1 x v Q I1 r1 q1) (he _)

/-! ### strs and bytes -/
theorem op_add_str : OpR X (binaryOp .Add) (fun x y H Q => ∃ i j, x = .str i ∧ y = .str j ∧ i.length + j.length ≤ sizeLine ∧ Q (.str (i ++ j)) H) := by
  intro pins s σ H x y v u Q I rx ry h
  obtain ⟨i, j, rfl, rfl, hz, q⟩ := h
  obtain ⟨t, rfl⟩ := rx
  obtain ⟨t', rfl⟩ := ry
  exact add_str (fun t' tk => ⟨.str (i ++ j), H, I.tok _, ⟨_, rfl⟩, q⟩) hz

def PlainIxT (b : Expr) : Prop := ∀ o i, subscripted b false o i = operate [o, i] (getItem o i)

/-! ### scalar builtins, by CallR -/
theorem vals1 {x : V} {us : List Value} (r : Vals [x] us) : ∃ u, us = [u] ∧ RelV x u := by
  cases r with
  | cons r1 r2 => cases r2; exact ⟨_, rfl, r1⟩
theorem vals2 {x y : V} {us : List Value} (r : Vals [x, y] us) : ∃ u w', us = [u, w'] ∧ RelV x u ∧ RelV y w' := by
  cases r with
  | cons r1 r2 =>
    cases r2 with
    | cons r3 r4 => cases r4; exact ⟨_, _, rfl, r1, r3⟩
theorem call_max2 (hc : X.calm = true) : CallR X (.builtin "max") (fun xs H Q => ∃ i j, xs = [.int i, .int j] ∧ Q (.int (if j > i then j else i)) H) := by
  intro pins s σ H xs us Q I r h
  obtain ⟨i, j, rfl, q⟩ := h
  obtain ⟨u, w', rfl, ⟨t, rfl⟩, ⟨t', rfl⟩⟩ := vals2 r
  refine max_two_ints (I.ok.hd hc) fun h' tk k => ⟨_, H, I.kept k, ?_, q⟩
  by_cases hj : j > i
  · rw [if_pos hj, if_pos hj]; exact ⟨_, rfl⟩
  · rw [if_neg hj, if_neg hj]; exact ⟨_, rfl⟩
theorem call_min2 (hc : X.calm = true) : CallR X (.builtin "min") (fun xs H Q => ∃ i j, xs = [.int i, .int j] ∧ Q (.int (if j < i then j else i)) H) := by
  intro pins s σ H xs us Q I r h
  obtain ⟨i, j, rfl, q⟩ := h
  obtain ⟨u, w', rfl, ⟨t, rfl⟩, ⟨t', rfl⟩⟩ := vals2 r
  refine min_two_ints (I.ok.hd hc) fun h' tk k => ⟨_, H, I.kept k, ?_, q⟩
  by_cases hj : j < i
  · rw [if_pos hj, if_pos hj]; exact ⟨_, rfl⟩
  · rw [if_neg hj, if_neg hj]; exact ⟨_, rfl⟩
/-- len of a str, a bytes, a list, a tuple -/
def LenV (K : PySem.W.Frag) (x : V) (H : Hp) (n : Nat) : Prop :=
  match x with
  | .str y => y.length ≤ sizeLine ∧ n = y.length
  | .byt y => y.size ≤ sizeLine ∧ n = y.size
  | .ref p => (∃ xs, SqL K H p xs ∧ n = xs.length) ∨ ∃ xs, SqT K H p xs ∧ n = xs.length
  | _ => False
theorem call_len : CallR X (.builtin "len") (fun xs H Q => ∃ x n, xs = [x] ∧ LenV X.K x H n ∧ Q (.int n) H) := by
  intro pins s σ H xs us Q I r h
  obtain ⟨x, n, rfl, e, q⟩ := h
  obtain ⟨u, rfl, rx⟩ := vals1 r
  have hl := line63
  have hs : sizeLine = 16777216 := sizeLine_eq
  cases x with
  | str y =>
    obtain ⟨t, rfl⟩ := rx
    obtain ⟨hy, e'⟩ : y.length ≤ sizeLine ∧ n = y.length := e
    subst e'
    exact len_str (by omega) ⟨.int _, H, I.tok _, ⟨_, rfl⟩, q⟩
  | byt y =>
    obtain ⟨t, rfl⟩ := rx
    obtain ⟨hy, e'⟩ : y.size ≤ sizeLine ∧ n = y.size := e
    subst e'
    exact PySem.W.len_bytes (by omega) ⟨.int _, H, I.tok _, ⟨_, rfl⟩, q⟩
  | ref p =>
    cases rx
    have e' : (∃ xs, SqL X.K H p xs ∧ n = xs.length) ∨ ∃ xs, SqT X.K H p xs ∧ n = xs.length := e
    rcases e' with ⟨xs, hx, e'⟩ | ⟨xs, hx, e'⟩
    · subst e'
      obtain ⟨its, r', pl, hz⟩ := I.list hx
      have hlen := r'.length
      exact Calls.call_len_list pl.isList (by simp only [List.size_toArray]; omega) ⟨.int xs.length, H, I.tok _, ⟨_, by simp only [List.size_toArray]; rw [hlen]⟩, q⟩
    · subst e'
      obtain ⟨its, r', pl, hz⟩ := I.tuple hx
      have hlen := r'.length
      exact len_tuple pl (by simp only [List.size_toArray]; omega) ⟨.int xs.length, H, I.tok _, ⟨_, by simp only [List.size_toArray]; rw [hlen]⟩, q⟩
  | _ => exact (show False from e).elim
end
end L2

namespace L2
open PySem PySem.Spec PyProof.Rows

/-! ### an instance, its attributes a map -/
structure ObjM (h : Heap) (x dx C : Addr) (mA : Str → Option Value) : Prop where
  obj : h.get? x = some (PySem.W.instObj C dx)
  ns : h.Ns1 dx mA
  ne : dx ≠ x



section
variable {prog : Program} {w : World} {A : Around} {E : Value → Shared → Prop} {s : Shared} {K : PySem.W.Frag} {x dx C f : Addr} {mA : Str → Option Value} {name : Str} {v : Value}





end

/-! ### the attributes as a list of pairs -/
def putF (f : Str) (v : V) : List (Str × V) → List (Str × V)
  | [] => [(f, v)]
  | (g, x) :: r => if g = f then (g, v) :: r else (g, x) :: putF f v r

theorem RelO.some_of {v : V} {o : Option Value} (r : RelO (some v) o) : ∃ u, o = some u ∧ RelV v u := by
  cases o with
  | none => exact (show False from r).elim
  | some u => exact ⟨u, rfl, r⟩
theorem RelO.none_of {o : Option Value} (r : RelO none o) : o = none := by
  cases o with
  | none => rfl
  | some u => exact (show False from r).elim

section
variable {P : Program} {w : World} {H H' : Hp} {h h' : Heap} {a C dx : Addr} {fs fs' : List (Str × V)}
end

/-! ### what of the text a class must have -/
structure Cls (K : PySem.W.Frag) (C : Addr) : Prop where
  pg : PySem.W.plainGet K C Str.empty = true
  hd : PySem.W.hasDictIn K C = true
  po : PySem.W.plainOver K C = true
  sa : PySem.W.findIn K (.ref C) "__setattr__" = some (some (.builtin "object.__setattr__"))
theorem Cls.get {K : PySem.W.Frag} {C : Addr} (c : Cls K C) (f : Str) : PySem.W.plainGet K C f = true := c.pg
/-- no class of it has the name -/
def NoAttr (K : PySem.W.Frag) (C : Addr) (f : Str) : Prop := PySem.W.findIn K (.ref C) f = some none
/-- a constant of the class -/
structure Con (K : PySem.W.Frag) (C : Addr) (f : Str) (v : V) (u : Value) : Prop where
  at_ : PySem.W.findIn K (.ref C) f = some (some u)
  rel : RelV v u
  get : PySem.W.specialIn K u "__get__" = some none
  cp : PySem.W.copiedNames.contains f = false
/-- a method: a plain def of the class or of one above it -/
structure Meth (K : PySem.W.Frag) (C : Addr) (m : Str) (f : Addr) : Prop where
  at_ : PySem.W.findIn K (.ref C) m = some (some (.ref f))
  fn : PySem.W.isFn K (.ref f) = true
  kp : PySem.W.keepIn K (.ref f) = true

section
variable {X : Cx} {pins : List (Addr × Obj)} {σ : St} {H : Hp} {s : Shared} {a C dx : Addr} {fs : List (Str × V)} {f : Str} {v : V} {A : Around} {E : Value → Shared → Prop}





/-- a new instance, tracked, without attributes -/
theorem Inv.made (I : Inv X pins σ H s) : Inv X pins σ (upd (upd H s.heap.objs.size (.own (s.heap.objs.size + 1))) (s.heap.objs.size + 1) (.ins C s.heap.objs.size []))
    { s with heap := (s.heap.push PySem.W.emptyDict).push (PySem.W.instObj C s.heap.objs.size) } := by
  have e1 : (s.heap.push PySem.W.emptyDict).get? s.heap.objs.size = some PySem.W.emptyDict := Heap.get?_push_size s.heap rfl
  have e2 : ((s.heap.push PySem.W.emptyDict).push (PySem.W.instObj C s.heap.objs.size)).get? (s.heap.objs.size + 1) = some (PySem.W.instObj C s.heap.objs.size) := by
    have := Heap.get?_push_size (s.heap.push PySem.W.emptyDict) (o := PySem.W.instObj C s.heap.objs.size) rfl
    rwa [Heap.size_push] at this
  have e3 : (s.heap.push PySem.W.emptyDict).Ns s.heap.objs.size (fun _ => none) := ⟨PySem.W.emptyDict, #[], _, e1, rfl, (fun e he => absurd he (by simp)), fun _ => rfl⟩
  have I1 := I.laid (a := s.heap.objs.size) (o := .own (s.heap.objs.size + 1)) (h' := s.heap.push PySem.W.emptyDict) (t' := s.toks) (fun b u q => Heap.get?_push_of_some _ q) (Nat.le_refl _) ⟨_, e1⟩
  refine I1.laid (a := s.heap.objs.size + 1) (o := .ins C s.heap.objs.size []) (t' := s.toks) (fun b u q => Heap.get?_push_of_some _ q) (Nat.le_of_eq (Heap.size_push _ _)) ?_
  have ne : s.heap.objs.size ≠ s.heap.objs.size + 1 := Nat.ne_of_lt (Nat.lt_succ_self _)
  refine ⟨by rw [upd_ne ne, upd_same], Nat.zero_le _, ne, e2, fun _ => none, (Heap.Ns1.of_empty e3).at fun o q => Heap.get?_push_of_some _ q, fun _ => True.intro, fun y hy => absurd rfl hy⟩

end

/-! ### readings and rules -/
/-- e.f, an attribute of the instance -/
def tFld (K : PySem.W.Frag) (ta : TE) (f : Str) : TE := fun σ H Q => ta σ H fun x H1 => ∃ a C dx fs v, x = .ref a ∧ H1 a = some (.ins C dx fs) ∧ Cls K C ∧ NoAttr K C f ∧ fs.lookup f = some v ∧ Q v H1
/-- e.f, a constant of the class -/
def tCon (K : PySem.W.Frag) (ta : TE) (f : Str) : TE := fun σ H Q => ta σ H fun x H1 => ∃ a C dx fs v u, x = .ref a ∧ H1 a = some (.ins C dx fs) ∧ Cls K C ∧ Con K C f v u ∧ fs.lookup f = none ∧ Q v H1
/-- e.f = value -/
def sFld (K : PySem.W.Frag) (ta tv : TE) (f : Str) : TS := fun D σ H => tv σ H fun y H1 => ta σ H1 fun x H2 => ∃ a C dx fs, x = .ref a ∧ H2 a = some (.ins C dx fs) ∧ Cls K C ∧ NoAttr K C f ∧ fs.length < 1000 ∧
  D.nx σ (upd H2 a (.ins C dx (putF f y fs)))
/-- an augmented operator on two values -/
def InOp (X : Cx) (op : Operator) (rd : V → V → Hp → VK → Prop) : Prop :=
  ∀ (pins : List (Addr × Obj)) (s : Shared) (σ : St) (H : Hp) (x y : V) (u v : Value) (Q : VK), Inv X pins σ H s → RelV x u → RelV y v → rd x y H Q → wpAny (model X.prog X.w) X.A (inplaceOp op u v) (EP X pins σ Q) X.xe s
/-- e.f op= value -/
def sFldAug (K : PySem.W.Frag) (ta tv : TE) (rd : V → V → Hp → VK → Prop) (f : Str) : TS := fun D σ H => ta σ H fun x H1 => ∃ a C dx fs v, x = .ref a ∧ H1 a = some (.ins C dx fs) ∧ Cls K C ∧ NoAttr K C f ∧ fs.lookup f = some v ∧
  tv σ H1 fun y H2 => rd v y H2 fun z H3 => ∃ dx' fs', H3 a = some (.ins C dx' fs') ∧ fs'.length < 1000 ∧ D.nx σ (upd H3 a (.ins C dx' (putF f z fs')))

section
variable {X : Cx} {o e value : Expr} {f : Str} {pos pos' tpos : Pos} {ta tv : TE}
def rAdd : V → V → Hp → VK → Prop := fun x y H Q => ∃ i j, x = .int i ∧ y = .int j ∧ Q (.int (i + j)) H
def rSub : V → V → Hp → VK → Prop := fun x y H Q => ∃ i j, x = .int i ∧ y = .int j ∧ Q (.int (i - j)) H

end

/-! ### isinstance -/
section
variable {X : Cx} {pins : List (Addr × Obj)} {σ : St} {H : Hp} {s : Shared} {A : Around} {E : Value → Shared → Prop} {Q : Value → Shared → Prop} {c : Value} {b : Bool}
/-- the type of a value, as the fragment's deciders take it; for an instance its class -/
inductive TyOf (K : PySem.W.Frag) (H : Hp) : V → Value → Prop where
  | non : TyOf K H .non (.type "NoneType")
  | bl (x : Bool) : TyOf K H (.bl x) (.type "bool")
  | int (i : Int) : TyOf K H (.int i) (.type "int")
  | str (x : Str) : TyOf K H (.str x) (.type "str")
  | flt (x : UInt64) : TyOf K H (.flt x) (.type "float")
  | lst {a : Addr} {xs : List V} (e : H a = some (.lst xs)) : TyOf K H (.ref a) (.type "list")
  | frz {a : Addr} {o : Obj} {xs : List V} (e : H a = some (.frz o (.lst xs))) : TyOf K H (.ref a) (.type "list")
  | tup {a : Addr} {xs : List V} (e : H a = some (.tup xs)) : TyOf K H (.ref a) (.type "tuple")
  | dK {a : Addr} {kvs : List (Key × V)} (e : H a = some (.dK kvs)) : TyOf K H (.ref a) (.type "dict")
  | dT {a : Addr} {kvs : List (List Key × V)} (e : H a = some (.dT kvs)) : TyOf K H (.ref a) (.type "dict")
  | ins {a C dx : Addr} {fs : List (Str × V)} (e : H a = some (.ins C dx fs)) (cl : Cls K C) (ha : PySem.W.findIn K (.ref C) "__class__" = some (some (.builtin "object.__class__")))
      (hn : PySem.W.specialIn K (.builtin "object.__class__") "__get__" = some (some (.builtin "getset_descriptor.__get__"))) (htk : PySem.W.takesIn K (.builtin "object.__class__") = some true)
      (hm : PySem.W.mroIn K C (.type "object") = some true) : TyOf K H (.ref a) (.ref C)
end
end L2

namespace L2
open PySem PySem.Spec PyProof.Rows

/-! ### room -/
structure Room (k : Nat) (A : Around) : Prop where
  hd : A.handled = none
  dp : A.depth + 3 * k + 5 < recursionLimit
  un : A.units + 16 * k + 200 < cLine
theorem Room.mono {j k : Nat} {A : Around} (r : Room k A) (h : j ≤ k) : Room j A := ⟨r.hd, by have := r.dp; omega, by have := r.un; omega⟩
theorem Room.deeper {k : Nat} {A : Around} (r : Room (k + 1) A) (env : Env) : Room k (A.deeper env) :=
  ⟨r.hd, by have := r.dp; show A.depth + 1 + 3 * k + 5 < _; omega, by have := r.un; show A.units + 3 + 16 * k + 200 < _; omega⟩
theorem Room.in1 {k : Nat} {A : Around} (r : Room (k + 1) A) : Room k A.in1 :=
  ⟨r.hd, by have := r.dp; show A.depth + 3 * k + 5 < _; omega, by have := r.un; show A.units + 1 + 16 * k + 200 < _; omega⟩
theorem Room.depth {k : Nat} {A : Around} (r : Room k A) : A.depth < recursionLimit := by have := r.dp; omega
theorem Room.units {k : Nat} {A : Around} (r : Room k A) : A.units + 64 < cLine := by have := r.un; omega

/-! ### argument lists and displays -/
def tNil : TA := fun _ H Q => Q [] H
def tCons (ta : TE) (tr : TA) : TA := fun σ H Q => ta σ H fun x H1 => tr σ H1 fun xs H2 => Q (x :: xs) H2
section
variable {X : Cx} {e : Expr} {es : List Expr} {te : TE} {t : TA} {pos : Pos}
theorem pa_nil : PA X [] tNil := fun _ _ _ _ H Q I h => Calls.spliced_nil ⟨[], H, I, .nil, h⟩
theorem pa_cons (ha : PE X e te) (hr : PA X es t) (hs : starEach (e :: es) X.env = (false, eval e X.env) :: starEach es X.env := by rfl) : PA X (e :: es) (tCons te t) := by
  intro pos pins s σ H Q I h
  rw [hs]
  show wpAny _ _ (spliced ((false, eval e X.env) :: backTo pos (starEach es X.env))) _ _ s
  refine Calls.spliced_cons (thn (ha pins s σ H _ I h) fun u s1 ⟨x, H1, I1, r1, q1⟩ => ?_)
  exact thn (hr pos pins s1 σ H1 _ I1 q1) fun us s2 ⟨xs, H2, I2, r2, q2⟩ => ⟨x :: xs, H2, I2, .cons r1 r2, q2⟩

/-- a tuple, a list of written items -/
def tTup (t : TA) : TE := fun σ H Q => t σ H fun xs H1 => xs.length ≤ sizeLine ∧ ∀ p, H1 p = none → Q (.ref p) (upd H1 p (.tup xs))
def tLst (t : TA) : TE := fun σ H Q => t σ H fun xs H1 => xs.length ≤ sizeLine ∧ ∀ p, H1 p = none → Q (.ref p) (upd H1 p (.lst xs))
theorem pe_tup {x1} (h : PA X es t) : PE X (.Tuple es x1 pos) (tTup t) := by
  intro pins s σ H Q I hq
  refine wpAny_Tuple_spliced (thn (h pos pins s σ H _ I hq) fun us s1 ⟨xs, H1, I1, r, z, q⟩ => ⟨by rw [← r.length]; exact z, ?_⟩)
  have hf : H1 s1.heap.objs.size = none := I1.hok.fresh (Nat.le_refl _)
  refine ⟨.ref s1.heap.objs.size, upd H1 s1.heap.objs.size (.tup xs), I1.laid (t' := s1.toks) (fun b u e => Heap.get?_push_of_some _ e) (Nat.le_refl _) ?_, rfl, q _ hf⟩
  exact ⟨z, us, r, ⟨_, Heap.get?_push_size _ rfl, rfl, _, rfl⟩⟩
theorem pe_lst (h : PA X es t) : PE X (.List es pos) (tLst t) := by
  intro pins s σ H Q I hq
  refine wpAny_List_spliced (thn (h pos pins s σ H _ I hq) fun us s1 ⟨xs, H1, I1, r, z, q⟩ => ⟨by rw [← r.length]; exact z, ?_⟩)
  have hf : H1 s1.heap.objs.size = none := I1.hok.fresh (Nat.le_refl _)
  refine ⟨.ref s1.heap.objs.size, upd H1 s1.heap.objs.size (.lst xs), I1.laid (t' := s1.toks) (fun b u e => Heap.get?_push_of_some _ e) (Nat.le_refl _) ?_, rfl, q _ hf⟩
  exact ⟨z, us, 0, r, Heap.get?_push_size _ rfl⟩
end

/-! ### what a def promises -/
/-- a def's promise: the bound arguments in the parameters' order, the heap, the wanted end, the wanted exception -/
abbrev Sp := List V → Hp → VK → XK → Prop
/-- how an exception lies behind a call (file 08 gives it): the callers' frames, abstract heap and state ahead of the call, the wish, the exception, the state -/
abbrev CXT := List Env → Hp → Shared → XK → Value → Shared → Prop

/-- the state at a call -/
structure Env0 (P : Program) (w : World) (K : PySem.W.Frag) (mg : Str → Option Value) (base : Heap) (A : Around) (outer : List Env) (s : Shared) (H : Hp) : Prop where
  frames : A.frames = some outer
  mod : Mod K mg base
  bs : ∀ b o, base.get? b = some o → s.heap.get? b = some o ∧ H b = none
  bsz : base.objs.size ≤ s.heap.objs.size
  funs : s.heap.FunFrames base outer
  frf : ∀ b ∈ frs outer, H b = none
  hok : HOk P w H s.heap
  bare : AllBare s.gens
/-- a call's end -/
def CE (outer : List Env) (P : Program) (w : World) (H : Hp) (s : Shared) (Q : VK) (u : Value) (s' : Shared) : Prop :=
  ∃ v H', s'.os = s.os ∧ AllBare s'.gens ∧ Un (frs outer) [] H H' s.heap s'.heap ∧ HOk P w H' s'.heap ∧ RelV v u ∧ Q v H'
def CR (CX : CXT) (outer : List Env) (P : Program) (w : World) (H : Hp) (s : Shared) (Q : VK) (E : XK) (r : Result) (s' : Shared) : Prop :=
  match r with
  | .ok (.ret u) => CE outer P w H s Q u s'
  | .ok _ => False
  | .error e => CX outer H s E e s'
structure FnOk (P : Program) (w : World) (K : PySem.W.Frag) (mg : Str → Option Value) (base : Heap) (CX : CXT) (k : Nat) (f : Addr) (fd : FuncData) (ps : List Str) (sp : Sp) : Prop where
  len : ∀ vs H Q E, sp vs H Q E → vs.length = ps.length
  run : ∀ (A : Around) (outer : List Env) (s : Shared) (H : Hp) (args : Args) (us : List Value) (vs : List V) (Q : VK) (E : XK), Room k A → Env0 P w K mg base A outer s H → BindsTo s fd args (ps.zip us) → Vals vs us → sp vs H Q E →
    codeAny (model P w) A (.call (.ref f) args) (CR CX outer P w H s Q E) s
theorem FnOk.mono {P : Program} {w : World} {K : PySem.W.Frag} {mg : Str → Option Value} {base : Heap} {CX : CXT} {j k : Nat} {f : Addr} {fd : FuncData} {ps : List Str} {sp : Sp} (F : FnOk P w K mg base CX j f fd ps sp) (h : j ≤ k) :
    FnOk P w K mg base CX k f fd ps sp := ⟨F.len, fun A outer s H args us vs Q E hr => F.run A outer s H args us vs Q E (hr.mono h)⟩
/-- a weaker promise -/
theorem FnOk.imp {P : Program} {w : World} {K : PySem.W.Frag} {mg : Str → Option Value} {base : Heap} {CX : CXT} {k : Nat} {f : Addr} {fd : FuncData} {ps : List Str} {sp sp' : Sp} (F : FnOk P w K mg base CX k f fd ps sp)
    (h : ∀ vs H Q E, sp' vs H Q E → sp vs H Q E) : FnOk P w K mg base CX k f fd ps sp' :=
  ⟨fun vs H Q E q => F.len vs H Q E (h _ _ _ _ q), fun A outer s H args us vs Q E hr he hb hv hs => F.run A outer s H args us vs Q E hr he hb hv (h _ _ _ _ hs)⟩

theorem Env0.in1 {P : Program} {w : World} {K : PySem.W.Frag} {mg : Str → Option Value} {base : Heap} {A : Around} {outer : List Env} {s : Shared} {H : Hp} (e : Env0 P w K mg base A outer s H) :
    Env0 P w K mg base A.in1 outer s H := ⟨e.frames, e.mod, e.bs, e.bsz, e.funs, e.frf, e.hok, e.bare⟩

section
variable {X : Cx} {pins : List (Addr × Obj)} {σ : St} {H : Hp} {s s' : Shared}
/-- from a body: what a callee wants -/
theorem Inv.env0 (I : Inv X pins σ H s) : Env0 X.prog X.w X.K X.mg X.base X.A X.stack s H :=
  ⟨I.ok.frames, I.ok.mod, I.bs, Nat.le_trans I.ok.bsz I.sz, I.stack, I.stkFree, I.hok, I.bare⟩
/-- behind a call -/
theorem Inv.after {Q : VK} {u : Value} (I : Inv X pins σ H s) (h : CE X.stack X.prog X.w H s Q u s') : EP X pins σ Q u s' := by
  obtain ⟨v, H', os, bare, un, hok, r, q⟩ := h
  obtain ⟨hh, g, d, t, os'⟩ := s'
  obtain rfl : os' = s.os := os
  exact ⟨v, H', I.call (h' := hh) (g' := g) (d' := d) (t' := t) (ch := []) un hok bare (fun b z => absurd z (by simp)), r, q⟩
end

/-! ### calls -/
/-- f(..): the written arguments, then the defaults dvs; E: what is wanted of an exception -/
def tCall (sp : Sp) (dvs : List V) (E : XK) (t : TA) : TE := fun σ H Q => t σ H fun vs H1 => sp (vs ++ dvs) H1 Q E
/-- o.m(..) of an instance of the class at C -/
def tMeth (C : Addr) (m : Str) (sp : Sp) (dvs : List V) (E : XK) (ta : TE) (t : TA) : TE := fun σ H Q => ta σ H fun x H1 => ∃ a dx fs, x = .ref a ∧ H1 a = some (.ins C dx fs) ∧ fs.lookup m = none ∧
  t σ H1 fun vs H2 => sp (x :: (vs ++ dvs)) H2 Q E
/-- C(..): a new instance and its dict, then __init__ -/
def tMake (C : Addr) (sp : Sp) (dvs : List V) (E : XK) (t : TA) : TE := fun σ H Q => t σ H fun vs H1 => ∀ x dx, H1 x = none → H1 dx = none → dx ≠ x →
  sp (.ref x :: (vs ++ dvs)) (upd (upd H1 dx (.own x)) x (.ins C dx [])) (fun v H2 => v = .non ∧ Q (.ref x) H2) E

/-- how the parameters are bound: us the positional arguments, kw the keywords' values by name, ds the defaults that fill up -/
def Binds (K : PySem.W.Frag) (fd : FuncData) (ps : List Str) (ds : List Value) : Prop :=
  ∀ (s : Shared) (us : List Value), K.In s.heap → (us ++ ds).length = ps.length → BindsTo s fd ⟨us, []⟩ (ps.zip (us ++ ds))
/-- every parameter is given -/
theorem Binds.all {K : PySem.W.Frag} {fd : FuncData} {ps : List Str} (h : ∀ us : List Value, us.length = ps.length → bindArgs fd ⟨us, []⟩ = pure (ps.zip us)) : Binds K fd ps [] := fun s us _ hl => by
  rw [List.append_nil] at hl ⊢
  exact .of_eq (h us hl)

/-- an exception of a callee reaches what this body wants of exceptions -/
def Passes (CX : CXT) (X : Cx) (E : XK) : Prop := ∀ (pins : List (Addr × Obj)) (σ : St) (H : Hp) (s : Shared) (e : Value) (s' : Shared), Inv X pins σ H s → CX X.stack H s E e s' → X.xe e s'

section
variable {X : Cx} {CX : CXT} {k : Nat} {f C : Addr} {fd : FuncData} {ps : List Str} {sp : Sp} {dvs : List V} {ds : List Value} {E : XK} {x m : Str} {p pos apos : Pos} {e o : Expr} {es : List Expr} {ta : TE} {t : TA}

/-- the callee runs -/
theorem run_fn {pins : List (Addr × Obj)} {σ : St} {H : Hp} {s : Shared} {Q : VK} {us : List Value} {vs : List V} (F : FnOk X.prog X.w X.K X.mg X.base CX k f fd ps sp) (hr : Room k X.A) (hb : Binds X.K fd ps ds) (hd : Vals dvs ds) (hx : Passes CX X E)
    (I : Inv X pins σ H s) (r : Vals vs us) (h : sp (vs ++ dvs) H Q E) : wpAny (model X.prog X.w) X.A (call (.ref f) us) (EP X pins σ Q) X.xe s := by
  have r2 : Vals (vs ++ dvs) (us ++ ds) := r.append hd
  have hl : (us ++ ds).length = ps.length := by rw [← r2.length]; exact F.len _ _ _ _ h
  refine wpAny_call (codeAny_mono (F.run X.A X.stack s H ⟨us, []⟩ (us ++ ds) (vs ++ dvs) Q E hr I.env0 (hb s us I.kIn hl) r2 h) fun r s' hq => ?_)
  cases r with
  | error e => exact hx pins σ H s e s' I hq
  | ok fl =>
    cases fl with
    | ret u => exact I.after hq
    | next => exact False.elim hq
    | brk => exact False.elim hq
    | cont => exact False.elim hq

theorem pe_call (F : FnOk X.prog X.w X.K X.mg X.base CX k f fd ps sp) (hr : Room k X.A) (hg : Gl X x) (hm : X.mg x = some (.ref f)) (hk : PySem.W.keepIn X.K (.ref f) = true) (hb : Binds X.K fd ps ds) (hd : Vals dvs ds) (hx : Passes CX X E)
    (ha : PA X (e :: es) t) (hdb : (x == ("__debug__" : Str)) = false := by decide) (he : starEach (e :: es) X.env = (false, eval e X.env) :: starEach es X.env := by rfl) (hpl : (backTo pos (starEach es X.env)).any (·.1) = false := by rfl) :
    PE X (.Call (.Name x p) (e :: es) [] pos) (tCall sp dvs E t) := by
  intro pins s σ H Q I h
  refine wpAny_Call_Name_kw (ld_glob I hg hm ?_ hdb)
  refine PySem.W.callWith_K (h₀ := X.base) I.ok.mod.kin hk (thn (ha pos pins s σ H _ I h) fun us s1 ⟨vs, H1, I1, r, q⟩ => ⟨I1.kIn, ?_⟩) he hpl
  exact run_fn F hr hb hd hx I1 r q
theorem pe_call0 (F : FnOk X.prog X.w X.K X.mg X.base CX k f fd ps sp) (hr : Room k X.A) (hg : Gl X x) (hm : X.mg x = some (.ref f)) (hk : PySem.W.keepIn X.K (.ref f) = true) (hb : Binds X.K fd ps ds) (hd : Vals dvs ds) (hx : Passes CX X E)
    (hdb : (x == ("__debug__" : Str)) = false := by decide) : PE X (.Call (.Name x p) [] [] pos) (tCall sp dvs E tNil) := by
  intro pins s σ H Q I h
  refine wpAny_Call_Name_kw (ld_glob I hg hm ?_ hdb)
  exact PySem.W.callWith_K0 I.kIn hk (run_fn (us := []) F hr hb hd hx I .nil h)


/-- what a class must have to be made -/
structure Mk (K : PySem.W.Frag) (C f : Addr) : Prop where
  makes : PySem.W.makesIn K C = true
  init : PySem.W.findIn K (.ref C) "__init__" = some (some (.ref f))
  fn : PySem.W.isFn K (.ref f) = true
  kp : PySem.W.keepIn K (.ref C) = true

end

/-! ### keywords -/
/-- the values of the keywords, from the left -/
def PK (X : Cx) (kws : List Keyword) (t : TA) : Prop :=
  ∀ (pos : Pos) (pins : List (Addr × Obj)) (s : Shared) (σ : St) (H : Hp) (Q : List V → Hp → Prop), Inv X pins σ H s → t σ H Q → wpAny (model X.prog X.w) X.A (evalAll ((backToKw pos (keywordEach kws X.env)).map (·.2))) (AP X pins σ Q) X.xe s
section
variable {X : Cx} {CX : CXT} {k : Nat} {f C : Addr} {fd : FuncData} {ps ks : List Str} {sp : Sp} {E : XK} {x m : Str} {p pos apos kpos : Pos} {e o : Expr} {es : List Expr} {kws : List Keyword} {te ta : TE} {t tk : TA} {nm : Option Str}

/-- how a call with keywords binds: g puts the positional values us and the keywords' values ws (names ks) in the parameters' order, defaults among them -/
structure KBinds (K : PySem.W.Frag) (fd : FuncData) (ps ks : List Str) (g : List Value → List Value → List Value) (gV : List V → List V → List V) : Prop where
  to : ∀ (s : Shared) (us ws : List Value), K.In s.heap → (g us ws).length = ps.length → BindsTo s fd ⟨us, ks.zip ws⟩ (ps.zip (g us ws))
  rel : ∀ {vs : List V} {us : List Value} {zs : List V} {ws : List Value}, Vals vs us → Vals zs ws → Vals (gV vs zs) (g us ws)
def tCallK (sp : Sp) (gV : List V → List V → List V) (E : XK) (t tk : TA) : TE := fun σ H Q => t σ H fun vs H1 => tk σ H1 fun zs H2 => sp (gV vs zs) H2 Q E
variable {g : List Value → List Value → List Value} {gV : List V → List V → List V}
end

/-! ### a def's body keeps its promise -/
/-- names: the parameters first -/
structure FnScope (N P : List Str) (sc : Scope) : Prop where
  kind : sc.kind = .function
  co : sc.isCoroutine = false
  gen : sc.isGenerator = false
  nd : N.Nodup
  pre : N.take P.length = P
  par : ∀ x ∈ P, sc.names.lookup x = some .local ∨ sc.names.lookup x = some .cell
  nofree : ∀ y ∈ sc.names, y.2 ≠ .free

theorem bindL_out {kindOf : Str → Option NameKind} {x : Str} : ∀ {binds : List (Str × Value)} {m : Str → Option Value}, (∀ v, (x, v) ∉ binds) → bindL kindOf binds m x = m x
  | [], _, _ => rfl
  | (n, v) :: r, m, h => by
    unfold bindL
    rw [bindL_out fun w hw => h w (List.mem_cons_of_mem _ hw)]
    split
    · have : x ≠ n := by rintro rfl; exact h v List.mem_cons_self
      simp [this]
    · rfl
theorem bindC_out {kindOf : Str → Option NameKind} {x : Str} : ∀ {binds : List (Str × Value)} {m : Str → Option Value}, (∀ v, (x, v) ∉ binds) → bindC kindOf binds m x = m x
  | [], _, _ => rfl
  | (n, v) :: r, m, h => by
    unfold bindC
    rw [bindC_out fun w hw => h w (List.mem_cons_of_mem _ hw)]
    split
    · rfl
    · have : x ≠ n := by rintro rfl; exact h v List.mem_cons_self
      simp [this]
theorem bindL_get {kindOf : Str → Option NameKind} {x : Str} {v : Value} : ∀ {P : List Str} {vs : List Value} {i : Nat} {m : Str → Option Value}, P.Nodup → P[i]? = some x → vs[i]? = some v → kindOf x = some .local →
    bindL kindOf (P.zip vs) m x = some v
  | [], _, _, _, _, h, _, _ => by simp at h
  | _ :: _, [], _, _, _, _, h, _ => by simp at h
  | p :: P, w :: vs, 0, m, nd, h1, h2, hk => by
    simp at h1 h2; subst h1; subst h2
    show bindL kindOf ((p, w) :: P.zip vs) m p = _
    unfold bindL
    rw [bindL_out fun v hv => (List.nodup_cons.mp nd).1 (List.of_mem_zip hv).1, if_pos hk]
    simp
  | p :: P, w :: vs, i + 1, m, nd, h1, h2, hk => by
    show bindL kindOf ((p, w) :: P.zip vs) m x = _
    unfold bindL
    exact bindL_get (i := i) (List.nodup_cons.mp nd).2 (by simpa using h1) (by simpa using h2) hk
theorem bindC_get {kindOf : Str → Option NameKind} {x : Str} {v : Value} : ∀ {P : List Str} {vs : List Value} {i : Nat} {m : Str → Option Value}, P.Nodup → P[i]? = some x → vs[i]? = some v → kindOf x ≠ some .local →
    bindC kindOf (P.zip vs) m x = some v
  | [], _, _, _, _, h, _, _ => by simp at h
  | _ :: _, [], _, _, _, _, h, _ => by simp at h
  | p :: P, w :: vs, 0, m, nd, h1, h2, hk => by
    simp at h1 h2; subst h1; subst h2
    show bindC kindOf ((p, w) :: P.zip vs) m p = _
    unfold bindC
    rw [bindC_out fun v hv => (List.nodup_cons.mp nd).1 (List.of_mem_zip hv).1, if_neg hk]
    simp
  | p :: P, w :: vs, i + 1, m, nd, h1, h2, hk => by
    show bindC kindOf ((p, w) :: P.zip vs) m x = _
    unfold bindC
    exact bindC_get (i := i) (List.nodup_cons.mp nd).2 (by simpa using h1) (by simpa using h2) hk

/-- the names' values at the entry -/
def start (N : List Str) (vs : List V) : St := vs.map some ++ List.replicate (N.length - vs.length) none

/-- the context of a def's body, at its entry; an exception leaves the frame, then lies as CX says -/
def cxOf (CX : CXT) (P : Program) (w : World) (K : PySem.W.Frag) (mg : Str → Option Value) (base : Heap) (N : List Str) (qual : Str) (scope : Scope) (f : Addr) (cd : Value) (A : Around) (outer : List Env) (s : Shared) (H : Hp) (E : XK) : Cx where
  prog := P
  w := w
  K := K
  mg := mg
  base := base
  A := A.deeper (envOfC qual scope s.heap.objs.size f cd)
  N := N
  s₀ := s
  H₀ := H
  env := envOfC qual scope s.heap.objs.size f cd
  outer := outer
  stack := envOfC qual scope s.heap.objs.size f cd :: outer
  ex := []
  calm := true
  fn := fun _ => true
  pn := []
  xe := fun e s' => wpAny (model P w) (A.deeper (envOfC qual scope s.heap.objs.size f cd)) (leaving (envOfC qual scope s.heap.objs.size f cd) e) (fun _ s'' => CX outer H s E e s'') (fun e' s'' => CX outer H s E e' s'') s'

theorem cell_has {sc : Scope} {n : Nat} {x : Str} (h : sc.names.lookup x = some .cell) : ∃ c, (cellsFrom n sc.names []).lookup x = some c := by
  have q := PySem.W.cellsFrom_some sc.names n [] (.inl h)
  exact Option.isSome_iff_exists.mp q

theorem inv_start {CX : CXT} {P : Program} {w : World} {K : PySem.W.Frag} {mg : Str → Option Value} {base : Heap} {N ps : List Str} {qual : Str} {scope : Scope} {f : Addr} {cd : Value} {A : Around} {outer : List Env} {s s1 : Shared} {H : Hp} {E : XK} {us : List Value} {vs : List V}
    (S : FnScope N ps scope) (hd : A.handled = none) (e0 : Env0 P w K mg base A outer s H) (hl : vs.length = ps.length) (r : Vals vs us)
    (x : InCallC s s.heap.objs.size (bindL (envOfC qual scope s.heap.objs.size f cd).kindOf (ps.zip us) fun _ => none) (cellsFrom (s.heap.objs.size + 1) scope.names []) (bindC (envOfC qual scope s.heap.objs.size f cd).kindOf (ps.zip us) fun _ => none) s1) :
    Inv (cxOf CX P w K mg base N qual scope f cd A outer s H E) [] (start N vs) H s1 := by
  have hpl : ps.length ≤ N.length := by have := congrArg List.length S.pre; rw [List.length_take] at this; omega
  obtain ⟨h1, tk, rfl, hk⟩ := x.done
  have noA : ∀ b : Addr, b ∉ (cxOf CX P w K mg base N qual scope f cd A outer s H E).ex := fun b z => absurd (show b ∈ ([] : List Addr) from z) (by simp)
  refine ⟨⟨e0.mod, S.kind, rfl, rfl, Nat.le_refl _, fun y z c h1 h2 => ?_, fun y hy => ?_, fun y c _ h => ?_, fun _ => hd, Around.frames_deeper e0.frames, .inr ⟨rfl, rfl⟩, fun b z => absurd z (noA b), e0.bs, e0.bsz, fun b _ _ => noA b, fun b z => absurd z (noA b), e0.funs, e0.frf⟩,
    rfl, e0.bare, Un.kept hk, ⟨_, x.toInCall.ns, fun i y v h1 h2 h3 => ?_⟩, fun y c h => ⟨_, x.cell y c h⟩, e0.hok.fresh (Nat.le_refl _), fun y c h => ?_, fun p hp => absurd (show p ∈ ([] : List (Addr × Obj)) from hp) (by simp), e0.hok.kept hk, ?_⟩
  · exact name_of_addr x.apart (PySem.mem_of_lookup h1) (PySem.mem_of_lookup h2)
  · have hy : scope.names.lookup y = some .cell ∨ scope.names.lookup y = some .free := hy
    rcases hy with hy | hy
    · exact cell_has hy
    · exact absurd rfl (S.nofree _ (PySem.mem_of_lookup hy))
  · exact Nat.le_of_lt (x.above y c (PySem.mem_of_lookup h))
  · have hi : i < vs.length := by
      unfold start at h2
      by_cases hi : i < vs.length
      · exact hi
      · rw [List.getElem?_append_right (by simpa using hi)] at h2
        rw [List.getElem?_replicate] at h2
        split at h2 <;> cases h2
    have ha : vs[i]? = some v := by
      unfold start at h2
      rw [List.getElem?_append_left (by simpa using hi), List.getElem?_map] at h2
      cases e : vs[i]? with
      | none => rw [e] at h2; cases h2
      | some a => rw [e] at h2; cases h2; rfl
    obtain ⟨u, hu, rv⟩ := r.get ha
    have hp : ps[i]? = some y := by
      rw [← S.pre, List.getElem?_take_of_lt (by omega)]; exact h1
    have ndP : ps.Nodup := by rw [← S.pre]; exact S.nd.sublist (List.take_sublist _ _)
    refine ⟨u, rv, ?_⟩
    rcases S.par y (List.mem_of_getElem? hp) with k | k
    · exact .inl ⟨k, bindL_get ndP hp hu k⟩
    · obtain ⟨c, e⟩ := cell_has (n := s.heap.objs.size + 1) k
      refine .inr ⟨.inl k, c, e, ?_⟩
      have q := x.cell y c e
      rw [bindC_get ndP hp hu (by show scope.names.lookup y ≠ _; rw [k]; decide)] at q
      exact q
  · exact e0.hok.fresh (Nat.le_of_lt (x.above y c (PySem.mem_of_lookup h)))
  · unfold start
    show _ = N.length
    rw [List.length_append, List.length_map, List.length_replicate]
    omega

/-- THE RULE: a def (or a method) of the text, by its body. The body's reading t is chosen for each entry; it is run at the parameters' values -/
theorem fn_of {CX : CXT} {P : Program} {w : World} {K : PySem.W.Frag} {mg : Str → Option Value} {base : Heap} {k : Nat} {f : Addr} {name qual : Str} {params : Arguments} {body : List Stmt} {scope : Scope} {dV kV doc pm cdv ct oc : Value} {an od : Option Addr}
    {osl : Array (Option Value)} {N ps : List Str} {sp : Sp} (lk : K.lookup f = some ⟨oc, od, .func (PySem.W.fnOf name qual params body scope dV kV doc pm an cdv ct), osl⟩) (hcd : PySem.W.codeIn K cdv qual = true) (S : FnScope N ps scope)
    (len : ∀ vs H Q E, sp vs H Q E → vs.length = ps.length)
    (hbody : ∀ (A : Around) (outer : List Env) (s : Shared) (H : Hp) (vs : List V) (Q : VK) (E : XK), Room k (A.deeper (envOfC qual scope s.heap.objs.size f cdv)) → sp vs H Q E →
      ∃ t, PSs (cxOf CX P w K mg base N qual scope f cdv A outer s H E) body t ∧ t { nx := fun _ H' => Q .non H', rt := Q } (start N vs) H) :
    FnOk P w K mg base CX (k + 1) f (PySem.W.fnOf name qual params body scope dV kV doc pm an cdv ct) ps sp := by
  refine ⟨len, fun A outer s H args us vs Q E hr e0 hb r hsp => ?_⟩
  have hl := len _ _ _ _ hsp
  have KX : K.In s.heap := e0.mod.kin.keeps fun b o e => (e0.bs b o e).1
  have lim : s.heap.NoLimit := e0.mod.nolimit.keeps fun b o e => (e0.bs b o e).1
  have hkind : ∀ y ∈ ps.zip us, scope.names.lookup y.1 = some .local ∨ (scope.names.lookup y.1 = some .cell ∧ ((cellsFrom (s.heap.objs.size + 1) scope.names []).lookup y.1).isSome = true) := fun ⟨n, v⟩ hy => by
    rcases S.par n (List.of_mem_zip hy).1 with q | q
    · exact .inl q
    · exact .inr ⟨q, PySem.W.cellsFrom_some _ _ _ (.inl q)⟩
  refine codeAny_call_function hr.depth (KX _ _ lk) rfl S.co S.gen rfl (PySem.W.codeRec_of KX hcd) (hb _ _ _ _ ?_)
  refine wpAny_newFunctionEnv_cells S.kind hkind fun env he s1 x => ?_
  subst he
  refine ⟨lim.keeps x.toInCall.keep, codeAny_func ?_⟩
  obtain ⟨t, ht, hq⟩ := hbody A outer s H vs Q E (hr.deeper _) hsp
  have I : Inv (cxOf CX P w K mg base N qual scope f cdv A outer s H E) [] (start N vs) H s1 := inv_start S hr.hd e0 hl r x
  refine wpAny_mono (ht [] s1 (start N vs) H _ I hq) (fun fl s' hs => ?_) fun e s' hs => hs
  have fin : ∀ {σ' : St} {H' : Hp} {v : V} {u : Value}, Inv (cxOf CX P w K mg base N qual scope f cdv A outer s H E) [] σ' H' s' → RelV v u → Q v H' → CE outer P w H s Q u s' :=
    fun {σ' H' v u} J rv q => ⟨v, H', J.os, J.bare, J.base, J.hok, rv, q⟩
  cases fl with
  | ret u =>
    obtain ⟨v, σ', H', J, rv, q⟩ := hs
    exact fin J rv q
  | next =>
    obtain ⟨σ', H', J, q⟩ := hs
    exact fin (v := V.non) (u := Value.none) J rfl q
  | brk =>
    obtain ⟨_, _, _, q⟩ := hs
    exact False.elim q
  | cont =>
    obtain ⟨_, _, _, q⟩ := hs
    exact False.elim q
end L2

namespace L2
open PySem PySem.Spec PyProof.Rows
section
variable {X : Cx} {x : Str} {p pos : Pos} {e : Expr} {es : List Expr} {t : TA} {id T : String} {r : List V → Hp → VK → Prop}

def tCB (r : List V → Hp → VK → Prop) (t : TA) : TE := fun σ H Q => t σ H fun vs H1 => r vs H1 Q
/-- f(e, ..), f a built-in function -/
theorem pe_callB (hc : CallR X (.builtin id) r) (hg : Gl X x) (hm : X.mg x = none) (hv : bootBuiltins x = some (.builtin id)) (ha : PA X (e :: es) t) (hn : x ≠ "__name__" := by decide) (hdb : (x == ("__debug__" : Str)) = false := by decide)
    (he : starEach (e :: es) X.env = (false, eval e X.env) :: starEach es X.env := by rfl) (hpl : (backTo pos (starEach es X.env)).any (·.1) = false := by rfl) : PE X (.Call (.Name x p) (e :: es) [] pos) (tCB r t) := by
  intro pins s σ H Q I h
  refine wpAny_Call_Name_kw (ld_blt I hg hm hv ?_ hn hdb)
  exact PyProof.Rows.callWith_builtin1 (thn (ha pos pins s σ H _ I h) fun us s1 ⟨vs, H1, I1, r1, q1⟩ => hc pins s1 σ H1 vs us Q I1 r1 q1) he hpl
/-- T(e, ..), T a built-in type -/
theorem pe_callTy (hc : CallR X (.type T) r) (hg : Gl X x) (hm : X.mg x = none) (hv : bootBuiltins x = some (.type T)) (ha : PA X (e :: es) t) (hn : x ≠ "__name__" := by decide) (hdb : (x == ("__debug__" : Str)) = false := by decide)
    (he : starEach (e :: es) X.env = (false, eval e X.env) :: starEach es X.env := by rfl) (hpl : (backTo pos (starEach es X.env)).any (·.1) = false := by rfl) : PE X (.Call (.Name x p) (e :: es) [] pos) (tCB r t) := by
  intro pins s σ H Q I h
  refine wpAny_Call_Name_kw (ld_blt I hg hm hv ?_ hn hdb)
  exact PyProof.Rows.callWith_type1 (thn (ha pos pins s σ H _ I h) fun us s1 ⟨vs, H1, I1, r1, q1⟩ => hc pins s1 σ H1 vs us Q I1 r1 q1) he hpl
end
end L2

namespace HT
open PySem PyProof.Rows

/-- t < u of tuples of ints -/
def lexLt : List Int → List Int → Bool
  | [], [] => false
  | [], _ :: _ => true
  | _ :: _, [] => false
  | x :: xs, y :: ys => if x = y then lexLt xs ys else decide (x < y)


section
open PySem.SeqAt
open PySem.AutoSeq1 (wpAny_loadPart')
open PySem.MeetsSeq PySem.MeetsSeq2 PySem.MeetsSeq3

end

section
variable {prog : Program} {w : World} {A : Around} {E : Value → Shared → Prop} {s : Shared}


/-- t + u, t not empty -/
theorem cat_tup {t b : Addr} {vs ws : List Value} {Q : Value → Shared → Prop} (ht : IsTup s.heap t vs.toArray) (hb : IsTup s.heap b ws.toArray) (hv : vs ≠ [])
    (h1 : ws = [] → Q (.ref t) s) (h2 : ws ≠ [] → Q (.ref s.heap.objs.size) { s with heap := s.heap.push { cls := .type "tuple", data := .seq (vs ++ ws).toArray } })
    (hsz : vs.length + ws.length ≤ sizeLine) : wpAny (model prog w) A (binaryOp .Add (.ref t) (.ref b)) Q E s := by
  obtain ⟨⟨cls, dd, data, sl⟩, ho, hc, n, hd⟩ := id ht
  obtain ⟨⟨cls2, dd2, data2, sl2⟩, ho2, hc2, n2, hd2⟩ := id hb
  simp only at hc hd hc2 hd2
  subst hc hd hc2 hd2
  have e : vs.toArray ++ ws.toArray = (vs ++ ws).toArray := by simp
  by_cases hw : ws = []
  · exact concat_meets ⟨_, ho, rfl⟩ ⟨_, ho2, rfl⟩ noFill_tuple_add seq_tuple_add PySem.F.slot_tuple_add PySem.F.entry_tuple_add (PySem.F.args_tuple_add_2 _ _)
      (tuple_addW1 t b vs.toArray ws.toArray n n2 dd dd2 sl sl2 (by simpa using hv) (by simp [hw])) ⟨ho, ho2, h1 hw⟩
  · refine concat_meets ⟨_, ho, rfl⟩ ⟨_, ho2, rfl⟩ noFill_tuple_add seq_tuple_add PySem.F.slot_tuple_add PySem.F.entry_tuple_add (PySem.F.args_tuple_add_2 _ _)
      (tuple_addW2 t b vs.toArray ws.toArray n n2 dd dd2 sl sl2 (by simpa using hv) (by simpa using hw) (by rw [List.size_toArray, List.size_toArray]; exact hsz)) ⟨ho, ho2, ?_⟩
    rw [e]
    exact h2 hw

/-! ### t[a:b], not the whole -/
/-- a slice's bound as a place among n (d where it is left out) -/
def sIx (n d : Nat) : Option Int → Nat
  | none => d
  | some v => if v < 0 then (v + (n : Int)).toNat else min v.toNat n
theorem sIx_le (n d : Nat) (hd : d ≤ n) (o : Option Int) : sIx n d o ≤ n := by
  cases o with
  | none => exact hd
  | some v =>
    show (if v < 0 then (v + (n : Int)).toNat else min v.toNat n) ≤ n
    by_cases hv : v < 0
    · rw [if_pos hv]; omega
    · rw [if_neg hv]; exact Nat.min_le_right _ _
theorem clip_eq (v : Int) (n d : Nat) : (if v < 0 then max (v + (n : Int)) 0 else min v (n : Int)) = ((sIx n d (some v) : Nat) : Int) := by
  show (if v < 0 then max (v + (n : Int)) 0 else min v (n : Int)) = (((if v < 0 then (v + (n : Int)).toNat else min v.toNat n) : Nat) : Int)
  by_cases hv : v < 0
  · simp only [if_pos hv]; omega
  · simp only [if_neg hv]; omega
theorem adjust_gen (lo hi : Option Int) (n : Nat) : Builtin.Slice.sliceAdjust lo hi 1 (n : Int) = (((sIx n 0 lo : Nat) : Int), ((sIx n n hi : Nat) : Int)) := by
  have h1 : ¬ ((1 : Int) < 0) := by omega
  unfold Builtin.Slice.sliceAdjust
  simp only [h1, if_false]
  refine Prod.ext ?_ ?_
  · cases lo with
    | none => rfl
    | some v => exact clip_eq v n 0
  · cases hi with
    | none => rfl
    | some v => exact clip_eq v n n
theorem places_gen (i j : Nat) : Builtin.Slice.slicePlaces (i : Int) (j : Int) 1 = j - i := by
  unfold Builtin.Slice.slicePlaces
  have h1 : (1 : Int) > 0 := by omega
  simp only [h1, if_true, Int.ediv_one]
  split <;> omega
theorem slicePart_ {v : Value} {o : Option Int} {Q : Option Int → Shared → Prop} (p : IsPart v o) (h : Q o s) : wpAny (model prog w) A (Builtin.Slice.slicePartIndex v) Q E s := by
  cases p with
  | none => exact slicePart_none h
  | int i t => exact slicePart_int h
theorem sliceApplied_gen {sl : Addr} {vl vu : Value} {lo hi : Option Int} {n : Nat} {Q : Int × Int × Nat → Shared → Prop} (hs : s.heap.IsSliceOf sl vl vu .none) (pl : IsPart vl lo) (pu : IsPart vu hi)
    (h : Q (((sIx n 0 lo : Nat) : Int), 1, sIx n n hi - sIx n 0 lo) s) : wpAny (model prog w) A (Builtin.Slice.sliceApplied (.ref sl) (pure (n : Int))) Q E s := by
  obtain ⟨os, hos, hcs, hds⟩ := id hs
  unfold Builtin.Slice.sliceApplied Builtin.Slice.sliceFields
  refine wpAny_bind (wpAny_bind (wpAny_field hos hds (x := vl) rfl (wpAny_bind (wpAny_field hos hds (x := vu) rfl (wpAny_bind (wpAny_field hos hds (x := .none) rfl (wpAny_pure ?_)))))))
  refine wpAny_bind (slicePart_none ?_)
  show wpAny _ _ (if ((1 : Int) == 0) = true then _ else _) _ _ s
  rw [if_neg (by decide)]
  refine wpAny_bind (slicePart_ pl (wpAny_bind (slicePart_ pu (wpAny_bind (wpAny_pure ?_)))))
  show wpAny _ _ (match Builtin.Slice.sliceAdjust lo hi 1 (n : Int) with | (lo, hi) => pure (lo, (1 : Int), Builtin.Slice.slicePlaces lo hi 1)) _ _ s
  rw [adjust_gen lo hi n]
  show wpAny _ _ (pure (((sIx n 0 lo : Nat) : Int), (1 : Int), Builtin.Slice.slicePlaces ((sIx n 0 lo : Nat) : Int) ((sIx n n hi : Nat) : Int) 1)) _ _ s
  rw [places_gen]
  exact wpAny_pure h
theorem pick_gen (xs : Array Value) (i k : Nat) : ((List.range k).filterMap fun (m : Nat) => xs[((i : Int) + (m : Int) * 1).toNat]?).toArray = ((xs.toList.drop i).take k).toArray := by
  have e : (fun (m : Nat) => xs[((i : Int) + (m : Int) * 1).toNat]?) = fun m => xs[i + m]? := by
    funext m
    have : ((i : Int) + (m : Int) * 1).toNat = i + m := by omega
    rw [this]
  rw [e]
  have := pick_run xs i k
  rw [List.filterMap_map] at this
  have e2 : ((fun x => xs[x]?) ∘ fun x => i + x) = fun m => xs[i + m]? := rfl
  rw [e2] at this
  rw [this]

theorem getItem_tuple_cut {t sl : Addr} {items : Array Value} {vl vu : Value} {lo hi : Option Int} {Q : Value → Shared → Prop} (ht : IsTup s.heap t items) (hs : s.heap.IsSliceOf sl vl vu .none) (pl : IsPart vl lo) (pu : IsPart vu hi)
    (hw : ¬ (sIx items.size 0 lo = 0 ∧ sIx items.size items.size hi = items.size))
    (h : Q (.ref s.heap.objs.size) { s with heap := s.heap.push { cls := .type "tuple", data := .seq ((items.toList.drop (sIx items.size 0 lo)).take (sIx items.size items.size hi - sIx items.size 0 lo)).toArray } })
    (hsz : items.size ≤ sizeLine) : wpAny (model prog w) A (getItem (.ref t) (.ref sl)) Q E s := by
  have htake : sizeOk (.seq ((items.toList.drop (sIx items.size 0 lo)).take (sIx items.size items.size hi - sIx items.size 0 lo)).toArray) := by
    show ((items.toList.drop (sIx items.size 0 lo)).take (sIx items.size items.size hi - sIx items.size 0 lo)).toArray.size ≤ sizeLine
    rw [List.size_toArray, List.length_take, List.length_drop, Array.length_toList]
    omega
  have hj : sIx items.size items.size hi ≤ items.size := sIx_le _ _ (Nat.le_refl _) hi
  obtain ⟨os, hos, hcs, hds⟩ := id hs
  have hTs : s.TypeIs (.ref sl) "slice" := ⟨os, hos, hcs⟩
  unfold getItem
  try with_reducible refine wpAny_holding ?_
  first | refine wpAny_bind (wpAny_pure ?_) | skip
  refine wpAny_bind (wpAny_sequenceKey ht.typeIs (by decide) ?_)
  refine wpAny_bind (wpAny_callSpecial?_slot (name := Str.ofString "__getitem__") ht.typeIs PyProof.Rows.slot_tuple_getitem
    (wpAny_call_entry PyProof.Rows.slot_tuple_getitem ht.typeIs entry_tuple_getitem ?_ (args_tuple_getitem _ _)))
  show wpAny _ _ (Builtin.Tuple.tupleItemsOf (.ref t) >>= _) _ _ s
  refine wpAny_bind (tupleItemsOf_ ht ?_)
  refine wpAny_bind (wpAny_typeOf hTs ?_)
  rw [if_pos (by decide)]
  refine wpAny_bind (sliceApplied_gen hs pl pu ?_)
  have hno : ¬ ((((sIx items.size 0 lo : Nat) : Int) == 0 && (1 : Int) == 1 && (sIx items.size items.size hi - sIx items.size 0 lo) == items.size) = true) := by
    intro q
    rw [Bool.and_eq_true, Bool.and_eq_true] at q
    have q1 : ((sIx items.size 0 lo : Nat) : Int) = 0 := eq_of_beq q.1.1
    have q2 : sIx items.size items.size hi - sIx items.size 0 lo = items.size := eq_of_beq q.2
    exact hw ⟨by omega, by omega⟩
  show wpAny _ _ (if (((sIx items.size 0 lo : Nat) : Int) == 0 && (1 : Int) == 1 && (sIx items.size items.size hi - sIx items.size 0 lo) == items.size) = true then _ else _) _ _ s
  rw [if_neg hno, pick_gen]
  first
    | exact wpAny_bind (m := Builtin.Tuple.tupleExact _) (wpAny_newObj_type (wpAny_pure ⟨_, rfl, wpAny_pure h⟩) htake)
    | exact wpAny_bind (m := Builtin.Tuple.tupleExact _) (wpAny_newObj_type (wpAny_bind (wpAny_pure (wpAny_pure ⟨_, rfl, wpAny_pure h⟩))) htake)
    | exact wpAny_bind (wpAny_bind (m := Builtin.Tuple.tupleExact _) (wpAny_newObj_type (wpAny_pure (wpAny_pure ⟨_, rfl, wpAny_pure h⟩)) htake))
    | exact wpAny_bind (wpAny_bind (m := Builtin.Tuple.tupleExact _) (wpAny_newObj_type (wpAny_pure ⟨_, rfl, wpAny_pure h⟩) htake))
end
end HT

namespace L2
open PySem PySem.Spec PyProof.Rows

/-! ### the parts of a slice -/
abbrev TO := St → Hp → (Option Int → Hp → Prop) → Prop
/-- a slice's part (left out, or an int) -/
def PO (X : Cx) (e : Option Expr) (t : TO) : Prop :=
  ∀ (pins : List (Addr × Obj)) (s : Shared) (σ : St) (H : Hp) (Q : Option Int → Hp → Prop), Inv X pins σ H s → t σ H Q →
    wpAny (model X.prog X.w) X.A (evalPart e X.env) (fun u s' => ∃ o H', Inv X pins σ H' s' ∧ IsPart u o ∧ Q o H') X.xe s
def tNoPart : TO := fun _ H Q => Q none H
def tPart (t : TE) : TO := fun σ H Q => t σ H fun x H1 => ∃ i, x = .int i ∧ Q (some i) H1


section
variable {X : Cx} {e : Expr} {te : TE} {lo hi : Option Expr} {tl th : TO} {pos p2 : Pos}

theorem po_none : PO X none tNoPart := by
  intro pins s σ H Q I h
  rw [evalPart_none]
  exact wpAny_pure ⟨none, H, I, .none, h⟩
theorem po_some (h : PE X e te) : PO X (some e) (tPart te) := by
  intro pins s σ H Q I hw
  rw [evalPart_some]
  refine thn (h pins s σ H _ I hw) fun u s1 ⟨x, H1, I1, r1, q1⟩ => ?_
  obtain ⟨i, rfl, q⟩ := q1
  obtain ⟨t, rfl⟩ := r1
  exact ⟨some i, H1, I1, .int i t, q⟩

/-- what a slice of a value is, by values: the slice object stands at sl -/
def SlR (X : Cx) (r : V → Option Int → Option Int → Hp → VK → Prop) : Prop :=
  ∀ (pins : List (Addr × Obj)) (s : Shared) (σ : St) (H : Hp) (x : V) (v vl vu : Value) (lo hi : Option Int) (sl : Addr) (Q : VK), Inv X pins σ H s → RelV x v → s.heap.IsSliceOf sl vl vu .none → IsPart vl lo → IsPart vu hi → r x lo hi H Q →
    ∃ T id, typeLookup (.type T) "__getitem__" = pure (some (.builtin id)) ∧ s.TypeIs v T ∧ wpAny (model X.prog X.w) X.A (getItem v (.ref sl)) (EP X pins σ Q) X.xe s
theorem SlR.or {r r' : V → Option Int → Option Int → Hp → VK → Prop} (h : SlR X r) (h' : SlR X r') : SlR X (fun x lo hi H Q => r x lo hi H Q ∨ r' x lo hi H Q) := by
  intro pins s σ H x v vl vu lo hi sl Q I rx hs pl pu q
  rcases q with q | q
  · exact h pins s σ H x v vl vu lo hi sl Q I rx hs pl pu q
  · exact h' pins s σ H x v vl vu lo hi sl Q I rx hs pl pu q
def tSl (r : V → Option Int → Option Int → Hp → VK → Prop) (te : TE) (tl th : TO) : TE := fun σ H Q => te σ H fun x H1 => tl σ H1 fun l H2 => th σ H2 fun u H3 => r x l u H3 Q
/-- a[lo:hi], any a -/
theorem pe_slice {r : V → Option Int → Option Int → Hp → VK → Prop} (hr : SlR X r) (he : PE X e te) (hl : PO X lo tl) (hu : PO X hi th) : PE X (.Subscript e (.Slice lo hi none p2) pos) (tSl r te tl th) := by
  intro pins s σ H Q I h
  refine Subscript_ (thn (he pins s σ H _ I h) fun v s1 ⟨x, H1, I1, r1, q1⟩ => ?_)
  refine wpAny_Slice (thn (hl pins s1 σ H1 _ I1 q1) fun vl s2 ⟨l, H2, I2, pl, q2⟩ => thn (hu pins s2 σ H2 _ I2 q2) fun vu s3 ⟨u, H3, I3, pu, q3⟩ => ?_)
  rw [evalPart_none]
  refine wpAny_pure ?_
  have I4 : Inv X pins σ H3 { s3 with heap := s3.heap.push { cls := .type "slice", data := .fields #[vl, vu, .none] } } := I3.kept (t' := s3.toks) fun b ob q => Heap.get?_push_of_some _ q
  obtain ⟨T, id, hT, ht, hg⟩ := hr pins { s3 with heap := s3.heap.push { cls := .type "slice", data := .fields #[vl, vu, .none] } } σ H3 x v vl vu l u s3.heap.objs.size Q I4 r1 (Heap.IsSliceOf.new ..) pl pu q3
  show wpAny (model X.prog X.w) X.A (subscriptTail e (.Slice lo hi none p2) v (.ref s3.heap.objs.size)) (EP X pins σ Q) X.xe { s3 with heap := s3.heap.push { cls := .type "slice", data := .fields #[vl, vu, .none] } }
  exact tail_any (ops := [.ref s3.heap.objs.size, v]) ht hT hg (by with_unfolding_all rfl)

/-- the items of xs[lo:hi] -/
def cutV (xs : List V) (lo hi : Option Int) : List V := (xs.drop (HT.sIx xs.length 0 lo)).take (HT.sIx xs.length xs.length hi - HT.sIx xs.length 0 lo)
theorem cutV_length (xs : List V) (lo hi : Option Int) : (cutV xs lo hi).length ≤ xs.length := by
  unfold cutV
  rw [List.length_take, List.length_drop]
  omega
/-- t[lo:hi], not the whole of it (the whole would be t itself) -/
def rSlT (K : PySem.W.Frag) : V → Option Int → Option Int → Hp → VK → Prop := fun x lo hi H Q => ∃ a xs, x = .ref a ∧ SqT K H a xs ∧
  ¬ (HT.sIx xs.length 0 lo = 0 ∧ HT.sIx xs.length xs.length hi = xs.length) ∧ ∀ p, H p = none → Q (.ref p) (upd H p (.tup (cutV xs lo hi)))
theorem sl_tup : SlR X (rSlT X.K) := by
  intro pins s σ H x v vl vu lo hi sl Q I rx hs pl pu h
  obtain ⟨a, xs, rfl, hx, hw, q⟩ := h
  cases rx
  obtain ⟨its, r, ht, hz⟩ := I.tuple hx
  have hlen : its.toArray.size = xs.length := by rw [List.size_toArray]; exact r.length.symm
  refine ⟨"tuple", _, PyProof.Rows.slot_tuple_getitem.lookup, ht.typeIs, ?_⟩
  refine HT.getItem_tuple_cut ht hs pl pu (by rw [hlen]; exact hw) ?_ (by rw [hlen]; exact hz)
  rw [hlen]
  refine ⟨.ref s.heap.objs.size, _, I.laid (t' := s.toks) (o := .tup (cutV xs lo hi)) (fun b ob q => Heap.get?_push_of_some _ q) (Nat.le_refl _) ?_, rfl, q _ (I.hok.fresh (Nat.le_refl _))⟩
  exact ⟨Nat.le_trans (cutV_length xs lo hi) hz, _, (r.drop (HT.sIx xs.length 0 lo)).take (HT.sIx xs.length xs.length hi - HT.sIx xs.length 0 lo), IsTup.new _ _⟩

/-! ### t < u, t + u -/
def rLtT (K : PySem.W.Frag) : R2 := fun x y H Q => ∃ a b ns ms, x = .ref a ∧ y = .ref b ∧ SqT K H a (ns.map V.int) ∧ SqT K H b (ms.map V.int) ∧ Q (.bl (HT.lexLt ns ms)) H
/-- t + u, t not empty: u empty gives t itself -/
def rCatT (K : PySem.W.Frag) : R2 := fun x y H Q => ∃ a b xs ys, x = .ref a ∧ y = .ref b ∧ SqT K H a xs ∧ SqT K H b ys ∧ xs ≠ [] ∧ xs.length + ys.length ≤ sizeLine ∧
  (ys = [] → Q (.ref a) H) ∧ (ys ≠ [] → ∀ p, H p = none → Q (.ref p) (upd H p (.tup (xs ++ ys))))
theorem Vals.nil_iff {xs : List V} {us : List Value} (r : Vals xs us) : us = [] ↔ xs = [] := by
  cases r with
  | nil => simp
  | cons _ _ => simp
theorem op_catT : OpR X (binaryOp .Add) (rCatT X.K) := by
  intro pins s σ H x y v u Q I rx ry h
  obtain ⟨a, b, xs, ys, rfl, rfl, ha, hb, hx, hz, q1, q2⟩ := h
  cases rx
  cases ry
  obtain ⟨its, r1, p1, _⟩ := I.tuple ha
  obtain ⟨its2, r2, p2, _⟩ := I.tuple hb
  refine HT.cat_tup p1 p2 (fun z => hx (r1.nil_iff.mp z)) (fun z => ⟨.ref a, H, I, rfl, q1 (r2.nil_iff.mp z)⟩) (fun z => ?_) (by rw [← r1.length, ← r2.length]; exact hz)
  refine ⟨.ref s.heap.objs.size, _, I.laid (t' := s.toks) (o := .tup (xs ++ ys)) (fun b ob q => Heap.get?_push_of_some _ q) (Nat.le_refl _) ?_, rfl, q2 (fun w => z (r2.nil_iff.mpr w)) _ (I.hok.fresh (Nat.le_refl _))⟩
  exact ⟨by rw [List.length_append]; exact hz, _, r1.append r2, IsTup.new _ _⟩
end
end L2

namespace L2
open PySem PySem.Spec PyProof.Rows

/-! ### places -/
/-- the place that an index of any sign means -/
def ixN (n : Nat) (i : Int) : Option Nat := if 0 ≤ i then (if i < n then some i.toNat else none) else if -(n : Int) ≤ i then some (i + n).toNat else none
def atI {α : Type} (xs : List α) (i : Int) : Option α := (ixN xs.length i).bind fun j => xs[j]?
theorem ixN_seq {n : Nat} {i : Int} {j : Nat} (h : ixN n i = some j) : seqIndex? i n = some j ∧ j < n ∧ -(n : Int) ≤ i ∧ i < n := by
  unfold ixN at h
  by_cases h0 : 0 ≤ i
  · rw [if_pos h0] at h
    by_cases h1 : i < n
    · rw [if_pos h1] at h
      have e : i.toNat = j := Option.some.inj h
      exact ⟨by rw [seqIndex_of h0 h1, e], by omega, by omega, h1⟩
    · rw [if_neg h1] at h; cases h
  · rw [if_neg h0] at h
    by_cases h1 : -(n : Int) ≤ i
    · rw [if_pos h1] at h
      have e : (i + n).toNat = j := Option.some.inj h
      exact ⟨by rw [seqIndex_neg (by omega) h1, e], by omega, h1, by omega⟩
    · rw [if_neg h1] at h; cases h
theorem atI_get {α : Type} {xs : List α} {i : Int} {v : α} (h : atI xs i = some v) : ∃ j, seqIndex? i xs.length = some j ∧ xs[j]? = some v ∧ j < xs.length ∧ -(xs.length : Int) ≤ i ∧ i < xs.length := by
  unfold atI at h
  cases e : ixN xs.length i with
  | none => rw [e] at h; cases h
  | some j =>
    rw [e] at h
    obtain ⟨h1, h2, h3, h4⟩ := ixN_seq e
    exact ⟨j, h1, h, h2, h3, h4⟩
theorem atI_nat {α : Type} {xs : List α} {j : Nat} {v : α} (h : xs[j]? = some v) : atI xs (j : Int) = some v := by
  have hj : j < xs.length := (List.getElem?_eq_some_iff.mp h).1
  have e : ixN xs.length (j : Int) = some j := by
    unfold ixN
    rw [if_pos (by omega), if_pos (by omega)]; simp
  unfold atI; rw [e]; exact h

/-! ### what may be subscripted -/
/-- what stands as an index of a plain subscript -/
def PlainIx (b : Expr) : Prop := ∀ o i, subscripted b false o i = operate [o, i] (getItem o i)
/-- a subscript by values -/
def IxR (X : Cx) (r : R2) : Prop :=
  ∀ (value slice : Expr) (pins : List (Addr × Obj)) (s : Shared) (σ : St) (H : Hp) (x y : V) (v u : Value) (Q : VK), Inv X pins σ H s → RelV x v → RelV y u → r x y H Q →
    subscripted slice false v u = operate [v, u] (getItem v u) → wpAny (model X.prog X.w) X.A (subscriptTail value slice v u) (EP X pins σ Q) X.xe s
/-- a call of a builtin's method by values: the receiver, the arguments -/
def MtR (X : Cx) (id : String) (r : V → List V → Hp → VK → Prop) : Prop :=
  ∀ (pins : List (Addr × Obj)) (s : Shared) (σ : St) (H : Hp) (x : V) (xs : List V) (v : Value) (us : List Value) (Q : VK), Inv X pins σ H s → RelV x v → Vals xs us → r x xs H Q →
    wpAny (model X.prog X.w) X.A (call (.builtin id) (v :: us)) (EP X pins σ Q) X.xe s
section
variable {X : Cx} {a b : Expr} {ta tb : TE} {pos : Pos}
theorem IxR.or {r r' : R2} (h : IxR X r) (h' : IxR X r') : IxR X (fun x y H Q => r x y H Q ∨ r' x y H Q) := by
  intro value slice pins s σ H x y v u Q I rx ry q hs
  rcases q with q | q
  · exact h value slice pins s σ H x y v u Q I rx ry q hs
  · exact h' value slice pins s σ H x y v u Q I rx ry q hs
theorem MtR.or {id : String} {r r' : V → List V → Hp → VK → Prop} (h : MtR X id r) (h' : MtR X id r') : MtR X id (fun x xs H Q => r x xs H Q ∨ r' x xs H Q) := by
  intro pins s σ H x xs v us Q I rx rs q
  rcases q with q | q
  · exact h pins s σ H x xs v us Q I rx rs q
  · exact h' pins s σ H x xs v us Q I rx rs q
/-- a[b] -/
theorem pe_ix {r : R2} (hr : IxR X r) (ha : PE X a ta) (hb : PE X b tb) (hs : PlainIx b) : PE X (.Subscript a b pos) (tOp r ta tb) := by
  intro pins s σ H Q I h
  exact Subscript_ (binT ha hb I h fun v u s2 x y H2 I2 rx ry q => hr a b pins s2 σ H2 x y v u Q I2 rx ry q (hs _ _))

def rIxL (K : PySem.W.Frag) : R2 := fun x y H Q => ∃ p xs i v, x = .ref p ∧ y = .int i ∧ SqL K H p xs ∧ atI xs i = some v ∧ Q v H
def rIxT (K : PySem.W.Frag) : R2 := fun x y H Q => ∃ p xs i v, x = .ref p ∧ y = .int i ∧ SqT K H p xs ∧ atI xs i = some v ∧ Q v H
def rIxS : R2 := fun x y H Q => ∃ z i c, x = .str z ∧ y = .int i ∧ z.length ≤ sizeLine ∧ atI z.cps.toList i = some c ∧ Q (.str ⟨#[c]⟩) H
theorem ix_list : IxR X (rIxL X.K) := by
  intro value slice pins s σ H x y v u Q I rx ry h hs
  obtain ⟨p, xs, i, z, rfl, rfl, hq, he, q⟩ := h
  cases rx
  obtain ⟨t, rfl⟩ := ry
  obtain ⟨its, r, pl, hz⟩ := I.list hq
  obtain ⟨j, h1, h2, h3, h4, h5⟩ := atI_get he
  obtain ⟨w, ew, rw'⟩ := r.get h2
  have hl := r.length
  have hn := line63
  have fin : EP X pins σ Q w s := ⟨z, H, I, rw', q⟩
  by_cases h0 : 0 ≤ i
  · have hj : i.toNat = j := by
      rw [seqIndex_of h0 h5] at h1
      exact Option.some.inj h1
    exact item_listR pl.isList h0 (by omega) (by rw [hj]; simpa using ew) fin hs
  · have hj : (i + (its.toArray.size : Int)).toNat = j := by
      rw [seqIndex_neg (by omega) h4] at h1
      rw [List.size_toArray, ← hl]
      exact Option.some.inj h1
    exact subscriptTail_builtinR (x := w) pl.isList.typeIs slot_list_getitem.lookup
      (wpAny_getItem_list_neg (Q := fun r s' => r = w ∧ EP X pins σ Q r s') pl.isList (by omega) (by rw [List.size_toArray] <;> omega) (by omega) (by rw [hj]; simpa using ew) ⟨rfl, fin⟩) hs
theorem ix_tup : IxR X (rIxT X.K) := by
  intro value slice pins s σ H x y v u Q I rx ry h hs
  obtain ⟨p, xs, i, z, rfl, rfl, hq, he, q⟩ := h
  cases rx
  obtain ⟨t, rfl⟩ := ry
  obtain ⟨its, r, pl, hz⟩ := I.tuple hq
  obtain ⟨j, h1, h2, h3, h4, h5⟩ := atI_get he
  obtain ⟨w, ew, rw'⟩ := r.get h2
  have hl := r.length
  have hn := line63
  have fin : EP X pins σ Q w s := ⟨z, H, I, rw', q⟩
  exact subscriptTail_builtinR (x := w) pl.typeIs slot_tuple_getitem.lookup
    (getItem_tuple (j := j) (Q := fun r s' => r = w ∧ EP X pins σ Q r s') pl (by omega) (by omega) (by rw [List.size_toArray, ← hl]; exact h1) (by simpa using ew) ⟨rfl, fin⟩) hs
theorem ix_str : IxR X rIxS := by
  intro value slice pins s σ H x y v u Q I rx ry h hs
  obtain ⟨z, i, c, rfl, rfl, hz, he, q⟩ := h
  obtain ⟨t, rfl⟩ := rx
  obtain ⟨t', rfl⟩ := ry
  obtain ⟨j, h1, h2, h3, h4, h5⟩ := atI_get he
  have hl : z.cps.toList.length = z.length := by simp [Str.length]
  rw [hl] at h1 h4 h5
  have hn := line63
  exact tail_any (typeIs_str s z t) slot_str_getitem.lookup (getItem_str (c := c) (by
    have e1 : decide (i < -(2 ^ 63 : Int)) = false := decide_eq_false (by omega)
    have e2 : decide (i ≥ 2 ^ 63) = false := decide_eq_false (by omega)
    rw [e1, e2, Bool.or_false]) (by rw [h1]; simpa using h2) ⟨.str ⟨#[c]⟩, H, I.tok _, ⟨_, rfl⟩, q⟩) hs
/-- list, tuple or str -/
def rIx (K : PySem.W.Frag) : R2 := fun x y H Q => rIxL K x y H Q ∨ rIxT K x y H Q ∨ rIxS x y H Q
theorem ix_seq : IxR X (rIx X.K) := ix_list.or (ix_tup.or ix_str)

/-! ### xs[i] = v, any sign -/
/-- the list's object behind a store -/
theorem mapSeq_set (its : List Value) (n j : Nat) (u : Value) : Obj.mapSeq (·.setIfInBounds j u) { cls := .type "list", data := .seq its.toArray n } = { cls := .type "list", data := .seq (its.set j u).toArray n } := by
  simp [Obj.mapSeq]
theorem Inv.lst {pins : List (Addr × Obj)} {σ : St} {H : Hp} {s : Shared} {p : Addr} {xs : List V} (I : Inv X pins σ H s) (h : H p = some (.lst xs)) :
    ∃ (its : List Value) (n : Nat), Vals xs its ∧ s.heap.get? p = some { cls := .type "list", data := .seq its.toArray n } ∧ xs.length ≤ sizeLine := by
  obtain ⟨z, its, n, r, e⟩ := I.hok p _ h
  exact ⟨its, n, r, e, z⟩
/-- the list at p is written by an update of its object -/
theorem Inv.lstUpd {pins : List (Addr × Obj)} {σ : St} {H : Hp} {s : Shared} {p : Addr} {xs ys : List V} {its its' : List Value} {n n' : Nat} {f : Obj → Obj} (I : Inv X pins σ H s) (h : H p = some (.lst xs))
    (ho : s.heap.get? p = some { cls := .type "list", data := .seq its.toArray n }) (hf : f { cls := .type "list", data := .seq its.toArray n } = { cls := .type "list", data := .seq its'.toArray n' }) (r : Vals ys its') (hz : ys.length ≤ sizeLine) (t : Nat) :
    Inv X pins σ (upd H p (.lst ys)) { s with heap := s.heap.update p f, toks := t } := by
  have e : (s.heap.update p f).get? p = some { cls := .type "list", data := .seq its'.toArray n' } := by
    rw [Heap.get?_update_self f ho (by rw [hf] <;> rfl), hf]
  refine I.write (x := p) (e := p) (by rw [h]; trivial) (.inl rfl) (fun b u hb q => (Heap.get?_update_other _ _ (Ne.symm hb)).trans q) ⟨_, e⟩ ?_
  exact ⟨hz, its', n', r, e⟩
def rSetL : V → V → V → Hp → (Hp → Prop) → Prop := fun o i v H Q => ∃ p xs k j, o = .ref p ∧ i = .int k ∧ H p = some (.lst xs) ∧ ixN xs.length k = some j ∧ Q (upd H p (.lst (xs.set j v)))
theorem set_list : PSet X rSetL := by
  intro pins s σ H o i v ov iv u Q I ro ri rv h
  obtain ⟨p, xs, k, j, rfl, rfl, hp, hj, q⟩ := h
  cases ro
  obtain ⟨t, rfl⟩ := ri
  obtain ⟨its, n, r, ho, hz⟩ := I.lst hp
  obtain ⟨h1, h2, h3, h4⟩ := ixN_seq hj
  have hl := r.length
  have hn := line63
  have I' : Inv X pins σ (upd H p (.lst (xs.set j v))) { s with heap := s.heap.update p (Obj.mapSeq (·.setIfInBounds j u)) } :=
    I.lstUpd hp ho (mapSeq_set its n j u) (r.set rv j) (by rw [List.length_set]; exact hz) s.toks
  by_cases h0 : 0 ≤ k
  · have hk : k.toNat = j := by
      rw [seqIndex_of h0 h4] at h1
      exact Option.some.inj h1
    exact PySem.W.ki_setAt ho h0 (by omega) (by rw [List.size_toArray, ← hl]; exact h4) (by rw [hk]; exact ⟨_, I', q⟩)
  · have hk : (k + (its.toArray.size : Int)).toNat = j := by
      rw [seqIndex_neg (by omega) h3] at h1
      rw [List.size_toArray, ← hl]
      exact Option.some.inj h1
    exact PySem.W.ki_setBack ho (by omega) (by rw [List.size_toArray, ← hl]; exact h3) (by omega) (by rw [hk]; exact ⟨_, I', q⟩)

/-! ### slices -/
theorem slice_bounds (lo hi : Option Int) (n : Nat) : (sliceBounds lo hi none n).1 = ((HT.sIx n 0 lo : Nat) : Int) ∧ (sliceBounds lo hi none n).2.1 = ((HT.sIx n n hi : Nat) : Int) ∧ (sliceBounds lo hi none n).2.2 = 1 := by
  refine ⟨?_, ?_, rfl⟩
  · cases lo with
    | none => simp [sliceBounds, HT.sIx]
    | some i =>
      simp only [sliceBounds, HT.sIx, Option.getD_none, show (1 : Int) > 0 by decide, if_true]
      by_cases h : i < 0
      · simp only [h, if_true] <;> omega
      · simp only [h, if_false] <;> omega
  · cases hi with
    | none => simp [sliceBounds, HT.sIx]
    | some i =>
      simp only [sliceBounds, HT.sIx, Option.getD_none, show (1 : Int) > 0 by decide, if_true]
      by_cases h : i < 0
      · simp only [h, if_true] <;> omega
      · simp only [h, if_false] <;> omega
theorem slicePick_cut (its : List Value) (lo hi : Option Int) : slicePick its.toArray lo hi none = ((its.drop (HT.sIx its.length 0 lo)).take (HT.sIx its.length its.length hi - HT.sIx its.length 0 lo)).toArray := by
  obtain ⟨h1, h2, h3⟩ := slice_bounds lo hi its.toArray.size
  unfold slicePick
  rw [h1, h2, h3]
  simp only [sliceRange_one, pick_run, List.size_toArray] <;> rfl
/-- xs[lo:hi] of a list: a new list -/
def rSlL (K : PySem.W.Frag) : V → Option Int → Option Int → Hp → VK → Prop := fun x lo hi H Q => ∃ a xs, x = .ref a ∧ SqL K H a xs ∧ ∀ p, H p = none → Q (.ref p) (upd H p (.lst (cutV xs lo hi)))
theorem sl_list : SlR X (rSlL X.K) := by
  intro pins s σ H x v vl vu lo hi sl Q I rx hs pl pu h
  obtain ⟨a, xs, rfl, hx, q⟩ := h
  cases rx
  obtain ⟨its, r, ht, hz⟩ := I.list hx
  have hlen := r.length
  refine ⟨"list", _, slot_list_getitem.lookup, ht.isList.typeIs, ?_⟩
  refine wpAny_getItem_list_slice ht.isList hs pl pu .none (by simp) ?_ (by rw [List.size_toArray] <;> omega)
  rw [slicePick_cut, ← hlen]
  refine ⟨.ref s.heap.objs.size, _, I.laid (t' := s.toks) (o := .lst (cutV xs lo hi)) (fun b ob q => Heap.get?_push_of_some _ q) (Nat.le_refl _) ?_, rfl, q _ (I.hok.fresh (Nat.le_refl _))⟩
  exact ⟨Nat.le_trans (cutV_length xs lo hi) hz, _, 0, (r.drop (HT.sIx xs.length 0 lo)).take (HT.sIx xs.length xs.length hi - HT.sIx xs.length 0 lo), Heap.get?_push_size _ rfl⟩

/-! ### in, not in: flat items -/
def flatV : V → Bool
  | .non => true
  | .bl _ => true
  | .int _ => true
  | .str _ => true
  | _ => false
/-- == of flat values -/
def eqV : V → V → Bool
  | .non, .non => true
  | .bl a, .bl b => a == b
  | .bl a, .int b => (if a then 1 else 0) == b
  | .int a, .bl b => a == (if b then 1 else 0)
  | .int a, .int b => a == b
  | .str a, .str b => a == b
  | _, _ => false
/-- the items' answers, read off the values (a value's own answer does not lean on its token) -/
def eqU (x : V) (u : Value) : Bool := match u with
  | .none => eqV .non x
  | .bool b => eqV (.bl b) x
  | .int i _ => eqV (.int i) x
  | .str z _ => eqV (.str z) x
  | _ => false
def inV (x : V) (xs : List V) : Bool := xs.any fun y => eqV y x
/-- x in a list or tuple of flat items -/
def rIn (K : PySem.W.Frag) (neg : Bool) : R2 := fun x y H Q => ∃ p xs, y = .ref p ∧ (SqL K H p xs ∨ SqT K H p xs) ∧ flatV x = true ∧ xs.all flatV = true ∧ Q (.bl (if neg then !inV x xs else inV x xs)) H

/-! ### len, list(x), tuple(x) of any list or tuple that is read -/
theorem call_len_seq : CallR X (.builtin "len") (fun xs H Q => ∃ p ys, xs = [.ref p] ∧ (SqL X.K H p ys ∨ SqT X.K H p ys) ∧ Q (.int ys.length) H) := by
  intro pins s σ H xs us Q I r h
  obtain ⟨p, ys, rfl, hq, q⟩ := h
  obtain ⟨u, rfl, rx⟩ := vals1 r
  cases rx
  have hn := line63
  rcases hq with hq | hq
  · obtain ⟨its, r', pl, hz⟩ := I.list hq
    have hlen := r'.length
    exact Calls.call_len_list pl.isList (by simp only [List.size_toArray] <;> omega) ⟨.int ys.length, H, I.tok _, ⟨s.toks + 1, by rw [List.size_toArray, hlen]⟩, q⟩
  · obtain ⟨its, r', pl, hz⟩ := I.tuple hq
    have hlen := r'.length
    exact len_tuple pl (by simp only [List.size_toArray] <;> omega) ⟨.int ys.length, H, I.tok _, ⟨s.toks + 1, by rw [List.size_toArray, hlen]⟩, q⟩
theorem call_len_str : CallR X (.builtin "len") (fun xs H Q => ∃ z, xs = [.str z] ∧ z.length ≤ sizeLine ∧ Q (.int z.length) H) := by
  intro pins s σ H xs us Q I r h
  obtain ⟨z, rfl, hz, q⟩ := h
  obtain ⟨u, rfl, t, rfl⟩ := vals1 r
  have hn := line63
  exact len_str (by omega) ⟨.int z.length, H, I.tok _, ⟨_, rfl⟩, q⟩
theorem CallR.or {f : Value} {r r' : List V → Hp → VK → Prop} (h : CallR X f r) (h' : CallR X f r') : CallR X f (fun xs H Q => r xs H Q ∨ r' xs H Q) := by
  intro pins s σ H xs us Q I rs q
  rcases q with q | q
  · exact h pins s σ H xs us Q I rs q
  · exact h' pins s σ H xs us Q I rs q
theorem call_list_of : CallR X (.type "list") (fun xs H Q => ∃ p ys, xs = [.ref p] ∧ (SqL X.K H p ys ∨ SqT X.K H p ys) ∧ ∀ l, H l = none → Q (.ref l) (upd H l (.lst ys))) := by
  intro pins s σ H xs us Q I r h
  obtain ⟨p, ys, rfl, hq, q⟩ := h
  obtain ⟨u, rfl, rx⟩ := vals1 r
  cases rx
  have fin : ∀ (its : List Value), Vals ys its → ys.length ≤ sizeLine → ∀ (h' : Heap) (c' : Nat), (∀ b o', s.heap.get? b = some o' → h'.get? b = some o') →
      h'.get? s.heap.objs.size = some { cls := .type "list", dict := none, data := .seq its.toArray c', slots := #[] } → EP X pins σ Q (.ref s.heap.objs.size) { s with heap := h' } := fun its r' hz h' c' kp e =>
    ⟨.ref s.heap.objs.size, _, I.laid (t' := s.toks) kp (Nat.le_refl _) (show ObjOk X.prog X.w _ h' _ (.lst ys) from ⟨hz, its, c', r', e⟩), rfl, q _ (I.hok.fresh (Nat.le_refl _))⟩
  rcases hq with hq | hq
  · obtain ⟨its, r', pl, hz⟩ := I.list hq
    have hlen := r'.length
    obtain ⟨o, ho, hc, n, hd⟩ := pl.isList
    exact call_list_seq p (.inl rfl) ho hc hd (fun h' c' kp e => fin its r' hz h' c' kp e) (by simp only [List.size_toArray] <;> omega)
  · obtain ⟨its, r', pl, hz⟩ := I.tuple hq
    have hlen := r'.length
    obtain ⟨o, ho, hc, n, hd⟩ := pl
    exact call_list_seq p (.inr rfl) ho hc hd (fun h' c' kp e => fin its r' hz h' c' kp e) (by simp only [List.size_toArray] <;> omega)
theorem call_tuple_of : CallR X (.type "tuple") (fun xs H Q => ∃ p ys, xs = [.ref p] ∧ ((SqL X.K H p ys ∧ ∀ l, H l = none → Q (.ref l) (upd H l (.tup ys))) ∨ (SqT X.K H p ys ∧ Q (.ref p) H))) := by
  intro pins s σ H xs us Q I r h
  obtain ⟨p, ys, rfl, h⟩ := h
  obtain ⟨u, rfl, rx⟩ := vals1 r
  cases rx
  rcases h with ⟨hq, q⟩ | ⟨hq, q⟩
  · obtain ⟨its, r', pl, hz⟩ := I.list hq
    have hlen := r'.length
    refine call_tuple_list pl.isList (fun h' kp => ?_) (by simp only [List.size_toArray] <;> omega)
    have I1 : Inv X pins σ H { s with heap := h' } := I.kept (t' := s.toks) kp
    have I2 : Inv X pins σ (upd H h'.objs.size (.tup ys)) { s with heap := h'.push { cls := .type "tuple", data := .seq its.toArray } } :=
      I1.laid (t' := s.toks) (fun b o e => Heap.get?_push_of_some _ e) (Nat.le_refl _) (show ObjOk X.prog X.w _ _ _ (.tup ys) from ⟨hz, its, r', IsTup.new _ _⟩)
    exact ⟨.ref h'.objs.size, _, I2, rfl, q _ (I1.hok.fresh (Nat.le_refl _))⟩
  · obtain ⟨its, r', pl, hz⟩ := I.tuple hq
    exact call_tuple_same pl ⟨.ref p, H, I, rfl, q⟩

/-! ### the call of a builtin's method: o.m(..) -/
/-- the value is of that builtin type -/
def tyV (K : PySem.W.Frag) (T : String) (x : V) (H : Hp) : Prop := match x with
  | .str _ => T = "str"
  | .int _ => T = "int"
  | .ref p => (T = "list" ∧ ∃ xs, SqL K H p xs) ∨ (T = "tuple" ∧ ∃ o, K.lookup p = some o ∧ o.cls = .type "tuple" ∧ o.dict = none) ∨
      (T = "dict" ∧ ((∃ kvs, H p = some (.dK kvs)) ∨ ∃ kvs, H p = some (.dT kvs))) ∨ (T = "set" ∧ ∃ S n, H p = some (.set S n))
  | _ => False
theorem tyV_is {pins : List (Addr × Obj)} {σ : St} {H : Hp} {s : Shared} {T : String} {x : V} {v : Value} (I : Inv X pins σ H s) (r : RelV x v) (ty : tyV X.K T x H) :
    s.TypeIs v T ∧ ∀ a, v = .ref a → ∃ ob, s.heap.get? a = some ob ∧ ob.dict = none := by
  cases x with
  | str z =>
    obtain ⟨t, rfl⟩ := r
    cases (show T = "str" from ty)
    exact ⟨typeIs_str s z t, fun _ e => nomatch e⟩
  | int i =>
    obtain ⟨t, rfl⟩ := r
    cases (show T = "int" from ty)
    exact ⟨typeIs_int s i t, fun _ e => nomatch e⟩
  | ref p =>
    cases r
    rcases ty with ⟨rfl, xs, hq⟩ | ⟨rfl, o, hk, hc, hd⟩ | ⟨rfl, hk⟩ | ⟨rfl, S, n, hk⟩
    · obtain ⟨its, _, pl, _⟩ := I.list hq
      refine ⟨pl.isList.typeIs, fun a e => ?_⟩
      cases e
      obtain ⟨o, n, e, c, hd, _⟩ := pl
      exact ⟨o, e, hd⟩
    · refine ⟨⟨o, I.kIn p o hk, hc⟩, fun a e => ?_⟩
      cases e
      exact ⟨o, I.kIn _ o hk, hd⟩
    · have z : ∃ o, s.heap.get? p = some o ∧ o.ExactDict := by
        rcases hk with ⟨kvs, hk⟩ | ⟨kvs, hk⟩
        · obtain ⟨_, _, _, _, o, _, _, e, ex, _⟩ := I.hok p _ hk
          exact ⟨o, e, ex⟩
        · obtain ⟨_, _, _, _, o, _, _, e, ex, _⟩ := I.hok p _ hk
          exact ⟨o, e, ex⟩
      obtain ⟨o, e, ex⟩ := z
      refine ⟨⟨o, e, ex.1⟩, fun a e2 => ?_⟩
      cases e2
      exact ⟨o, e, ex.2.1⟩
    · obtain ⟨o, _, _, _, e, ex, _⟩ := I.hok p _ hk
      refine ⟨⟨o, e, ex.1⟩, fun a e2 => ?_⟩
      cases e2
      exact ⟨o, e, ex.2.1⟩
  | _ => exact False.elim ty
def tBM0 (K : PySem.W.Frag) (T : String) (r : V → List V → Hp → VK → Prop) (to : TE) : TE := fun σ H Q => to σ H fun x H1 => tyV K T x H1 ∧ r x [] H1 Q
def tBM (K : PySem.W.Frag) (T : String) (r : V → List V → Hp → VK → Prop) (to : TE) (t : TA) : TE := fun σ H Q => to σ H fun x H1 => tyV K T x H1 ∧ t σ H1 fun xs H2 => r x xs H2 Q
variable {o e : Expr} {es : List Expr} {to : TE} {t : TA} {name : Str} {apos cpos : Pos} {T id : String} {r : V → List V → Hp → VK → Prop}
theorem pe_bm (pa : PlainAttrs T) (slot : Slot T name id) (hty : typeOf (.builtin id) = pure (.type "method_descriptor")) (hm : MtR X id r) (ho : PE X o to) (ha : PA X (e :: es) t)
    (hbase : attributeBase o name X.env (eval o X.env) = eval o X.env := by rfl)
    (hfew : ((backTo cpos (starEach (e :: es) X.env)).all (fun x => !x.1) && (backToKw cpos (keywordEach [] X.env)).all (fun x => x.1.isSome)
      && decide ((e :: es).length + ([] : List Keyword).length + (if ([] : List Keyword).isEmpty then 0 else 1) < 30)) = true := by rfl)
    (hline : (apos.endLine == cpos.line) = true := by rfl) (hs : starEach (e :: es) X.env = (false, eval e X.env) :: starEach es X.env := by rfl) (hplain : (backTo cpos (starEach es X.env)).any (·.1) = false := by rfl) :
    PE X (.Call (.Attribute o name apos) (e :: es) [] cpos) (tBM X.K T r to t) := by
  intro pins s σ H Q I h
  refine wpAny_Call_method_late hbase hfew hline rfl (thn (ho pins s σ H _ I h) fun v s1 ⟨x, H1, I1, r1, ty, q1⟩ => ?_)
  obtain ⟨h1, h2⟩ := tyV_is I1 r1 ty
  refine ⟨T, id, pa, slot, hty, h1, h2, ?_⟩
  have hA := ha cpos pins s1 σ H1 _ I1 q1
  rw [hs] at hA ⊢
  refine Calls.callWith_builtin (by show (false || (backTo cpos (starEach es X.env)).any (·.1)) = false; rw [hplain] <;> rfl) (Calls.evalArgs_plain ?_)
  exact thn hA fun us s2 ⟨vs, H2, I2, r2, q2⟩ => hm pins s2 σ H2 x vs v us Q I2 r1 r2 q2
/- xs.append(e), list.index on a module's tuple .. are MtR facts of 06m -/
end
end L2

namespace L2
open PySem PySem.Spec PyProof.Rows

def MtM (X : Cx) (id : String) (r : V → List V → Hp → VK → Prop) : Prop :=
  ∀ (pins : List (Addr × Obj)) (s : Shared) (σ : St) (H : Hp) (x : V) (xs : List V) (v : Value) (us : List Value) (Q : VK), Inv X pins σ H s → RelV x v → Vals xs us → r x xs H Q →
    wpAny (model X.prog X.w) X.A (call (.builtin id) (v :: us)) (EP X pins σ Q) X.xe s

/-! ### lists of values -/
theorem Vals.one : ∀ {x : V} {us : List Value}, Vals [x] us → ∃ u, us = [u] ∧ RelV x u
  | _, _, .cons r .nil => ⟨_, rfl, r⟩
theorem Vals.two : ∀ {x y : V} {us : List Value}, Vals [x, y] us → ∃ u v, us = [u, v] ∧ RelV x u ∧ RelV y v
  | _, _, _, .cons r (.cons q .nil) => ⟨_, _, rfl, r, q⟩
theorem Vals.dropLast {xs : List V} {us : List Value} (h : Vals xs us) : Vals xs.dropLast us.dropLast := by
  induction h with
  | nil => exact .nil
  | cons r t ih =>
    cases t with
    | nil => exact .nil
    | cons q t' => exact .cons r ih
theorem Vals.eraseIdx : ∀ {xs : List V} {us : List Value} (i : Nat), Vals xs us → Vals (xs.eraseIdx i) (us.eraseIdx i)
  | _, _, _, .nil => .nil
  | _, _, 0, .cons _ t => t
  | _, _, i + 1, .cons r t => .cons r (Vals.eraseIdx i t)
theorem Vals.reverse {xs : List V} {us : List Value} (h : Vals xs us) : Vals xs.reverse us.reverse := by
  induction h with
  | nil => exact .nil
  | cons r t ih => rw [List.reverse_cons, List.reverse_cons]; exact Vals.append ih (.cons r .nil)
theorem len_erase {α : Type} : ∀ (l : List α) (i : Nat), (l.eraseIdx i).length ≤ l.length
  | [], _ => Nat.le_refl _
  | _ :: _, 0 => Nat.le_succ _
  | _ :: r, i + 1 => Nat.succ_le_succ (len_erase r i)

section
variable {X : Cx} {pins : List (Addr × Obj)} {σ : St} {H : Hp} {s : Shared} {l b : Addr} {xs ys zs : List V}

/-! ### the two steps: a tracked list is rewritten, a new list is laid -/
theorem Inv.lset {its its' : List Value} {n : Nat} {f : Array Value → Array Value} {t' : Nat} (I : Inv X pins σ H s) (hH : H l = some (.lst xs))
    (e : s.heap.get? l = some { cls := .type "list", data := .seq its.toArray n }) (hf : f its.toArray = its'.toArray) (hv : Vals ys its') (hz : ys.length ≤ sizeLine) :
    Inv X pins σ (upd H l (.lst ys)) { s with heap := s.heap.update l (Obj.mapSeq f), toks := t' } := by
  have q := PySem.IsL.update e f
  rw [hf] at q
  refine I.write (x := l) (e := l) (by rw [hH]; exact trivial) (.inl rfl) (fun b' u hb hu => (Heap.get?_update_other s.heap (Obj.mapSeq f) (Ne.symm hb)).trans hu) ⟨_, q⟩ ?_
  exact ⟨hz, its', _, hv, q⟩
theorem Inv.lnew {its : List Value} {t' : Nat} (I : Inv X pins σ H s) (hv : Vals ys its) (hz : ys.length ≤ sizeLine) :
    Inv X pins σ (upd H s.heap.objs.size (.lst ys)) { s with heap := s.heap.push { cls := .type "list", data := .seq its.toArray }, toks := t' } :=
  I.laid (fun _ _ q => Heap.get?_push_of_some _ q) (Nat.le_refl _) ⟨hz, its, 0, hv, Heap.get?_push_size _ rfl⟩
theorem Inv.fresh (I : Inv X pins σ H s) : H s.heap.objs.size = none := I.hok.fresh (Nat.le_refl _)
theorem Inv.lstM (I : Inv X pins σ H s) (hH : H l = some (.lst xs)) : xs.length ≤ sizeLine ∧ ∃ (its : List Value) (n : Nat), Vals xs its ∧ xs.length = its.length ∧ s.heap.get? l = some { cls := .type "list", data := .seq its.toArray n } := by
  obtain ⟨z, its, n, r, e⟩ := I.hok l _ hH
  exact ⟨z, its, n, r, r.length, e⟩

theorem notLongL {n : Nat} (h : n ≤ sizeLine) : Builtin.List.listTooLong n = false := by
  unfold Builtin.List.listTooLong
  exact decide_eq_false (by omega)
end

section
variable {X : Cx}

/-! ### methods -/
def rAppend : V → List V → Hp → VK → Prop := fun x vs H Q => ∃ l xs y, x = .ref l ∧ vs = [y] ∧ H l = some (.lst xs) ∧ xs.length < sizeLine ∧ Q .non (upd H l (.lst (xs ++ [y])))
theorem mt_append : MtM X "list.append" rAppend := by
  intro pins s σ H x vs v us Q I rx rv h
  obtain ⟨l, xs, y, rfl, rfl, hH, hz, q⟩ := h
  cases rx
  obtain ⟨u, rfl, ru⟩ := rv.one
  obtain ⟨z, its, n, r, hl, e⟩ := I.lstM hH
  refine call_meets F.slot_list_append ⟨_, e, rfl⟩ F.entry_list_append (F.args_list_append_2 _ _) (PySem.list_append l its.toArray n u (by rw [List.size_toArray]; omega)) ⟨e, ?_⟩
  refine ⟨.non, _, I.lset (its' := its ++ [u]) hH e (by simp) (r.append (.cons ru .nil)) ?_, rfl, q⟩
  rw [List.length_append, List.length_singleton]
  omega

def rExtend : V → List V → Hp → VK → Prop := fun x vs H Q => ∃ l b xs zs, x = .ref l ∧ vs = [.ref b] ∧ H l = some (.lst xs) ∧ H b = some (.lst zs) ∧ xs.length + zs.length ≤ sizeLine ∧ Q .non (upd H l (.lst (xs ++ zs)))
theorem mt_extend : MtM X "list.extend" rExtend := by
  intro pins s σ H x vs v us Q I rx rv h
  obtain ⟨l, b, xs, zs, rfl, rfl, hH, hB, hz, q⟩ := h
  cases rx
  obtain ⟨u, rfl, ru⟩ := rv.one
  cases ru
  obtain ⟨z, its, n, r, hl, e⟩ := I.lstM hH
  obtain ⟨z2, its2, n2, r2, hl2, e2⟩ := I.lstM hB
  have hsz : its.toArray.size + its2.toArray.size ≤ sizeLine := by rw [List.size_toArray, List.size_toArray]; omega
  have hlong : ¬ (!its.toArray.isEmpty && Builtin.List.listTooLong (its.toArray.size + its2.toArray.size)) = true := by
    rw [notLongL hsz, Bool.and_false]
    exact Bool.false_ne_true
  refine call_meets F.slot_list_extend ⟨_, e, rfl⟩ F.entry_list_extend (F.args_list_extend_2 _ _)
    (AutoSeq1.list_extend_list_list_0 l its.toArray n b its2.toArray n2 hlong (by rw [List.size_toArray]; omega) (by omega)) ⟨e, e2, ?_⟩
  refine ⟨.non, _, I.lset (its' := its ++ its2) hH e (by simp) (r.append r2) ?_, rfl, q⟩
  rw [List.length_append]
  omega

def rPop : V → List V → Hp → VK → Prop := fun x vs H Q => ∃ l xs y, x = .ref l ∧ vs = [] ∧ H l = some (.lst xs) ∧ xs[xs.length - 1]? = some y ∧ Q y (upd H l (.lst xs.dropLast))

def rPopAt : V → List V → Hp → VK → Prop := fun x vs H Q => ∃ l xs i k y, x = .ref l ∧ vs = [.int i] ∧ H l = some (.lst xs) ∧ -(2 ^ 63) ≤ i ∧ i < 2 ^ 63 ∧ seqIndex? i xs.length = some k ∧ xs[k]? = some y ∧ Q y (upd H l (.lst (xs.eraseIdx k)))
theorem mt_popAt : MtM X "list.pop" rPopAt := by
  intro pins s σ H x vs v us Q I rx rv h
  obtain ⟨l, xs, i, k, y, rfl, rfl, hH, h1, h2, hk, hy, q⟩ := h
  cases rx
  obtain ⟨u, rfl, ru⟩ := rv.one
  obtain ⟨t, rfl⟩ := ru
  obtain ⟨z, its, n, r, hl, e⟩ := I.lstM hH
  obtain ⟨w, hw, rw'⟩ := r.get hy
  refine call_meets F.slot_list_pop ⟨_, e, rfl⟩ F.entry_list_pop (F.args_list_pop_2 _ _)
    (MeetsSeq.list_pop_at l its.toArray n i t k w (fitsIndex_both h1 h2) (by rw [List.size_toArray, ← hl]; exact hk) (by rw [← Array.getElem?_toList]; exact hw) (by rw [List.size_toArray]; omega)) ⟨e, ?_⟩
  refine ⟨y, _, I.lset (its' := its.eraseIdx k) hH e ?_ (r.eraseIdx k) ?_, rw', q⟩
  · show its.toArray.eraseIdxIfInBounds k = (its.eraseIdx k).toArray
    rw [List.eraseIdxIfInBounds_toArray]
  · have := len_erase xs k
    omega

def rReverse : V → List V → Hp → VK → Prop := fun x vs H Q => ∃ l xs, x = .ref l ∧ vs = [] ∧ H l = some (.lst xs) ∧ Q .non (upd H l (.lst xs.reverse))

def rClear : V → List V → Hp → VK → Prop := fun x vs H Q => ∃ l xs, x = .ref l ∧ vs = [] ∧ H l = some (.lst xs) ∧ Q .non (upd H l (.lst []))

/-! ### list + list, list += list, list * int -/
def rCat : R2 := fun x y H Q => ∃ l b xs zs, x = .ref l ∧ y = .ref b ∧ H l = some (.lst xs) ∧ H b = some (.lst zs) ∧ xs.length + zs.length ≤ sizeLine ∧ ∀ p, H p = none → Q (.ref p) (upd H p (.lst (xs ++ zs)))
/-- a list times an int (a negative one is nothing) -/
def rRep : R2 := fun x y H Q => ∃ l k xs, x = .ref l ∧ y = .int k ∧ H l = some (.lst xs) ∧ -(2 ^ 63) ≤ k ∧ k < 2 ^ 63 ∧ xs.length * k.toNat ≤ sizeLine ∧
  ∀ p, H p = none → Q (.ref p) (upd H p (.lst (List.replicate k.toNat xs).flatten))

/-! ### del xs[i] -/
end

/-! ### xs[a:b] = ys -/
section
variable {prog : Program} {w : World} {A : Around} {E : Value → Shared → Prop} {s : Shared}
set_option maxRecDepth 100000 in
end

section
variable {X : Cx}
end
end L2

namespace L2
open PySem PySem.Spec PyProof.Rows

/-! ### lists of pairs as tables -/
section
variable {κ : Type} [DecidableEq κ]
def valV (kvs : List (κ × V)) (k : κ) : Option V := (kvs.find? fun kv => decide (kv.1 = k)).map (·.2)
/-- in its place, or at the end -/
def putK (kvs : List (κ × V)) (k : κ) (v : V) : List (κ × V) :=
  if (kvs.any fun kv => decide (kv.1 = k)) = true then kvs.map (fun kv => if kv.1 = k then (kv.1, v) else kv) else kvs ++ [(k, v)]
def dropK (kvs : List (κ × V)) (k : κ) : List (κ × V) := kvs.filter fun kv => decide (kv.1 ≠ k)

theorem valV_pos {p : κ × V} {r : List (κ × V)} {k : κ} (e : p.1 = k) : valV (p :: r) k = some p.2 := by simp [valV, List.find?_cons, e]
theorem valV_neg {p : κ × V} {r : List (κ × V)} {k : κ} (e : ¬ p.1 = k) : valV (p :: r) k = valV r k := by simp [valV, List.find?_cons, e]
theorem valV_any (k : κ) : ∀ kvs : List (κ × V), (kvs.any fun kv => decide (kv.1 = k)) = (valV kvs k).isSome
  | [] => rfl
  | p :: r => by
    rw [List.any_cons]
    by_cases e : p.1 = k
    · simp only [valV_pos e, decide_eq_true e, Bool.true_or, Option.isSome_some]
    · rw [valV_neg e, decide_eq_false e, Bool.false_or]; exact valV_any k r

theorem RelO.isSome_eq {o : Option V} {u : Option Value} (r : RelO o u) : o.isSome = u.isSome := by
  cases o with
  | none => cases u with
    | none => rfl
    | some _ => exact (show False from r).elim
  | some _ => cases u with
    | none => exact (show False from r).elim
    | some _ => rfl
theorem RelO.getD {o : Option V} {u : Option Value} {d : V} {d' : Value} (r : RelO o u) (rd : RelV d d') : RelV (o.getD d) (u.getD d') := by
  cases o with
  | none => cases u with
    | none => exact rd
    | some _ => exact (show False from r).elim
  | some _ => cases u with
    | none => exact (show False from r).elim
    | some _ => exact r

/-- raw tables of the same keys -/
theorem KV.val {kvs : List (κ × V)} {vs : List (κ × Value)} (r : KV kvs vs) (k : κ) : RelO (valV kvs k) (valueAt vs k) := by
  unfold KV at r
  induction r with
  | nil => exact True.intro
  | @cons p q ps qs h t ih =>
    obtain ⟨h1, h2⟩ := h
    by_cases e : p.1 = k
    · have e' : q.1 = k := h1.symm.trans e
      have b : valueAt (q :: qs) k = some q.2 := by simp [valueAt, List.find?_cons, e']
      rw [valV_pos e, b]; exact h2
    · have e' : ¬ q.1 = k := fun z => e (h1.trans z)
      have b : valueAt (q :: qs) k = valueAt qs k := by simp [valueAt, List.find?_cons, e']
      rw [valV_neg e, b]; exact ih
theorem KV.any {kvs : List (κ × V)} {vs : List (κ × Value)} (r : KV kvs vs) (k : κ) : (kvs.any fun kv => decide (kv.1 = k)) = vs.any fun kv => decide (kv.1 = k) := by
  unfold KV at r
  induction r with
  | nil => rfl
  | cons h t ih => rw [List.any_cons, List.any_cons, ih, h.1]
theorem KV.repl {kvs : List (κ × V)} {vs : List (κ × Value)} (r : KV kvs vs) (k : κ) {y : V} {u : Value} (ry : RelV y u) :
    KV (kvs.map fun kv => if kv.1 = k then (kv.1, y) else kv) (vs.map fun kv => if kv.1 = k then (kv.1, u) else kv) := by
  unfold KV at r ⊢
  induction r with
  | nil => exact .nil
  | @cons p q ps qs h t ih =>
    rw [List.map_cons, List.map_cons]
    refine .cons ?_ ih
    obtain ⟨h1, h2⟩ := h
    by_cases e : p.1 = k
    · rw [if_pos e, if_pos (h1.symm.trans e)]; exact ⟨h1, ry⟩
    · rw [if_neg e, if_neg (fun z => e (h1.trans z))]; exact ⟨h1, h2⟩
theorem KV.put {kvs : List (κ × V)} {vs : List (κ × Value)} (r : KV kvs vs) (k : κ) {y : V} {u : Value} (ry : RelV y u) : KV (putK kvs k y) (stored vs k u) := by
  unfold putK stored
  rw [r.any k]
  by_cases e : (vs.any fun kv => decide (kv.1 = k)) = true
  · rw [if_pos e, if_pos e]; exact r.repl k ry
  · rw [if_neg e, if_neg e]; exact Paired.snoc r ⟨rfl, ry⟩
theorem KV.drop {kvs : List (κ × V)} {vs : List (κ × Value)} (r : KV kvs vs) (k : κ) : KV (dropK kvs k) (without vs k) := by
  unfold KV at r ⊢
  unfold dropK without
  induction r with
  | nil => exact .nil
  | @cons p q ps qs h t ih =>
    obtain ⟨h1, h2⟩ := h
    rw [List.filter_cons, List.filter_cons]
    by_cases e : p.1 = k
    · have a : ¬ decide (p.1 ≠ k) = true := by simp [e]
      have b : ¬ decide (q.1 ≠ k) = true := by simp [h1.symm.trans e]
      rw [if_neg a, if_neg b]; exact ih
    · have e' : ¬ q.1 = k := fun z => e (h1.trans z)
      have a : decide (p.1 ≠ k) = true := by simp [e]
      have b : decide (q.1 ≠ k) = true := by simp [e']
      rw [if_pos a, if_pos b]; exact .cons ⟨h1, h2⟩ ih
theorem KV.keys {kvs : List (κ × V)} {vs : List (κ × Value)} (r : KV kvs vs) : kvs.map (·.1) = vs.map (·.1) := by
  unfold KV at r
  induction r with
  | nil => rfl
  | cons h t ih => rw [List.map_cons, List.map_cons, ih, h.1]
theorem KV.length {kvs : List (κ × V)} {vs : List (κ × Value)} (r : KV kvs vs) : kvs.length = vs.length := Paired.length r
end


/-! ### a tracked dict, its keys ints and texts or tuples of these -/
theorem kV_is {P : Program} {w : World} {k : Key} {u : Value} (r : RelV (kV k) u) : (mixKind P w).is k u = true := by
  cases k with
  | inl i => obtain ⟨t, e⟩ := (show ∃ t, u = Value.int i t from r); subst e; exact mixKind_int P w i t
  | inr x => obtain ⟨t, e⟩ := (show ∃ t, u = Value.str x t from r); subst e; exact mixKind_str P w x t

/-- raw entries of a dict with tuple keys -/
abbrev KT (H : Hp) : List (List Key × V) → List (List Key × Addr × Value) → Prop := Paired fun p q => p.1 = q.1 ∧ H q.2.1 = some (.tup (p.1.map kV)) ∧ RelV p.2 q.2.2
theorem KT.val {H : Hp} {kvs : List (List Key × V)} {xs : List (List Key × Addr × Value)} (r : KT H kvs xs) (k : List Key) : RelO (valV kvs k) ((atKey xs k).map (·.2)) := by
  induction r with
  | nil => exact True.intro
  | @cons p q ps qs h t ih =>
    obtain ⟨h1, _, h2⟩ := h
    by_cases e : p.1 = k
    · have e' : q.1 = k := h1.symm.trans e
      have b : atKey (q :: qs) k = some q.2 := by simp [atKey, List.find?_cons, e']
      rw [valV_pos e, b]; exact h2
    · have e' : ¬ q.1 = k := fun z => e (h1.trans z)
      have b : atKey (q :: qs) k = atKey qs k := by simp [atKey, List.find?_cons, e']
      rw [valV_neg e, b]; exact ih
theorem KT.repl {H : Hp} {kvs : List (List Key × V)} {xs : List (List Key × Addr × Value)} (r : KT H kvs xs) (k : List Key) {y : V} {u : Value} (ry : RelV y u) :
    KT H (kvs.map fun kv => if kv.1 = k then (kv.1, y) else kv) (xs.map (putAt k u)) := by
  induction r with
  | nil => exact .nil
  | @cons p q ps qs h t ih =>
    rw [List.map_cons, List.map_cons]
    refine .cons ?_ ih
    obtain ⟨h1, h2, h3⟩ := h
    unfold putAt
    by_cases e : p.1 = k
    · rw [if_pos e, if_pos (h1.symm.trans e)]; exact ⟨h1, h2, ry⟩
    · rw [if_neg e, if_neg (fun z => e (h1.trans z))]; exact ⟨h1, h2, h3⟩
theorem KT.put {H : Hp} {kvs : List (List Key × V)} {xs : List (List Key × Addr × Value)} (r : KT H kvs xs) (k : List Key) {b : Addr} {y : V} {u : Value} (hb : H b = some (.tup (k.map kV))) (ry : RelV y u) :
    KT H (putK kvs k y) (storedH xs k b u) := by
  have e : (kvs.any fun kv => decide (kv.1 = k)) = (atKey xs k).isSome := by
    rw [valV_any, (r.val k).isSome_eq, Option.isSome_map]
  unfold putK storedH
  rw [e]
  by_cases q : (atKey xs k).isSome = true
  · rw [if_pos q, if_pos q]; exact r.repl k ry
  · rw [if_neg q, if_neg q]; exact Paired.snoc r ⟨rfl, hb, ry⟩
theorem KT.keeps {H H' : Hp} {kvs : List (List Key × V)} {xs : List (List Key × Addr × Value)} (r : KT H kvs xs) (ht : ∀ b ys, H b = some (.tup ys) → H' b = some (.tup ys)) : KT H' kvs xs :=
  Paired.mapP r fun _ _ z => ⟨z.1, ht _ _ z.2.1, z.2.2⟩

section
variable {P : Program} {w : World} {H : Hp} {h : Heap} {a : Addr}
theorem rd_of {u : HO} (ok : HOk P w H h) (e : Rd H a u) : ObjOk P w H h a u := e.ok ok
theorem dk_rd {kvs : List (Key × V)} (ok : HOk P w H h) (e : Rd H a (.dK kvs)) : kvs.length ≤ sizeLine ∧ (a == sysModules) = false ∧ ∃ vs, KV kvs vs ∧ h.DictOf (mixKind P w) a vs :=
  show ObjOk P w H h a (.dK kvs) from rd_of ok e
end

/-- what the dict at a holds at the key y -/
def DGet (H : Hp) (a : Addr) (y : V) (r : Option V) : Prop :=
  (∃ kvs k, Rd H a (.dK kvs) ∧ y = kV k ∧ r = valV kvs k) ∨ ∃ kvs k b, Rd H a (.dT kvs) ∧ y = .ref b ∧ H b = some (.tup (k.map kV)) ∧ r = valV kvs k
/-- the heap behind a[y] = v -/
def DPut (H : Hp) (a : Addr) (y v : V) (H' : Hp) : Prop :=
  (∃ kvs k, H a = some (.dK kvs) ∧ y = kV k ∧ kvs.length < sizeLine ∧ H' = upd H a (.dK (putK kvs k v))) ∨
  ∃ kvs k b, H a = some (.dT kvs) ∧ y = .ref b ∧ H b = some (.tup (k.map kV)) ∧ kvs.length < sizeLine ∧ H' = upd H a (.dT (putK kvs k v))
theorem DGet.k {H : Hp} {a : Addr} {kvs : List (Key × V)} {k : Key} (e : H a = some (.dK kvs)) : DGet H a (kV k) (valV kvs k) := .inl ⟨kvs, k, .inl e, rfl, rfl⟩
theorem DGet.t {H : Hp} {a b : Addr} {kvs : List (List Key × V)} {k : List Key} (e : H a = some (.dT kvs)) (eb : H b = some (.tup (k.map kV))) : DGet H a (.ref b) (valV kvs k) := .inr ⟨kvs, k, b, .inl e, rfl, eb, rfl⟩
theorem DPut.k {H : Hp} {a : Addr} {kvs : List (Key × V)} {k : Key} {v : V} (e : H a = some (.dK kvs)) (hl : kvs.length < sizeLine) : DPut H a (kV k) v (upd H a (.dK (putK kvs k v))) := .inl ⟨kvs, k, e, rfl, hl, rfl⟩
theorem DPut.t {H : Hp} {a b : Addr} {kvs : List (List Key × V)} {k : List Key} {v : V} (e : H a = some (.dT kvs)) (eb : H b = some (.tup (k.map kV))) (hl : kvs.length < sizeLine) :
    DPut H a (.ref b) v (upd H a (.dT (putK kvs k v))) := .inr ⟨kvs, k, b, e, rfl, eb, hl, rfl⟩


section
variable {X : Cx} {pins : List (Addr × Obj)} {σ : St} {H : Hp} {s : Shared} {a : Addr} {y v : V} {u r : Value} {o : Option V} {A : Around} {E : Value → Shared → Prop}


end

section
variable {X : Cx} {pins : List (Addr × Obj)} {σ : St} {H : Hp} {s : Shared} {a : Addr} {kvs : List (Key × V)} {k : Key} {u : Value} {A : Around} {E : Value → Shared → Prop}
end


/-! ### readings and rules -/
/-- the element of a subscription, not a slice -/
def NoSl (i : Expr) : Prop := ∀ ov iv, subscripted i false ov iv = operate [ov, iv] (getItem ov iv)


/-- d[y] -/
def tDGet (td ty : TE) : TE := fun σ H Q => td σ H fun x H1 => ty σ H1 fun y H2 => ∃ a v, x = .ref a ∧ DGet H2 a y (some v) ∧ Q v H2
/-- y in d, y not in d -/
def tDIn (ty td : TE) : TE := fun σ H Q => ty σ H fun y H1 => td σ H1 fun x H2 => ∃ a o, x = .ref a ∧ DGet H2 a y o ∧ Q (.bl o.isSome) H2
def tDNotIn (ty td : TE) : TE := fun σ H Q => ty σ H fun y H1 => td σ H1 fun x H2 => ∃ a o, x = .ref a ∧ DGet H2 a y o ∧ Q (.bl (!o.isSome)) H2
/-- d[y] = v -/
def sDPut (td ty tv : TE) : TS := fun D σ H => tv σ H fun v H1 => td σ H1 fun x H2 => ty σ H2 fun y H3 => ∃ a H4, x = .ref a ∧ DPut H3 a y v H4 ∧ D.nx σ H4
/-- d[y] op= v -/
def sDAug (td ty tv : TE) (rd : V → V → Hp → VK → Prop) : TS := fun D σ H => td σ H fun x H1 => ty σ H1 fun y H2 => ∃ a v, x = .ref a ∧ DGet H2 a y (some v) ∧
  tv σ H2 fun y2 H3 => rd v y2 H3 fun z H4 => ∃ H5, DPut H4 a y z H5 ∧ D.nx σ H5
/-- del d[y] -/
def sDDel (td ty : TE) : TS := fun D σ H => td σ H fun x H1 => ty σ H1 fun y H2 => ∃ a kvs k, x = .ref a ∧ H2 a = some (.dK kvs) ∧ y = kV k ∧ (valV kvs k).isSome = true ∧ D.nx σ (upd H2 a (.dK (dropK kvs k)))

section
variable {X : Cx} {o i e value : Expr} {pos pos' tpos : Pos} {td ty tv : TE}
end


/-! ### displays -/
/-- {}, to be a dict of the kind that is wanted -/
def tDNewK : TE := fun _ H Q => ∀ p, H p = none → Q (.ref p) (upd H p (.dK []))
def tDNewT : TE := fun _ H Q => ∀ p, H p = none → Q (.ref p) (upd H p (.dT []))
section
variable {X : Cx} {pos : Pos}
end

/-- the pairs of a display, from the left -/
def tPairs : List (TE × TE) → St → Hp → (List (V × V) → Hp → Prop) → Prop
  | [], _, H, Q => Q [] H
  | (tk, tv) :: r, σ, H, Q => tk σ H fun x H1 => tv σ H1 fun y H2 => tPairs r σ H2 fun ps H3 => Q ((x, y) :: ps) H3
abbrev VV : List (V × V) → List (Value × Value) → Prop := Paired fun p q => RelV p.1 q.1 ∧ RelV p.2 q.2
def PPs (X : Cx) (pos : Pos) (keys : List (Option Expr)) (values : List Expr) (trs : List (TE × TE)) : Prop :=
  ∀ (pins : List (Addr × Obj)) (s : Shared) (σ : St) (H : Hp) (Q : List (V × V) → Hp → Prop), Inv X pins σ H s → tPairs trs σ H Q →
    wpAny (model X.prog X.w) X.A (evalPairs (pairTrees keys values X.env pos)) (fun vs s' => ∃ ps H', Inv X pins σ H' s' ∧ VV ps vs ∧ Q ps H') X.xe s

def mergeK (kvs more : List (Key × V)) : List (Key × V) := more.foldl (fun acc kv => putK acc kv.1 kv.2) kvs
/-- {k: v, ..} with keys ints and texts; the new dict stands empty while the pairs are made -/
def tDisp (trs : List (TE × TE)) : TE := fun σ H Q => ∀ p, H p = none → tPairs trs σ (upd H p (.dK [])) fun ps H2 => H2 p = some (.dK []) ∧ ∃ kvs : List (Key × V), ps = kvs.map (fun kv => (kV kv.1, kv.2)) ∧ kvs.length ≤ 15 ∧ Q (.ref p) (upd H2 p (.dK (mergeK [] kvs)))


/-! ### methods -/
/-- a method call o.m(e) of a built-in, with one argument: what must be seen of the text -/
structure M1 (X : Cx) (o : Expr) (m : Str) (apos : Pos) (e : Expr) (cpos : Pos) : Prop where
  base : attributeBase o m X.env (eval o X.env) = eval o X.env
  few : ((backTo cpos (starEach [e] X.env)).all (fun x => !x.1) && (backToKw cpos (keywordEach [] X.env)).all (fun x => x.1.isSome)
    && decide (([e] : List Expr).length + ([] : List Keyword).length + (if ([] : List Keyword).isEmpty then 0 else 1) < 30)) = true
  line : (apos.endLine == cpos.line) = true
  trees : backTo cpos (starEach [e] X.env) = [(false, eval e X.env)]
structure M2 (X : Cx) (o : Expr) (m : Str) (apos : Pos) (e f : Expr) (cpos : Pos) : Prop where
  base : attributeBase o m X.env (eval o X.env) = eval o X.env
  few : ((backTo cpos (starEach [e, f] X.env)).all (fun x => !x.1) && (backToKw cpos (keywordEach [] X.env)).all (fun x => x.1.isSome)
    && decide (([e, f] : List Expr).length + ([] : List Keyword).length + (if ([] : List Keyword).isEmpty then 0 else 1) < 30)) = true
  line : (apos.endLine == cpos.line) = true
  trees : backTo cpos (starEach [e, f] X.env) = [(false, eval e X.env), (false, eval f X.env)]

/-- a is a dict, whatever its keys -/
def IsD (H : Hp) (a : Addr) : Prop := (∃ kvs, Rd H a (.dK kvs)) ∨ ∃ kvs, Rd H a (.dT kvs)

section
variable {X : Cx} {pins : List (Addr × Obj)} {σ : St} {H : Hp} {s : Shared} {a : Addr} {y d : V} {u r : Value} {o : Option V} {A : Around} {E : Value → Shared → Prop}
end

def tDGet1 (td ty : TE) : TE := fun σ H Q => td σ H fun x H1 => ∃ a, x = .ref a ∧ IsD H1 a ∧ ty σ H1 fun y H2 => ∃ o, DGet H2 a y o ∧ Q (o.getD .non) H2
def tDGet2 (td ty tx : TE) : TE := fun σ H Q => td σ H fun x H1 => ∃ a, x = .ref a ∧ IsD H1 a ∧ ty σ H1 fun y H2 => tx σ H2 fun z H3 => ∃ o, DGet H3 a y o ∧ Q (o.getD z) H3
/-- d.pop(k): there; d.pop(k, x): there or not -/
def tDPop1 (td ty : TE) : TE := fun σ H Q => td σ H fun x H1 => ∃ a, x = .ref a ∧ IsD H1 a ∧ ty σ H1 fun y H2 => ∃ kvs k v, H2 a = some (.dK kvs) ∧ y = kV k ∧ valV kvs k = some v ∧ Q v (upd H2 a (.dK (dropK kvs k)))
def tDPop2 (td ty tx : TE) : TE := fun σ H Q => td σ H fun x H1 => ∃ a, x = .ref a ∧ IsD H1 a ∧ ty σ H1 fun y H2 => tx σ H2 fun z H3 => ∃ kvs k, H3 a = some (.dK kvs) ∧ y = kV k ∧
  (∀ v, valV kvs k = some v → Q v (upd H3 a (.dK (dropK kvs k)))) ∧ (valV kvs k = none → Q z H3)
section
variable {X : Cx} {o e f : Expr} {apos cpos : Pos} {td ty tx : TE}
end

/-! ### dict(d): a copy -/
section
variable {X : Cx} {pins : List (Addr × Obj)} {σ : St} {H : Hp} {s : Shared} {a : Addr} {kvs : List (Key × V)} {A : Around} {E : Value → Shared → Prop}
end


section
variable {X : Cx} {pins : List (Addr × Obj)} {σ : St} {H : Hp} {s : Shared} {a : Addr} {y : V} {u : Value} {A : Around} {E : Value → Shared → Prop}
end
end L2

namespace Att
open PySem PySem.W PySem.Calls PyProof.Rows

/-! ### the script -/
theorem ints_of_wellAll {P : Params} {h : Heap} : ∀ (ns : List Int) (vs : List Value), WellAll P h vs (ns.map WData.int) → IntsAre vs ns := by
  intro ns
  induction ns with
  | nil =>
    intro vs w
    rw [List.map_nil] at w
    cases w
    exact .nil
  | cons n ns ih =>
    intro vs w
    rw [List.map_cons] at w
    cases w with
    | cons a b =>
      cases a
      exact .cons _ _ (ih _ b)

theorem script_of {l : OpenLaw} {n : Nat} (hn : l.most = some n) {P : Params} {h : Heap} {args : List WData} {vals : List Value}
    (hpre : l.row.toRowW.claim.pre args = true) (hwl : WellAll P h vals args) :
    ∃ a vs ns, vals = [Value.ref a] ∧ args = [WData.list (ns.map WData.int)] ∧ h.get? a = some { cls := .type "list", data := .seq vs.toArray } ∧ IntsAre vs ns ∧ ns.length ≤ n := by
  have hsh : WShape.hasAll [] args [.list .int] = true := (pre_splitW hpre).1
  have hc : l.pre.holds [] { args := args } = true := (pre_splitW hpre).2
  obtain ⟨d, r, rfl, h1, h2⟩ := hasAllW_cons hsh
  obtain rfl := hasAllW_nil h2
  obtain ⟨xs, rfl, h3⟩ := hasW_list h1
  obtain ⟨ns, rfl⟩ := items_int h3
  have hlen : ns.length ≤ n := by
    unfold OpenLaw.pre at hc
    have h4 : (WTm.not (.lt (.lit (.int (n : Int))) (.len (.arg 0)))).holds [] { args := [.list (ns.map .int)] } = true := by
      have h4 := (holds_andW hc).1
      rw [hn] at h4
      exact h4
    have h5 := condW_of h4 (w_not (w_lt w_lit (w_len_list (w_arg rfl))))
    rw [List.length_map] at h5
    refine Nat.le_of_not_lt fun q => ?_
    have q' : (n : Int) < ((ns.length : Nat) : Int) := by omega
    first
      | (rw [decide_eq_true q'] at h5; exact absurd h5 (by decide))
      | (simp at h5; omega)
  cases hwl with
  | cons w1 w2 =>
    cases w2
    cases w1 with
    | list ho hall => exact ⟨_, _, ns, rfl, rfl, ho, ints_of_wellAll ns _ hall, hlen⟩

theorem post_true (l : OpenLaw) (args : List WData) : l.row.toRowW.claim.post args (.bool true) args = true :=
  postW_of (r := l.row.toRowW) (X := (true == true))
    (show WShape.has [] (.bool true) .bool = true by first | rfl | decide | simp [WShape.has, WShape.arms, WShape.armsAll])
    (show (WTm.eq .res (.lit (.bool true))).value [] { args := args, res := some (.bool true), after := args } = some (.bool (true == true)) from w_eq_bool (w_res rfl) w_lit) rfl

/-! ### the attachment: holds_open's last premise (the goal 'hc' behind k_head) from a wpAny of the law's body -/

/-- the same from a codeAny of the CALL (for a layer whose function contracts speak of calls) -/
theorem attach_call {l : OpenLaw} {n : Nat} {q : Program} {loose : List Str} {XP : (Str → Option Value) → Heap → Prop} {YP : World → Heap → Prop} {d : DefRec}
    (hn : l.most = some n) (hdf : d.params.defaults = [])
    (call : ∀ (w : World) (s₀ s₁ : Shared) (mg mb : Str → Option Value) (fa : Addr) (o : Obj) (pm cd doc : Value) (a : Addr) (vs : List Value) (ns : List Int),
      Ground q loose [] XP w s₀ mg mb s₁.heap → YP w s₁.heap →
      s₁.heap.get? fa = some o → o.data = .func (docDef d.name d.params d.body d.scope pm cd doc) → s₁.heap.CodeRec cd d.name → mg d.name = some (.ref fa) →
      s₁.heap.get? a = some { cls := .type "list", data := .seq vs.toArray } → IntsAre vs ns → ns.length ≤ n → s₁.gens = #[] →
      codeAny (model l.prog w) callerA (.call (.ref fa) ⟨[.ref a], []⟩) (fun r s' => r = .ok (.ret (.bool true)) ∧ OldK s₁.heap s'.heap ∧ s'.os = s₁.os ∧ AllBare s'.gens) s₁) :
    WalkO q loose XP YP l.row.toRowW d [] (fun f vs => PySem.call f vs) := by
  intro w s₀ s₁ mg mb G Y fa o pm cd doc dV kV ho hd hcd hD hmg hg args vals as hpre hlay hrd hwl hlo
  obtain rfl : dV = .none := Dflts.none hD hdf
  obtain rfl : kV = .none := Dflts.noKw hD
  obtain ⟨a, vs, ns, rfl, rfl, hobj, hints, hlen⟩ := script_of hn hpre hwl
  refine enter_call (codeAny_mono (call w s₀ s₁ mg mb fa o pm cd doc a vs ns G Y ho (fd_plain hd) hcd hmg hobj hints hlen hg) fun r s' hq => ?_)
  obtain ⟨rfl, h2, h3, h4⟩ := hq
  exact ⟨.inl ⟨.bool true, .bool true, [], rfl, fun _ => rfl, .bool true, post_true l _, fun _ => ⟨List.Pairwise.nil, fun _ hm => (nomatch hm)⟩⟩, h2, h3, h4⟩


/-! ### rules over ANY heap (no ledger) from facts about the written part K: the library's own take a ledger (News) for what they write -/
section
variable {prog : Program} {w : World} {A : Around} {E : Value → Shared → Prop} {s : Shared} {K : Frag}





/-! the whole heap as the ledger: makes every rule that writes through a ledger a rule over any heap -/
def noObjs (h : Heap) : Heap := { h with objs := #[] }
def ledger (h : Heap) (L d : Addr) : List (Addr × Obj) := (List.range h.objs.size).filterMap fun a => if a = L ∨ a = d then none else (h.get? a).map fun o => (a, o)

end
end Att

namespace L2
open PySem PySem.Spec PyProof.Rows

theorem vals_ints : ∀ {vs : List Value} {ns : List Int}, IntsAre vs ns → Vals (ns.map V.int) vs
  | _, _, .nil => .nil
  | _, _, .cons n t h => .cons ⟨t, rfl⟩ (vals_ints h)

/-- nothing is tracked but the script, known to the object (or it is an object of the module) -/
def Only (H : Hp) : Prop := ∀ b, H b = none ∨ ∃ o xs, H b = some (.frz o (.lst xs))

/-- THE HEAD: the law's promise, at the heap behind the top. F, the promise of the law's def, may use that base is part of the heap (so K.In base, base.Ns mainGlobals mg stand in Mod) -/
theorem law_call {P : Program} {w : World} {K : PySem.W.Frag} {mg mb : Str → Option Value} {CX : CXT} {k : Nat} {fa a : Addr} {fd : FuncData} {x : Str} {sp : Sp} {s₁ : Shared} {vs : List Value} {ns : List Int}
    (KX : K.In s₁.heap) (hns : s₁.heap.Ns mainGlobals mg) (hb : s₁.heap.Ns builtinsNs mb) (hbb : ∀ x : Str, x ≠ "__name__" → mb x = bootBuiltins x) (hlim : s₁.heap.NoLimit) (hg : s₁.gens = #[])
    (ha : s₁.heap.get? a = some { cls := .type "list", data := .seq vs.toArray }) (hi : IntsAre vs ns) (hl : ns.length ≤ sizeLine) (hr : Room k callerA)
    (F : ∀ base : Heap, K.In base → base.Ns mainGlobals mg → FnOk P w K mg base CX k fa fd [x] sp) (hbind : ∀ (s : Shared) (u : Value), BindsTo s fd ⟨[u], []⟩ [(x, u)])
    (hsp : ∀ H : Hp, Only H → SqL K H a (ns.map V.int) → sp [.ref a] H (fun v _ => v = .bl true) fun _ _ _ => False)
    (hCX : ∀ H e s', CX [] H s₁ (fun _ _ _ => False) e s' → False) :
    codeAny (model P w) callerA (.call (.ref fa) ⟨[.ref a], []⟩) (fun r s' => r = .ok (.ret (.bool true)) ∧ OldK s₁.heap s'.heap ∧ s'.os = s₁.os ∧ AllBare s'.gens) s₁ := by
  have rv := vals_ints hi
  have lenV := hi.length
  -- from an abstract heap in which nothing but the script may be tracked
  have core : ∀ H : Hp, Only H → SqL K H a (ns.map V.int) → HOk P w H s₁.heap → (∀ b, H b ≠ none → b = a) → (H a ≠ none → K.lookup a = none) →
      codeAny (model P w) callerA (.call (.ref fa) ⟨[.ref a], []⟩) (fun r s' => r = .ok (.ret (.bool true)) ∧ OldK s₁.heap s'.heap ∧ s'.os = s₁.os ∧ AllBare s'.gens) s₁ := by
    intro H hO hS hok hA hK
    have base_of : ∀ {b : Addr} {o : Obj}, s₁.heap.get? b = some o → H b = none → (hidT s₁.heap H).get? b = some o := fun e n => hidT_get e n
    have noA : ∀ {b : Addr} {o : Obj} {es : Array DictEntry} {ep : Nat}, s₁.heap.get? b = some o → o.data = .dict es ep → H b = none := fun {b o es ep} e d => by
      cases q : H b with
      | none => rfl
      | some u =>
        have e' : b = a := hA b (by rw [q]; simp)
        subst e'
        rw [ha] at e; cases e
        have d' : Data.seq vs.toArray _ = Data.dict es ep := d
        cases d'
    have nsK : ∀ {b : Addr} {m : Str → Option Value}, s₁.heap.Ns b m → (hidT s₁.heap H).Ns b m := fun {b m} ⟨o, es, ep, e, d, r⟩ => ⟨o, es, ep, base_of e (noA e d), d, r⟩
    have hKb : K.In (hidT s₁.heap H) := fun b o e => base_of (KX b o e) (by
      cases q : H b with
      | none => rfl
      | some u =>
        have e' : b = a := hA b (by rw [q]; simp)
        subst e'
        rw [hK (by rw [q]; simp)] at e; cases e)
    have hM : Mod K mg (hidT s₁.heap H) := ⟨hKb, nsK hns, ⟨mb, nsK hb, hbb⟩, let ⟨mc, h1, h2⟩ := hlim; ⟨mc, nsK h1, h2⟩⟩
    have e0 : Env0 P w K mg (hidT s₁.heap H) callerA [] s₁ H := ⟨rfl, hM, fun b o e => of_hidT e, Nat.le_of_eq (hidT_size _ _), trivial, fun b hb => absurd (show b ∈ ([] : List Addr) from hb) (by simp), hok, .of_eq hg⟩
    refine codeAny_mono ((F _ hKb (nsK hns)).run callerA [] s₁ H ⟨[.ref a], []⟩ [.ref a] [.ref a] _ _ hr e0 (hbind s₁ (.ref a)) (.cons rfl .nil) (hsp H hO hS)) fun r s' h => ?_
    cases r with
    | error e => exact (hCX H e s' h).elim
    | ok fl =>
      cases fl with
      | next => exact False.elim h
      | brk => exact False.elim h
      | cont => exact False.elim h
      | ret u =>
        obtain ⟨v, H', os, bare, un, hok', r', q⟩ := h
        have q' : v = .bl true := q
        subst q'
        obtain rfl : u = Value.bool true := r'
        refine ⟨rfl, OldK.of_keep fun b o e => ?_, os, bare⟩
        cases q : H b with
        | none => exact un.keep b o e q (by intro z; exact absurd (show b ∈ ([] : List Addr) from z) (by simp)) (by simp)
        | some u =>
          rcases hO b with z | ⟨ob, xs, z⟩
          · rw [q] at z; cases z
          · have z2 := un.frzs b ob _ z
            obtain ⟨e1, _⟩ := hok b _ z
            obtain ⟨e2, _⟩ := hok' b _ z2
            rw [e] at e1; cases e1
            exact e2
  cases hk : K.lookup a with
  | some o =>
    -- the script is one of the module's own objects
    have e := KX a o hk
    rw [ha] at e
    cases e
    refine core (fun _ => none) (fun _ => .inl rfl) (.inr ⟨_, vs.toArray, _, hk, rfl, rfl, rfl, by rw [List.size_toArray, lenV]; exact hl, by simpa using rv⟩) (fun b u z => by have z' : (none : Option HO) = some u := z; cases z') (fun b z => absurd rfl z) fun z => absurd rfl z
  | none =>
    refine core (fun b => if b = a then some (.frz { cls := .type "list", data := .seq vs.toArray } (.lst (ns.map V.int))) else none) (fun b => ?_) (.inl (.inr ⟨{ cls := .type "list", data := .seq vs.toArray }, if_pos rfl⟩)) (fun b u z => ?_) (fun b z => ?_) fun _ => hk
    · by_cases hb : b = a
      · exact .inr ⟨_, _, if_pos hb⟩
      · exact .inl (if_neg hb)
    · by_cases hb : b = a
      · have z' := (if_pos hb).symm.trans z
        cases z'
        subst hb
        exact ⟨ha, by rw [List.length_map]; exact hl, vs, _, rv, ha⟩
      · have z' := (if_neg hb).symm.trans z
        cases z'
    · by_cases hb : b = a
      · exact hb
      · exact absurd (if_neg hb) z
end L2

namespace L2
open PySem PySem.Spec PyProof.Rows

abbrev KOf {K : PySem.W.Frag} {h : Heap} (_ : K.In h) : PySem.W.Frag := K

/-- the goal that k_head leaves (case hc), from the law's promise. F gives the function object fd (K's own) once, then the promise over every base -/
theorem walk_of {l : PySem.W.OpenLaw} {n k : Nat} {q : Program} {loose : List Str} {XP : (Str → Option Value) → Heap → Prop} {YP : World → Heap → Prop} {d : DefRec} {K : Params → PySem.W.Frag} {CX : World → CXT} {sp : World → Sp} {x : Str}
    (hn : l.most = some n) (hn2 : n ≤ sizeLine) (hdf : d.params.defaults = []) (hr : Room k callerA)
    (hY : ∀ (w : World) (h : Heap), YP w h → (K w.params).In h)
    (F : ∀ (w : World) (mg : Str → Option Value) (fa : Addr) (h : Heap), (K w.params).In h → h.Ns mainGlobals mg → mg d.name = some (.ref fa) →
      ∃ fd : FuncData, (∀ (s : Shared) (u : Value), BindsTo s fd ⟨[u], []⟩ [(x, u)]) ∧
        ∀ base : Heap, (K w.params).In base → base.Ns mainGlobals mg → FnOk l.prog w (K w.params) mg base (CX w) k fa fd [x] (sp w))
    (hsp : ∀ (w : World) (H : Hp) (a : Addr) (ns : List Int), ns.length ≤ n → Only H → SqL (K w.params) H a (ns.map V.int) → sp w [.ref a] H (fun v _ => v = .bl true) fun _ _ _ => False)
    (hCX : ∀ (w : World) (H : Hp) (s : Shared) (e : Value) (s' : Shared), CX w [] H s (fun _ _ _ => False) e s' → False) :
    PySem.W.WalkO q loose XP YP l.row.toRowW d [] (fun f vs => PySem.call f vs) := by
  refine Att.attach_call hn hdf fun w s₀ s₁ mg mb fa o pm cd doc a vs ns G Y ho hd hcd hmg hobj hints hlen hg => ?_
  have KX := hY w _ Y
  obtain ⟨fd, hb, hF⟩ := F w mg fa _ KX G.T.g hmg
  exact law_call KX G.T.g G.T.b G.T.builtins G.T.nolimit hg hobj hints (Nat.le_trans hlen hn2) hr hF hb (fun H hO hS => hsp w H a ns hlen hO hS) fun H e s' => hCX w H s₁ e s'
end L2



/-! SHORT WORDS over the layer: a def of the text, its body, what a loop and a test want. -/
namespace L2
open PySem PySem.Spec PyProof.Rows

/-! ### the text by places -/
/-- the j-th statement of a class's body -/
def inClass (s : Stmt) (j : Nat) : Stmt := match s with
  | .ClassDef _ _ _ body _ _ _ _ _ _ _ => body.getD j (.Pass ⟨0, 0, 0, 0⟩)
  | _ => .Pass ⟨0, 0, 0, 0⟩
def defArgs (s : Stmt) : Arguments := match s with
  | .FunctionDef _ a _ _ _ _ _ _ _ _ => a
  | _ => { posonlyargs := [], args := [], vararg := none, kwonlyargs := [], kw_defaults := [], kwarg := none, defaults := [] }
def defBody (s : Stmt) : List Stmt := match s with
  | .FunctionDef _ _ b _ _ _ _ _ _ _ => b
  | _ => []
def defScope (s : Stmt) : Scope := match s with
  | .FunctionDef _ _ _ _ _ _ sc _ _ _ => sc
  | _ => { kind := .function, names := [], isGenerator := false, isCoroutine := false }

/-! ### no exception leaves a def -/
abbrev CX0 : CXT := fun _ _ _ _ _ _ => False
abbrev E0 : XK := fun _ _ _ => False
theorem pass0 {X : Cx} : Passes CX0 X E0 := fun _ _ _ _ _ _ _ h => h.elim

/-! ### a def (or method) of the text as it stands behind the top -/
structure Fun (K : PySem.W.Frag) (x qual : Str) (st : Stmt) (f : Addr) (fd : FuncData) : Prop where
  ex : ∃ (oc : Value) (od : Option Addr) (kV doc pm : Value) (an : Option Addr) (cdv ct : Value) (osl : Array (Option Value)),
    fd = PySem.W.fnOf x qual (defArgs st) (defBody st) (defScope st) .none kV doc pm an cdv ct ∧ K.lookup f = some ⟨oc, od, .func fd, osl⟩ ∧ PySem.W.codeIn K cdv qual = true
  kp : PySem.W.keepIn K (.ref f) = true
section
variable {P : Program} {w : World} {K : PySem.W.Frag} {mg : Str → Option Value} {base : Heap}
/-- THE RULE for a def: its body as a term of rules, and the reading of that term -/
theorem Fun.ok {x qual : Str} {st : Stmt} {f : Addr} {fd : FuncData} {N ps : List Str} {k : Nat} {sp : Sp} (F : Fun K x qual st f fd) (S : FnScope N ps (defScope st)) (len : ∀ vs H Q E, sp vs H Q E → vs.length = ps.length)
    (hbody : ∀ (cdv : Value) (A : Around) (outer : List Env) (s : Shared) (H : Hp) (vs : List V) (Q : VK) (E : XK), Room k (A.deeper (envOfC qual (defScope st) s.heap.objs.size f cdv)) → sp vs H Q E →
      ∃ t, PSs (cxOf CX0 P w K mg base N qual (defScope st) f cdv A outer s H E).nox (defBody st) t ∧ t { nx := fun _ H' => Q .non H', rt := Q } (start N vs) H) : FnOk P w K mg base CX0 (k + 1) f fd ps sp := by
  obtain ⟨oc, od, kV, doc, pm, an, cdv, ct, osl, rfl, lk, hcd⟩ := F.ex
  refine fn_of lk hcd S len fun A outer s H vs Q E hr hsp => ?_
  obtain ⟨t, h, q⟩ := hbody cdv A outer s H vs Q E hr hsp
  exact ⟨t, h.nox, q⟩
/-- how its arguments bind (no defaults): h is «fun _ _ _ _ _ _ us hl => match us, hl with | [_, _], _ => rfl», one _ a parameter -/
theorem Fun.binds {x qual : Str} {st : Stmt} {f : Addr} {fd : FuncData} {ps : List Str} (F : Fun K x qual st f fd)
    (h : ∀ (kV doc pm : Value) (an : Option Addr) (cdv ct : Value) (us : List Value), us.length = ps.length → bindArgs (PySem.W.fnOf x qual (defArgs st) (defBody st) (defScope st) .none kV doc pm an cdv ct) ⟨us, []⟩ = pure (ps.zip us)) : Binds K fd ps [] := by
  obtain ⟨oc, od, kV, doc, pm, an, cdv, ct, osl, rfl, lk, hcd⟩ := F.ex
  exact .all (h kV doc pm an cdv ct)
theorem fun_mk {x qual : Str} {st : Stmt} {f : Addr} {oc : Value} {od an : Option Addr} {osl : Array (Option Value)} {kV doc pm cdv ct : Value} (l : K.lookup f = some ⟨oc, od, .func (PySem.W.fnOf x qual (defArgs st) (defBody st) (defScope st) .none kV doc pm an cdv ct), osl⟩)
    (c : PySem.W.codeIn K cdv qual = true) (k : PySem.W.keepIn K (.ref f) = true) : Fun K x qual st f (PySem.W.fnOf x qual (defArgs st) (defBody st) (defScope st) .none kV doc pm an cdv ct) := ⟨⟨oc, od, kV, doc, pm, an, cdv, ct, osl, rfl, l, c⟩, k⟩
end

/-! ### expressions in short: the name that stands in the i-th slot -/
section
variable {X : Cx}
theorem pv (i : Nat) {x : Str} {pos : Pos} (hN : X.N[i]? = some x := by rfl) (hv : Vis X.env.scope x := by first | exact Or.inl rfl | exact Or.inr (Or.inl rfl) | exact Or.inr (Or.inr rfl)) (hd : (x == ("__debug__" : Str)) = false := by decide)
    (hcd : (x == ("__classdict__" : Str)) = false := by decide) : PE X (.Name x pos) (tVar i) := pe_var hN hv hd hcd
end

/-! ### tests -/

/-! ### heaps -/
/-- all that was tracked is as it was -/
def Same (H H' : Hp) : Prop := ∀ b o, H b = some o → H' b = some o
theorem Same.refl (H : Hp) : Same H H := fun _ _ h => h
theorem Same.trans {H H1 H2 : Hp} (a : Same H H1) (b : Same H1 H2) : Same H H2 := fun c o h => b c o (a c o h)
theorem Same.free {H H' : Hp} (e : Same H H') {l : Addr} (h : H' l = Option.none) : H l = Option.none := by
  cases q : H l with
  | none => rfl
  | some o =>
    rw [e l o q] at h
    cases h
theorem Same.seq {K : PySem.W.Frag} {H H' : Hp} {a : Addr} {xs : List V} (e : Same H H') (h : SqL K H a xs) : SqL K H' a xs := by
  rcases h with (h | ⟨o, h⟩) | h
  · exact .inl (.inl (e _ _ h))
  · exact .inl (.inr ⟨o, e _ _ h⟩)
  · exact .inr h

end L2
set_option Elab.async false
set_option linter.all false
set_option maxRecDepth 100000
namespace PL
open PySem PySem.Spec PySem.W
section
variable {prog : Program} {w : World} {A : Around} {E : Value → Shared → Prop} {h : Heap} {g : Array GenState} {d : Drawn} {t : Nat} {os : OsState} {a C : Addr} {o : Obj} {K : PySem.W.Frag}
/-- what is asked of the module's exception class at C -/
structure ExK (K : PySem.W.Frag) (C : Addr) : Prop where
  ga : findIn K (.ref C) "__getattribute__" = some (some (.builtin "BaseException.__getattribute__"))
  gt : findIn K (.ref C) "__getattr__" = some none
  cl : findIn K (.ref C) "__class__" = some (some (.builtin "object.__class__"))
  mB : mroIn K C (.type "BaseException") = some true
  mO : mroIn K C (.type "object") = some true
def ExAt (a C : Addr) (h : Heap) : Prop := ∃ o, h.get? a = some o ∧ o.cls = .ref C ∧ ∃ vs, o.data = .fields vs
end
end PL
set_option linter.all false
namespace PL
open PySem

/-- a key of a dict -/
abbrev Ky := Sum Int Str
/-- plain data, without a heap -/
inductive D where
  | non | bl (b : Bool) | int (i : Int) | str (x : Str)
  | tup (xs : List D) | lst (xs : List D) | dct (ks : List Ky) (vs : List D) | exn (c : Str) (ns : List Str) (vs : List D)
  deriving Inhabited, Repr

/-- a value, an exception, or: nothing is said -/
inductive R (α : Type) where
  | ok (a : α) | exc (x : D) | bad
  deriving Repr

namespace R
def bind {α β : Type} : R α → (α → R β) → R β
  | .ok a, f => f a
  | .exc x, _ => .exc x
  | .bad, _ => .bad
@[simp] theorem bind_ok {α β : Type} (a : α) (f : α → R β) : (R.ok a).bind f = f a := rfl
@[simp] theorem bind_exc {α β : Type} (x : D) (f : α → R β) : (R.exc x).bind f = .exc x := rfl
@[simp] theorem bind_bad {α β : Type} (f : α → R β) : (R.bad : R α).bind f = .bad := rfl
end R

/-- what a name holds: nothing, a value that is shared, a list or a dict that nobody else holds -/
inductive Slot where
  | un | sh (d : D) | ol (xs : List D) | od (ks : List Ky) (vs : List D) | on (xss : List (List D))
  deriving Inhabited, Repr
abbrev En := List Slot
abbrev Ex := En → R D
abbrev Tst := En → R Bool
/-- the most of items -/
abbrev szL : Nat := 16777216

/-! ### operations -/
mutual
@[simp] def eqD : D → D → Bool
  | .non, .non => true
  | .bl a, .bl b => a == b
  | .bl a, .int b => (if a then 1 else 0) == b
  | .int a, .bl b => a == (if b then 1 else 0)
  | .int a, .int b => a == b
  | .str a, .str b => decide (a = b)
  | .tup a, .tup b => eqDs a b
  | .lst a, .lst b => eqDs a b
  | _, _ => false
@[simp] def eqDs : List D → List D → Bool
  | [], [] => true
  | a :: as, b :: bs => eqD a b && eqDs as bs
  | _, _ => false
end
@[simp] def flat : D → Bool
  | .non => true
  | .bl _ => true
  | .int _ => true
  | .str _ => true
  | _ => false
mutual
/-- no dict within, and texts of true signs -/
def lay : D → Bool
  | .non => true
  | .bl _ => true
  | .int _ => true
  | .str x => x.cps.all (· < 0x110000)
  | .tup xs => lays xs
  | .lst xs => lays xs
  | _ => false
def lays : List D → Bool
  | [] => true
  | x :: xs => lay x && lays xs
end
mutual
def dep : D → Nat
  | .tup xs => deps xs + 1
  | .lst xs => deps xs + 1
  | _ => 0
def deps : List D → Nat
  | [] => 0
  | x :: xs => max (dep x) (deps xs)
end
/-- a dict against a text -/
@[simp] def dctStr : D → D → Bool
  | .dct _ _, .str _ => true
  | _, _ => false
/-- a tuple against the empty one -/
@[simp] def tupNil : D → D → Bool
  | .tup _, .tup [] => true
  | _, _ => false
/-- where == is told -/
def neOk (a b : D) : Bool := (flat a && flat b) || tupNil a b || (lay a && lay b && decide (min (dep a) (dep b) ≤ 60))
def eqOk (a b : D) : Bool := neOk a b || dctStr a b
theorem neOk_flat {a b : D} (ha : flat a = true) (hb : flat b = true) : neOk a b = true := by unfold neOk; rw [ha, hb]; rfl
theorem eqOk_flat {a b : D} (ha : flat a = true) (hb : flat b = true) : eqOk a b = true := by unfold eqOk; rw [neOk_flat ha hb]; rfl
@[simp] theorem neOk_bl_bl (a b : Bool) : neOk (.bl a) (.bl b) = true := neOk_flat rfl rfl
@[simp] theorem neOk_int_int (a b : Int) : neOk (.int a) (.int b) = true := neOk_flat rfl rfl
@[simp] theorem neOk_str_str (a b : Str) : neOk (.str a) (.str b) = true := neOk_flat rfl rfl
@[simp] theorem eqOk_dct_str (a : List Ky) (c : List D) (b : Str) : eqOk (.dct a c) (.str b) = true := by unfold eqOk; simp
@[simp] theorem eqOk_non_non : eqOk .non .non = true := eqOk_flat rfl rfl
@[simp] theorem eqOk_bl_bl (a b : Bool) : eqOk (.bl a) (.bl b) = true := eqOk_flat rfl rfl
@[simp] theorem eqOk_int_int (a b : Int) : eqOk (.int a) (.int b) = true := eqOk_flat rfl rfl
@[simp] theorem eqOk_str_str (a b : Str) : eqOk (.str a) (.str b) = true := eqOk_flat rfl rfl
@[simp] theorem eqOk_non_str (b : Str) : eqOk .non (.str b) = true := eqOk_flat rfl rfl
@[simp] theorem eqOk_int_str (a : Int) (b : Str) : eqOk (.int a) (.str b) = true := eqOk_flat rfl rfl
@[simp] theorem eqOk_bl_str (a : Bool) (b : Str) : eqOk (.bl a) (.str b) = true := eqOk_flat rfl rfl
@[simp] theorem eqOk_tup_nil (a : List D) : eqOk (.tup a) (.tup []) = true := by unfold eqOk neOk; simp
@[simp] def truth : D → R Bool
  | .non => .ok false
  | .bl b => .ok b
  | .int i => .ok (i != 0)
  | .str x => if x.length ≤ szL then .ok (x.length != 0) else .bad
  | .tup xs => .ok (!xs.isEmpty)
  | .lst xs => .ok (!xs.isEmpty)
  | .dct _ _ => .bad
  | .exn _ _ _ => .bad
/-- a place of any sign -/
def ixN (n : Nat) (i : Int) : Option Nat := if 0 ≤ i then (if i < n then some i.toNat else none) else if -(n : Int) ≤ i then some (i + n).toNat else none
def atI {α : Type} (xs : List α) (i : Int) : Option α := (ixN xs.length i).bind fun j => xs[j]?
/-- a slice's bound as a place among n (d where it is left out) -/
def sIx (n d : Nat) : Option Int → Nat
  | none => d
  | some v => if v < 0 then (v + (n : Int)).toNat else min v.toNat n
def cut {α : Type} (xs : List α) (lo hi : Option Int) : List α := (xs.drop (sIx xs.length 0 lo)).take (sIx xs.length xs.length hi - sIx xs.length 0 lo)
def inR (j : Int) : Bool := decide (-4611686018427387904 ≤ j) && decide (j < 4611686018427387904)
def okDiv (j : Int) : Bool := decide (0 < j) && decide (j < 340282366920938463463374607431768211456)
def okPow (j : Int) : Bool := decide (0 ≤ j) && decide (j ≤ 1000)
def small (i : Int) : Bool := decide (-18446744073709551616 < i) && decide (i < 18446744073709551616)
@[simp] def oAdd : D → D → R D
  | .int i, .int j => .ok (.int (i + j))
  | .str x, .str y => if x.length + y.length ≤ szL then .ok (.str (x ++ y)) else .bad
  | .lst x, .lst y => if x.length + y.length ≤ szL then .ok (.lst (x ++ y)) else .bad
  | .tup x, .tup y => if x.isEmpty = false ∧ x.length + y.length ≤ szL then .ok (.tup (x ++ y)) else .bad
  | _, _ => .bad
@[simp] def oSub : D → D → R D
  | .int i, .int j => .ok (.int (i - j))
  | _, _ => .bad
@[simp] def oMul : D → D → R D
  | .int i, .int j => if (small i || small j) = true then .ok (.int (i * j)) else .bad
  | _, _ => .bad
@[simp] def oRep : D → D → R D
  | .lst x, .int j => if 0 ≤ j ∧ j < 1000 ∧ x.length ≤ 1000 then .ok (.lst (List.replicate j.toNat x).flatten) else .bad
  | _, _ => .bad
@[simp] def oDiv : D → D → R D
  | .int i, .int j => if okDiv j = true then .ok (.int (i / j)) else .bad
  | _, _ => .bad
@[simp] def oMod : D → D → R D
  | .int i, .int j => if 0 < j then .ok (.int (i % j)) else .bad
  | _, _ => .bad
@[simp] def oPow : D → D → R D
  | .int i, .int j => if (okPow j && small i) = true then .ok (.int (i ^ j.toNat)) else .bad
  | _, _ => .bad
@[simp] def oNeg : D → R D
  | .int i => .ok (.int (-i))
  | _ => .bad
@[simp] def oEq (x y : D) : R D := if eqOk x y = true then .ok (.bl (eqD x y)) else .bad
@[simp] def oNe (x y : D) : R D := if neOk x y = true then .ok (.bl (!eqD x y)) else .bad
@[simp] def oLt : D → D → R D
  | .int i, .int j => .ok (.bl (decide (i < j)))
  | _, _ => .bad
@[simp] def oLe : D → D → R D
  | .int i, .int j => .ok (.bl (decide (i ≤ j)))
  | _, _ => .bad
@[simp] def oGt : D → D → R D
  | .int i, .int j => .ok (.bl (decide (j < i)))
  | _, _ => .bad
@[simp] def oGe : D → D → R D
  | .int i, .int j => .ok (.bl (decide (j ≤ i)))
  | _, _ => .bad
/-- is None, True, False -/
@[simp] def isNon : D → Bool
  | .non => true
  | _ => false
@[simp] def isBl (b : Bool) : D → Bool
  | .bl c => b == c
  | _ => false
@[simp] def oIsN (d : D) : R D := .ok (.bl (isNon d))
@[simp] def oNotN (d : D) : R D := .ok (.bl (!isNon d))
@[simp] def oIsB (b : Bool) : D → R D
  | .bl c => .ok (.bl (c == b))
  | _ => .bad
@[simp] def oNotB (b : Bool) : D → R D
  | .bl c => .ok (.bl (!(c == b)))
  | _ => .bad
/-- x in y of flat things, or of two texts -/
def subStr (x y : List Nat) : Bool := (List.range (y.length + 1)).any fun k => (y.drop k).take x.length == x
def keyOf : D → Option Ky
  | .int i => some (.inl i)
  | .str x => some (.inr x)
  | _ => none
def findK (k : Ky) : List Ky → List D → Option D
  | a :: ks, v :: vs => if a = k then some v else findK k ks vs
  | _, _ => none
@[simp] def oIn : D → D → R D
  | .str _, .str _ => .bad
  | x, .lst ys => if flat x = true ∧ ys.all flat = true then .ok (.bl (ys.any fun y => eqD y x)) else .bad
  | x, .tup ys => if flat x = true ∧ ys.all flat = true then .ok (.bl (ys.any fun y => eqD y x)) else .bad
  | x, .dct ks vs => match keyOf x with
    | some k => .ok (.bl (findK k ks vs).isSome)
    | none => .bad
  | _, _ => .bad
@[simp] def oNot : D → R D
  | .bl b => .ok (.bl (!b))
  | _ => .bad
@[simp] def oNotIn (x y : D) : R D := (oIn x y).bind oNot
@[simp] def oIxQ : D → D → R D
  | .lst xs, .int i => match atI xs i with
    | some v => .ok v
    | none => .bad
  | .tup xs, .int i => match atI xs i with
    | some v => .ok v
    | none => .bad
  | .str x, .int i => if x.length ≤ szL then match atI x.cps.toList i with
    | some c => .ok (.str ⟨#[c]⟩)
    | none => .bad else .bad
  | _, _ => .bad
/-- d[k] -/
@[simp] def oIxD : D → D → R D
  | .dct ks vs, k => match keyOf k with
    | some q => match findK q ks vs with
      | some v => .ok v
      | none => .bad
    | none => .bad
  | _, _ => .bad
@[simp] def oIx : D → D → R D
  | .lst xs, k => oIxQ (.lst xs) k
  | .tup xs, k => oIxQ (.tup xs) k
  | .str x, k => oIxQ (.str x) k
  | .dct ks vs, k => oIxD (.dct ks vs) k
  | _, _ => .bad
@[simp] def oSl (lo hi : Option Int) : D → R D
  | .lst xs => .ok (.lst (cut xs lo hi))
  | .tup xs => if sIx xs.length 0 lo = 0 ∧ sIx xs.length xs.length hi = xs.length then .bad else .ok (.tup (cut xs lo hi))
  | _ => .bad
/-- a part of a text -/
@[simp] def oSlT (lo hi : Option Int) : D → R D
  | .str x => if x.length ≤ szL then .ok (.str ⟨(cut x.cps.toList lo hi).toArray⟩) else .bad
  | _ => .bad
@[simp] def oLen : D → R D
  | .lst xs => .ok (.int xs.length)
  | .tup xs => .ok (.int xs.length)
  | .str x => if x.length ≤ szL then .ok (.int x.length) else .bad
  | _ => .bad
/-- the built-in kinds that isinstance asks for -/
inductive Ty where
  | int | bool | str | tuple | list | dict
  deriving Repr
@[simp] def oIsA : Ty → D → R D
  | .int, .int _ => .ok (.bl true)
  | .int, .bl _ => .ok (.bl true)
  | .bool, .bl _ => .ok (.bl true)
  | .str, .str _ => .ok (.bl true)
  | .tuple, .tup _ => .ok (.bl true)
  | .list, .lst _ => .ok (.bl true)
  | .dict, .dct _ _ => .ok (.bl true)
  | _, .exn _ _ _ => .bad
  | _, _ => .ok (.bl false)
@[simp] def oList : D → R D
  | .lst xs => .ok (.lst xs)
  | .tup xs => .ok (.lst xs)
  | _ => .bad
@[simp] def oTuple : D → R D
  | .lst xs => .ok (.tup xs)
  | .tup xs => .ok (.tup xs)
  | _ => .bad
/-- all(..) of a list of truths -/
def allB : List D → R D
  | [] => .ok (.bl true)
  | .bl b :: r => (allB r).bind fun z => match z with
    | .bl k => .ok (.bl (b && k))
    | _ => .bad
  | _ => .bad
@[simp] def oAll : D → R D
  | .lst xs => allB xs
  | _ => .bad
@[simp] def oInt : D → R D
  | .int i => .ok (.int i)
  | .bl b => .ok (.int (if b then 1 else 0))
  | _ => .bad
@[simp] def oStr : D → R D
  | .int i => if 0 ≤ i ∧ i < 10 ^ 100 then .ok (.str (Str.ofString (toString i))) else .bad
  | _ => .bad
@[simp] def oMin : D → D → R D
  | .int i, .int j => .ok (.int (if j < i then j else i))
  | _, _ => .bad
/-- s.find(t), NAMES.index(x) -/
def findS (x : List Nat) : Nat → List Nat → Option Nat
  | k, [] => if x = [] then some k else none
  | k, c :: r => if (c :: r).take x.length = x then some k else findS x (k + 1) r
@[simp] def oFind : D → D → R D
  | .str y, .str x => .ok (.int (match findS x.cps.toList 0 y.cps.toList with
    | some k => (k : Int)
    | none => -1))
  | _, _ => .bad
def indexD (x : D) : Nat → List D → R D
  | _, [] => .bad
  | k, y :: r => if eqD y x = true then .ok (.int k) else indexD x (k + 1) r
@[simp] def oIndex : D → D → R D
  | .tup ys, x => if flat x = true ∧ ys.all flat = true then indexD x 0 ys else .bad
  | .lst ys, x => if flat x = true ∧ ys.all flat = true then indexD x 0 ys else .bad
  | _, _ => .bad
/-- s.join(xs) -/
def strsOf : List D → Option (List Str)
  | [] => some []
  | .str x :: r => (strsOf r).map (x :: ·)
  | _ => none
@[simp] def oJoin : D → D → R D
  | .str x, .lst ys => match strsOf ys with
    | some zs => if (Str.join x zs).length ≤ szL then .ok (.str (Str.join x zs)) else .bad
    | none => .bad
  | _, _ => .bad
/-- d.get(k), d.get(k, e) -/
@[simp] def oGet (e : D) : D → D → R D
  | .dct ks vs, k => match keyOf k with
    | some q => .ok ((findK q ks vs).getD e)
    | none => .bad
  | _, _ => .bad

/-! ### expressions -/
@[simp] def eVar (i : Nat) : Ex := fun ρ => match ρ[i]? with
  | some (.sh d) => .ok d
  | _ => .bad
@[simp] def eC (d : D) : Ex := fun _ => .ok d
@[simp] def e1 (g : D → R D) (a : Ex) : Ex := fun ρ => (a ρ).bind g
@[simp] def e2 (g : D → D → R D) (a b : Ex) : Ex := fun ρ => (a ρ).bind fun x => (b ρ).bind fun y => g x y
@[simp] def eAnd (a b : Ex) : Ex := fun ρ => (a ρ).bind fun x => match x with
  | .bl true => b ρ
  | .bl false => .ok (.bl false)
  | _ => .bad
@[simp] def eOr (a b : Ex) : Ex := fun ρ => (a ρ).bind fun x => match x with
  | .bl true => .ok (.bl true)
  | .bl false => b ρ
  | _ => .bad
@[simp] def eIf (c : Tst) (a b : Ex) : Ex := fun ρ => (c ρ).bind fun t => if t = true then a ρ else b ρ
@[simp] def eList : List Ex → En → R (List D)
  | [], _ => .ok []
  | e :: es, ρ => (e ρ).bind fun x => (eList es ρ).bind fun xs => .ok (x :: xs)
@[simp] def eTup (es : List Ex) : Ex := fun ρ => (eList es ρ).bind fun xs => .ok (.tup xs)
@[simp] def eLst (es : List Ex) : Ex := fun ρ => (eList es ρ).bind fun xs => .ok (.lst xs)
@[simp] def eCall (f : List D → R D) (es : List Ex) : Ex := fun ρ => (eList es ρ).bind f
/-- a op b op' c -/
@[simp] def eChain (g h : D → D → R D) (a b c : Ex) : Ex := fun ρ => (a ρ).bind fun x => (b ρ).bind fun y => (g x y).bind fun z => match z with
  | .bl true => (c ρ).bind fun w => h y w
  | .bl false => .ok (.bl false)
  | _ => .bad
/-- a display of a dict with written keys that differ -/
@[simp] def eDict (ks : List Ky) (es : List Ex) : Ex := fun ρ => (eList es ρ).bind fun xs => .ok (.dct ks xs)
@[simp] def eOpt : Option Ex → En → R (Option Int)
  | none, _ => .ok none
  | some e, ρ => (e ρ).bind fun x => match x with
    | .int i => .ok (some i)
    | _ => .bad
@[simp] def eSl (a : Ex) (lo hi : Option Ex) : Ex := fun ρ => (a ρ).bind fun x => (eOpt lo ρ).bind fun l => (eOpt hi ρ).bind fun u => oSl l u x
/-- tests -/
@[simp] def tV (a : Ex) : Tst := fun ρ => (a ρ).bind truth
@[simp] def tAnd (a b : Tst) : Tst := fun ρ => (a ρ).bind fun t => if t = true then b ρ else .ok false
@[simp] def tOr (a b : Tst) : Tst := fun ρ => (a ρ).bind fun t => if t = true then .ok true else b ρ
@[simp] def tNot (a : Tst) : Tst := fun ρ => (a ρ).bind fun t => .ok (!t)
/-- the owned list in slot i: its length, an item, a copy -/
@[simp] def eLenO (i : Nat) : Ex := fun ρ => match ρ[i]? with
  | some (.ol xs) => .ok (.int xs.length)
  | some (.od ks _) => .ok (.int ks.length)
  | _ => .bad
@[simp] def eIxO (i : Nat) (e : Ex) : Ex := fun ρ => (e ρ).bind fun x => match ρ[i]? with
  | some (.ol xs) => oIx (.lst xs) x
  | some (.od ks vs) => oIxD (.dct ks vs) x
  | _ => .bad
@[simp] def eLenL (i : Nat) : Ex := fun ρ => match ρ[i]? with
  | some (.ol xs) => .ok (.int xs.length)
  | _ => .bad
/-- an item of the owned list in slot i -/
@[simp] def eIxL (i : Nat) (e : Ex) : Ex := fun ρ => (e ρ).bind fun x => match ρ[i]? with
  | some (.ol xs) => oIxQ (.lst xs) x
  | _ => .bad
/-! ### what a loop walks -/
abbrev Itr := En → R (List D)
@[simp] def items : D → R (List D)
  | .lst xs => .ok xs
  | .tup xs => .ok xs
  | .str x => .ok (x.cps.toList.map fun c => .str ⟨#[c]⟩)
  | _ => .bad
@[simp] def iSeq (a : Ex) : Itr := fun ρ => (a ρ).bind items
def rangeL (i j : Int) : List D := (List.range (j - i).toNat).map fun (k : Nat) => .int (i + (k : Int))
@[simp] def iRng1 (a : Ex) : Itr := fun ρ => (a ρ).bind fun x => match x with
  | .int j => if inR j = true then .ok (rangeL 0 j) else .bad
  | _ => .bad
@[simp] def iRng2 (a b : Ex) : Itr := fun ρ => (a ρ).bind fun x => (b ρ).bind fun y => match x, y with
  | .int i, .int j => if (inR i && inR j) = true then .ok (rangeL i j) else .bad
  | _, _ => .bad
@[simp] def zipD : List D → List D → List D
  | x :: xs, y :: ys => .tup [x, y] :: zipD xs ys
  | _, _ => []
@[simp] def iZip (a b : Ex) : Itr := fun ρ => (a ρ).bind fun x => (b ρ).bind fun y => (items x).bind fun xs => (items y).bind fun ys => .ok (zipD xs ys)
@[simp] def enumD : Nat → List D → List D
  | _, [] => []
  | k, x :: xs => .tup [.int k, x] :: enumD (k + 1) xs
@[simp] def iEnum (a : Ex) : Itr := fun ρ => (a ρ).bind fun x => (items x).bind fun xs => .ok (enumD 0 xs)
/-! ### targets -/
abbrev Tgt := D → En → R En
@[simp] def gName (i : Nat) : Tgt := fun d ρ => .ok (ρ.set i (.sh d))
@[simp] def gNames : List Nat → List D → En → R En
  | [], [], ρ => .ok ρ
  | i :: is, d :: ds, ρ => gNames is ds (ρ.set i (.sh d))
  | _, _, _ => .bad
@[simp] def gTup (is : List Nat) : Tgt := fun d ρ => match d with
  | .tup ds => gNames is ds ρ
  | _ => .bad
/-! ### comprehensions -/
/-- a name that a comprehension reads -/
@[simp] def shOnly : Option Slot → Slot
  | some (.sh d) => .sh d
  | _ => .un
@[simp] def frees (ρ : En) (fv : List Nat) : En := fv.map fun i => shOnly ρ[i]?
def compL (tg : Tgt) (cs : List Tst) (el : Ex) (ρ : En) : List D → R (List D)
  | [] => .ok []
  | d :: ds => (tg d ρ).bind fun ρ1 => (allT cs ρ1).bind fun t =>
    if t = true then (el ρ1).bind fun y => (compL tg cs el ρ ds).bind fun ys => .ok (y :: ys) else compL tg cs el ρ ds
where allT : List Tst → En → R Bool
  | [], _ => .ok true
  | c :: cs, ρ => (c ρ).bind fun t => if t = true then allT cs ρ else .ok false
/-- n: how many names the target binds; fv: the slots of the free names -/
@[simp] def eComp (it : Itr) (n : Nat) (fv : List Nat) (tg : Tgt) (cs : List Tst) (el : Ex) : Ex := fun ρ => (it ρ).bind fun ds =>
  if ds.length ≤ szL then (compL tg cs el (List.replicate n .un ++ frees ρ fv) ds).bind fun ys => .ok (.lst ys) else .bad

/-! ### statements -/
inductive Fl where
  | next (ρ : En) | ret (d : D) | brk (ρ : En) | cont (ρ : En) | retN (d : D)
  deriving Repr
abbrev Sm := En → R Fl
@[simp] def sNil : Sm := fun ρ => .ok (.next ρ)
@[simp] def sSeq (a b : Sm) : Sm := fun ρ => (a ρ).bind fun f => match f with
  | .next ρ' => b ρ'
  | f => .ok f
@[simp] def sBlk : List Sm → Sm
  | [] => sNil
  | a :: r => sSeq a (sBlk r)
@[simp] def sIf (c : Tst) (a b : Sm) : Sm := fun ρ => (c ρ).bind fun t => if t = true then a ρ else b ρ
@[simp] def sAsg (g : Tgt) (e : Ex) : Sm := fun ρ => (e ρ).bind fun d => (g d ρ).bind fun ρ' => .ok (.next ρ')
@[simp] def sRet (e : Ex) : Sm := fun ρ => (e ρ).bind fun d => .ok (.ret d)
@[simp] def sRetN : Sm := fun _ => .ok (.ret .non)
@[simp] def sDrop (e : Ex) : Sm := fun ρ => (e ρ).bind fun _ => .ok (.next ρ)
@[simp] def sNever : Sm := fun _ => .bad
/-- a new list of one's own -/
@[simp] def sOwnL (i : Nat) (e : Ex) : Sm := fun ρ => (e ρ).bind fun d => match d with
  | .lst xs => .ok (.next (ρ.set i (.ol xs)))
  | _ => .bad
@[simp] def sOwnD (i : Nat) (e : Ex) : Sm := fun ρ => (e ρ).bind fun d => match d with
  | .dct ks vs => .ok (.next (ρ.set i (.od ks vs)))
  | _ => .bad
@[simp] def sFreeze (i : Nat) : Sm := fun ρ => match ρ[i]? with
  | some (.ol xs) => .ok (.next (ρ.set i (.sh (.lst xs))))
  | some (.od ks vs) => .ok (.next (ρ.set i (.sh (.dct ks vs))))
  | _ => .bad
@[simp] def sAppend (i : Nat) (e : Ex) : Sm := fun ρ => (e ρ).bind fun d => match ρ[i]? with
  | some (.ol xs) => if xs.length < szL then .ok (.next (ρ.set i (.ol (xs ++ [d])))) else .bad
  | _ => .bad
@[simp] def sSetO (i : Nat) (k e : Ex) : Sm := fun ρ => (e ρ).bind fun d => (k ρ).bind fun q => match ρ[i]?, q with
  | some (.ol xs), .int j => match ixN xs.length j with
    | some m => .ok (.next (ρ.set i (.ol (xs.set m d))))
    | none => .bad
  | _, _ => .bad
def putK (k : Ky) (d : D) : List Ky → List D → List Ky × List D
  | a :: ks, v :: vs => if a = k then (a :: ks, d :: vs) else ((a :: (putK k d ks vs).1), (v :: (putK k d ks vs).2))
  | _, _ => ([k], [d])
@[simp] def sPutO (i : Nat) (k e : Ex) : Sm := fun ρ => (e ρ).bind fun d => (k ρ).bind fun q => match ρ[i]?, keyOf q with
  | some (.od ks vs), some y => if ks.length < 1000 then .ok (.next (ρ.set i (.od (putK y d ks vs).1 (putK y d ks vs).2))) else .bad
  | _, _ => .bad
def forL (tg : Tgt) (body : Sm) : List D → En → R Fl
  | [], ρ => .ok (.next ρ)
  | d :: ds, ρ => (tg d ρ).bind fun ρ1 => (body ρ1).bind fun f => match f with
    | .next ρ2 => forL tg body ds ρ2
    | .cont ρ2 => forL tg body ds ρ2
    | .brk ρ2 => .ok (.next ρ2)
    | .ret d => .ok (.ret d)
    | .retN d => .ok (.retN d)
@[simp] def sFor (it : Itr) (tg : Tgt) (body : Sm) : Sm := fun ρ => (it ρ).bind fun ds => forL tg body ds ρ
/-- a def: its number of names, its body -/
@[simp] def fn (n : Nat) (body : Sm) : List D → R D := fun ds => (body (ds.map .sh ++ List.replicate (n - ds.length) .un)).bind fun f => match f with
  | .ret d => .ok d
  | .next _ => .ok .non
  | _ => .bad
/-- a def that returns a list of its own -/
@[simp] def sRetO (i : Nat) : Sm := fun ρ => match ρ[i]? with
  | some (.ol xs) => .ok (.retN (.lst xs))
  | _ => .bad
@[simp] def fnN (n : Nat) (body : Sm) : List D → R D := fun ds => (body (ds.map .sh ++ List.replicate (n - ds.length) .un)).bind fun f => match f with
  | .retN (.lst xs) => .ok (.lst xs)
  | _ => .bad
end PL
set_option Elab.async false
set_option linter.all false
set_option maxRecDepth 100000
namespace PL
open PySem PySem.Spec
open L2 (V Hp HO Cx PE PT PW PA PS PSs St VK TE TT TA TS TI Inv RelV Vals Rd SqL SqT upd Same Key XK Ends)

/-! ### data borne by the heap -/
/-- the module: its written part, the program, the world -/
structure Md where
  K : PySem.W.Frag
  P : Program
  w : World
abbrev mdOf (X : Cx) : Md := ⟨X.K, X.prog, X.w⟩
/-- a list that is read: tracked and nobody's own, or an object of the module -/
def LsR (M : Md) (H : Hp) (F : Addr → Prop) (a : Addr) (xs : List V) : Prop :=
  (¬ F a ∧ Rd H a (.lst xs)) ∨ ∃ (o : Obj) (its : Array Value) (n : Nat), M.K.lookup a = some o ∧ o.cls = .type "list" ∧ o.dict = none ∧ o.data = .seq its n ∧ its.size ≤ sizeLine ∧ Vals xs its.toList
def TpR (M : Md) (H : Hp) (F : Addr → Prop) (a : Addr) (xs : List V) : Prop :=
  (¬ F a ∧ Rd H a (.tup xs)) ∨ ∃ (o : Obj) (its : Array Value) (n : Nat), M.K.lookup a = some o ∧ o.cls = .type "tuple" ∧ o.data = .seq its n ∧ its.size ≤ sizeLine ∧ Vals xs its.toList
def DcR (M : Md) (H : Hp) (F : Addr → Prop) (a : Addr) (kvs : List (Key × V)) : Prop :=
  (¬ F a ∧ Rd H a (.dK kvs)) ∨ ∃ (o : Obj) (es : Array DictEntry) (ep : Nat) (vs : List (Key × Value)), M.K.lookup a = some o ∧ o.ExactDict ∧ o.data = .dict es ep ∧ KeysOf (L2.mixKind M.P M.w) es ∧ Pairs (L2.mixKind M.P M.w) es.toList vs ∧
    (vs.map (·.1)).Nodup ∧ L2.KV kvs vs ∧ kvs.length ≤ sizeLine ∧ (a == sysModules) = false
theorem LsR.sq {M : Md} {H : Hp} {F : Addr → Prop} {a : Addr} {xs : List V} (h : LsR M H F a xs) : SqL M.K H a xs := h.elim (fun h => .inl h.2) .inr
theorem TpR.sq {M : Md} {H : Hp} {F : Addr → Prop} {a : Addr} {xs : List V} (h : TpR M H F a xs) : SqT M.K H a xs := h.elim (fun h => .inl h.2) .inr
/-- an exception of a class of the module's -/
def exO (a C : Addr) : HO := .ext fun h => ∃ o, h.get? a = some o ∧ o.cls = .ref C ∧ ∃ vs, o.data = .fields vs
mutual
/-- the value v stands for the data d, nothing of it at an address of F -/
def Rep (M : Md) (H : Hp) (F : Addr → Prop) : D → V → Prop
  | .non, v => v = .non
  | .bl b, v => v = .bl b
  | .int i, v => v = .int i
  | .str x, v => v = .str x
  | .tup ds, v => ∃ a xs, v = .ref a ∧ TpR M H F a xs ∧ Reps M H F ds xs
  | .lst ds, v => ∃ a xs, v = .ref a ∧ LsR M H F a xs ∧ Reps M H F ds xs
  | .dct ks ds, v => ∃ a xs, v = .ref a ∧ DcR M H F a (ks.zip xs) ∧ ks.length = xs.length ∧ Reps M H F ds xs
  | .exn c ns ds, v => ∃ (a : Addr) (_u : Unit), v = .ref a ∧ ¬ F a ∧ ((ns = [] ∧ ∃ C, H a = some (exO a C) ∧ PySem.W.nsIn M.K mainGlobals c = some (some (.ref C))) ∨ (ns ≠ [] ∧ ∃ o xs, H a = some (.frz o (.tup xs)) ∧ o.dict = none ∧ Reps M H F ds xs))
def Reps (M : Md) (H : Hp) (F : Addr → Prop) : List D → List V → Prop
  | [], xs => xs = []
  | d :: ds, xs => ∃ x r, xs = x :: r ∧ Rep M H F d x ∧ Reps M H F ds r
end
/-- what is nobody's own stays so, and stays as it is -/
def Mv (F : Addr → Prop) (H : Hp) (F' : Addr → Prop) (H' : Hp) : Prop := ∀ a o, ¬ F a → H a = some o → ¬ F' a ∧ H' a = some o
theorem Mv.same {F : Addr → Prop} {H H' : Hp} (h : Same H H') : Mv F H F H' := fun a o n e => ⟨n, h a o e⟩
theorem Mv.trans {F F1 F2 : Addr → Prop} {H H1 H2 : Hp} (a : Mv F H F1 H1) (b : Mv F1 H1 F2 H2) : Mv F H F2 H2 := fun c o n e => b c o (a c o n e).1 (a c o n e).2
section
variable {M : Md} {H H' : Hp} {F F' : Addr → Prop} {a : Addr} {xs : List V}
theorem rd_mv (m : Mv F H F' H') {u : HO} (n : ¬ F a) (h : Rd H a u) : ¬ F' a ∧ Rd H' a u := by
  rcases h with h | ⟨o, h⟩
  · exact ⟨(m _ _ n h).1, .inl (m _ _ n h).2⟩
  · exact ⟨(m _ _ n h).1, .inr ⟨o, (m _ _ n h).2⟩⟩
theorem LsR.mv (m : Mv F H F' H') (h : LsR M H F a xs) : LsR M H' F' a xs := by
  rcases h with ⟨n, h⟩ | h
  · exact .inl (rd_mv m n h)
  · exact .inr h
theorem TpR.mv (m : Mv F H F' H') (h : TpR M H F a xs) : TpR M H' F' a xs := by
  rcases h with ⟨n, h⟩ | h
  · exact .inl (rd_mv m n h)
  · exact .inr h
theorem DcR.mv {kvs : List (Key × V)} (m : Mv F H F' H') (h : DcR M H F a kvs) : DcR M H' F' a kvs := by
  rcases h with ⟨n, h⟩ | h
  · exact .inl (rd_mv m n h)
  · exact .inr h
mutual
theorem Rep.mv (m : Mv F H F' H') : ∀ {d : D} {v : V}, Rep M H F d v → Rep M H' F' d v
  | .non, _, h => by simp only [Rep] at h ⊢; exact h
  | .bl _, _, h => by simp only [Rep] at h ⊢; exact h
  | .int _, _, h => by simp only [Rep] at h ⊢; exact h
  | .str _, _, h => by simp only [Rep] at h ⊢; exact h
  | .tup ds, _, h => by
    simp only [Rep] at h ⊢
    obtain ⟨a, xs, e, t, r⟩ := h
    exact ⟨a, xs, e, t.mv m, Reps.mv m r⟩
  | .lst ds, _, h => by
    simp only [Rep] at h ⊢
    obtain ⟨a, xs, e, t, r⟩ := h
    exact ⟨a, xs, e, t.mv m, Reps.mv m r⟩
  | .dct ks ds, _, h => by
    simp only [Rep] at h ⊢
    obtain ⟨a, xs, e, t, l, r⟩ := h
    exact ⟨a, xs, e, t.mv m, l, Reps.mv m r⟩
  | .exn _ _ _, _, h => by
    simp only [Rep] at h ⊢
    obtain ⟨a, _, e, n, h⟩ := h
    rcases h with ⟨z, C, q, k⟩ | ⟨z, o, xs, q, hd, r⟩
    · exact ⟨a, (), e, (m _ _ n q).1, .inl ⟨z, C, (m _ _ n q).2, k⟩⟩
    · exact ⟨a, (), e, (m _ _ n q).1, .inr ⟨z, o, xs, (m _ _ n q).2, hd, Reps.mv m r⟩⟩
theorem Reps.mv (m : Mv F H F' H') : ∀ {ds : List D} {xs : List V}, Reps M H F ds xs → Reps M H' F' ds xs
  | [], _, h => by simp only [Reps] at h ⊢; exact h
  | d :: ds, _, h => by
    simp only [Reps] at h ⊢
    obtain ⟨x, r, e, h1, h2⟩ := h
    exact ⟨x, r, e, Rep.mv m h1, Reps.mv m h2⟩
end
theorem Reps.length : ∀ {ds : List D} {xs : List V}, Reps M H F ds xs → ds.length = xs.length
  | [], _, h => by simp only [Reps] at h; subst h; rfl
  | d :: ds, _, h => by
    simp only [Reps] at h
    obtain ⟨x, r, rfl, _, h2⟩ := h
    simp [Reps.length h2]
theorem Reps.get : ∀ {ds : List D} {xs : List V} {i : Nat} {d : D}, Reps M H F ds xs → ds[i]? = some d → ∃ x, xs[i]? = some x ∧ Rep M H F d x
  | [], _, _, _, _, e => by simp at e
  | d :: ds, _, 0, _, h, e => by
    simp only [Reps] at h
    obtain ⟨x, r, rfl, h1, _⟩ := h
    simp at e; subst e
    exact ⟨x, rfl, h1⟩
  | d :: ds, _, i + 1, _, h, e => by
    simp only [Reps] at h
    obtain ⟨x, r, rfl, _, h2⟩ := h
    obtain ⟨y, e1, h3⟩ := Reps.get h2 (by simpa using e)
    exact ⟨y, by simpa using e1, h3⟩
theorem Reps.append : ∀ {ds es : List D} {xs ys : List V}, Reps M H F ds xs → Reps M H F es ys → Reps M H F (ds ++ es) (xs ++ ys)
  | [], _, _, _, h, g => by simp only [Reps] at h; subst h; exact g
  | d :: ds, _, _, _, h, g => by
    simp only [Reps] at h
    obtain ⟨x, r, rfl, h1, h2⟩ := h
    simp only [List.cons_append, Reps]
    exact ⟨x, _, rfl, h1, Reps.append h2 g⟩
theorem Reps.take : ∀ {ds : List D} {xs : List V} (n : Nat), Reps M H F ds xs → Reps M H F (ds.take n) (xs.take n)
  | _, _, 0, _ => by simp [Reps]
  | [], _, n + 1, h => by simp only [Reps] at h; subst h; simp [Reps]
  | d :: ds, _, n + 1, h => by
    simp only [Reps] at h
    obtain ⟨x, r, rfl, h1, h2⟩ := h
    simp only [List.take_succ_cons, Reps]
    exact ⟨x, _, rfl, h1, Reps.take n h2⟩
theorem Reps.drop : ∀ {ds : List D} {xs : List V} (n : Nat), Reps M H F ds xs → Reps M H F (ds.drop n) (xs.drop n)
  | _, _, 0, h => h
  | [], _, n + 1, h => by simp only [Reps] at h; subst h; simp [Reps]
  | d :: ds, _, n + 1, h => by
    simp only [Reps] at h
    obtain ⟨x, r, rfl, h1, h2⟩ := h
    exact Reps.drop n h2
theorem Reps.nil : Reps M H F [] [] := by simp [Reps]
theorem Reps.cons {d : D} {x : V} {ds : List D} (h : Rep M H F d x) (t : Reps M H F ds xs) : Reps M H F (d :: ds) (x :: xs) := by
  simp only [Reps]; exact ⟨_, _, rfl, h, t⟩
theorem Reps.set : ∀ {ds : List D} {xs : List V} {d : D} {x : V} (i : Nat), Rep M H F d x → Reps M H F ds xs → Reps M H F (ds.set i d) (xs.set i x)
  | [], _, _, _, _, _, h => by simp only [Reps] at h; subst h; exact Reps.nil
  | d :: ds, _, _, _, 0, g, h => by
    simp only [Reps] at h
    obtain ⟨y, r, rfl, _, h2⟩ := h
    exact Reps.cons g h2
  | d :: ds, _, _, _, i + 1, g, h => by
    simp only [Reps] at h
    obtain ⟨y, r, rfl, h1, h2⟩ := h
    exact Reps.cons h1 (Reps.set i g h2)
end

/-! ### names -/
def Owned (ρ : En) (i : Nat) : Prop := (∃ ds, ρ[i]? = some (.ol ds)) ∨ ∃ ks ds, ρ[i]? = some (.od ks ds)
/-- the addresses of a list of lists at a name -/
def OnAt (H : Hp) (σ : St) (i : Nat) (b : Addr) : Prop := ∃ a vs, σ[i]? = some (some (.ref a)) ∧ H a = some (.lst vs) ∧ (b = a ∨ V.ref b ∈ vs)
def Inn (M : Md) (H : Hp) (F : Addr → Prop) : List Addr → List (List D) → Prop
  | [], [] => True
  | b :: bs, ds :: dss => F b ∧ (∃ xs, H b = some (.lst xs) ∧ Reps M H F ds xs) ∧ Inn M H F bs dss
  | _, _ => False
/-- a list of lists that nobody else holds, at one name at most -/
def OnR (M : Md) (H : Hp) (F : Addr → Prop) (σ : St) (ρ : En) : Prop := ∀ i xss, ρ[i]? = some (.on xss) →
  (∃ a bs, σ[i]? = some (some (.ref a)) ∧ F a ∧ H a = some (.lst (bs.map V.ref)) ∧ (a :: bs).Nodup ∧ Inn M H F bs xss) ∧
  (∀ b, OnAt H σ i b → ∀ j, Owned ρ j → σ[j]? ≠ some (some (.ref b))) ∧ ∀ j yss, ρ[j]? = some (.on yss) → j = i
theorem OnR.no {M : Md} {H : Hp} {F : Addr → Prop} {σ : St} {ρ : En} (h : ∀ (i : Nat) xss, ρ[i]? ≠ some (.on xss)) : OnR M H F σ ρ := fun i xss e => absurd e (h i xss)
theorem Inn.mv {M : Md} {H H' : Hp} {F F' : Addr → Prop} (m : Mv F H F' H') : ∀ {bs : List Addr} {xss : List (List D)}, (∀ b ∈ bs, ∀ u, F b → H b = some u → F' b ∧ H' b = some u) → Inn M H F bs xss → Inn M H' F' bs xss
  | [], [], _, _ => by simp only [Inn]
  | b :: bs, ds :: dss, k, h => by
    simp only [Inn] at h ⊢
    obtain ⟨f, ⟨xs, e, r⟩, t⟩ := h
    obtain ⟨f', e'⟩ := k b List.mem_cons_self _ f e
    exact ⟨f', ⟨xs, e', r.mv m⟩, Inn.mv m (fun c hc => k c (List.mem_cons_of_mem _ hc)) t⟩
  | [], _ :: _, _, h => by simp only [Inn] at h
  | _ :: _, [], _, h => by simp only [Inn] at h
theorem OnR.mv {M : Md} {H H' : Hp} {F F' : Addr → Prop} {σ σ' : St} {ρ ρ' : En} (r : OnR M H F σ ρ) (m : Mv F H F' H') (hρ : ∀ (j : Nat) xss, ρ'[j]? = some (.on xss) → ρ[j]? = some (.on xss) ∧ σ'[j]? = σ[j]?)
    (hk : ∀ (j : Nat) xss b u, ρ'[j]? = some (.on xss) → OnAt H σ j b → F b → H b = some u → F' b ∧ H' b = some u)
    (ho : ∀ (j : Nat) xss b, ρ'[j]? = some (.on xss) → OnAt H σ j b → ∀ k : Nat, Owned ρ' k → σ'[k]? ≠ some (some (.ref b))) : OnR M H' F' σ' ρ' := fun i xss e => by
  obtain ⟨e0, es⟩ := hρ i xss e
  obtain ⟨⟨a, bs, h1, fa, ha, nd, inn⟩, h2, h3⟩ := r i xss e0
  obtain ⟨fa', ha'⟩ := hk i xss a _ e ⟨a, _, h1, ha, .inl rfl⟩ fa ha
  refine ⟨⟨a, bs, by rw [es]; exact h1, fa', ha', nd, inn.mv m fun b hb u f eb => hk i xss b u e ⟨a, _, h1, ha, .inr (List.mem_map_of_mem hb)⟩ f eb⟩, fun b hb k ok => ?_, fun j yss ej => h3 j yss (hρ j yss ej).1⟩
  refine ho i xss b e ?_ k ok
  obtain ⟨a', vs, g1, g2, g3⟩ := hb
  rw [es, h1] at g1
  cases g1
  rw [ha'] at g2
  cases g2
  exact ⟨a, _, h1, ha, g3⟩
theorem OnR.back {M : Md} {H H' : Hp} {F : Addr → Prop} {σ σ' : St} {ρ : En} {i : Nat} {xss : List (List D)} {b : Addr} (r : OnR M H F σ ρ) (e : ρ[i]? = some (.on xss)) (hs : σ'[i]? = σ[i]?)
    (hk : ∀ a u, OnAt H σ i a → F a → H a = some u → H' a = some u) (h : OnAt H' σ' i b) : OnAt H σ i b := by
  obtain ⟨⟨a, bs, h1, fa, ha, _, _⟩, _⟩ := r i xss e
  obtain ⟨a', vs, g1, g2, g3⟩ := h
  rw [hs, h1] at g1
  cases g1
  rw [hk a _ ⟨a, _, h1, ha, .inl rfl⟩ fa ha] at g2
  cases g2
  exact ⟨a, _, h1, ha, g3⟩
theorem Inn.fs {M : Md} {H : Hp} {F : Addr → Prop} : ∀ {bs : List Addr} {xss : List (List D)}, Inn M H F bs xss → ∀ b ∈ bs, F b ∧ ∃ xs, H b = some (.lst xs)
  | [], [], _, _, hb => by cases hb
  | b :: bs, ds :: dss, h, c, hc => by
    simp only [Inn] at h
    obtain ⟨f, ⟨xs, e, _⟩, t⟩ := h
    rcases List.mem_cons.mp hc with rfl | hc
    · exact ⟨f, xs, e⟩
    · exact Inn.fs t c hc
  | [], _ :: _, h, _, _ => by simp only [Inn] at h
  | _ :: _, [], h, _, _ => by simp only [Inn] at h
theorem OnR.f {M : Md} {H : Hp} {F : Addr → Prop} {σ : St} {ρ : En} {i : Nat} {xss : List (List D)} {b : Addr} (r : OnR M H F σ ρ) (e : ρ[i]? = some (.on xss)) (h : OnAt H σ i b) : F b ∧ ∃ xs, H b = some (.lst xs) := by
  obtain ⟨⟨a, bs, h1, fa, ha, _, inn⟩, _⟩ := r i xss e
  obtain ⟨a', vs, g1, g2, g3⟩ := h
  rw [h1] at g1
  cases g1
  rw [ha] at g2
  cases g2
  rcases g3 with rfl | g3
  · exact ⟨fa, _, ha⟩
  · obtain ⟨c, hc, z⟩ := List.mem_map.mp g3
    cases z
    exact inn.fs _ hc
/-- F: every address that somebody alone holds; all of them are tracked -/
structure RepS (M : Md) (H : Hp) (F : Addr → Prop) (σ : St) (ρ : En) : Prop where
  len : ρ.length = σ.length
  trk : ∀ a, F a → ∃ o, H a = some o
  sh : ∀ (i : Nat) d, ρ[i]? = some (.sh d) → ∃ v, σ[i]? = some (some v) ∧ Rep M H F d v
  ol : ∀ (i : Nat) ds, ρ[i]? = some (.ol ds) → ∃ a xs, σ[i]? = some (some (.ref a)) ∧ F a ∧ H a = some (.lst xs) ∧ Reps M H F ds xs
  od : ∀ (i : Nat) ks ds, ρ[i]? = some (.od ks ds) → ∃ a xs, σ[i]? = some (some (.ref a)) ∧ F a ∧ H a = some (.dK (ks.zip xs)) ∧ ks.length = xs.length ∧ Reps M H F ds xs
  dis : ∀ (i j : Nat) a, Owned ρ i → Owned ρ j → σ[i]? = some (some (.ref a)) → σ[j]? = some (some (.ref a)) → i = j
  on : OnR M H F σ ρ
section
variable {M : Md} {H H' : Hp} {F F' : Addr → Prop} {σ : St} {ρ : En}
theorem RepS.same (r : RepS M H F σ ρ) (h : Same H H') : RepS M H' F σ ρ where
  len := r.len
  trk a f := let ⟨o, e⟩ := r.trk a f; ⟨o, h _ _ e⟩
  sh i d e := let ⟨v, e1, q⟩ := r.sh i d e; ⟨v, e1, q.mv (.same h)⟩
  ol i ds e := let ⟨a, xs, e1, f, e2, q⟩ := r.ol i ds e; ⟨a, xs, e1, f, h _ _ e2, q.mv (.same h)⟩
  od i ks ds e := let ⟨a, xs, e1, f, e2, l, q⟩ := r.od i ks ds e; ⟨a, xs, e1, f, h _ _ e2, l, q.mv (.same h)⟩
  dis := r.dis
  on := r.on.mv (.same h) (fun j xss e => ⟨e, rfl⟩) (fun j xss b u e hb f hu => ⟨f, h _ _ hu⟩) fun j xss b e hb k ok => (r.on j xss e).2.1 b hb k ok
theorem get_set {α : Type} {l : List α} {i j : Nat} {x y : α} (h : (l.set i x)[j]? = some y) : (i = j ∧ x = y ∧ i < l.length) ∨ (i ≠ j ∧ l[j]? = some y) := by
  by_cases e : i = j
  · subst e
    rw [List.getElem?_set_self'] at h
    cases q : l[i]? with
    | none => rw [q] at h; cases h
    | some z =>
      rw [q] at h
      obtain ⟨hl, _⟩ := List.getElem?_eq_some_iff.mp q
      simp at h
      exact .inl ⟨rfl, h, hl⟩
  · rw [List.getElem?_set_ne e] at h
    exact .inr ⟨e, h⟩
/-- a name gets a shared value -/
theorem RepS.setSh {i : Nat} {d : D} {v : V} (r : RepS M H F σ ρ) (h : Rep M H F d v) : RepS M H F (σ.set i (some v)) (ρ.set i (.sh d)) where
  len := by simp [r.len]
  trk := r.trk
  sh j e q := by
    rcases get_set q with ⟨rfl, hx, hl⟩ | ⟨hne, q⟩
    · cases hx
      exact ⟨v, by rw [List.getElem?_set_self (by rw [← r.len]; exact hl)], h⟩
    · obtain ⟨w, e1, g⟩ := r.sh j e q
      exact ⟨w, by rw [List.getElem?_set_ne hne]; exact e1, g⟩
  ol j e q := by
    rcases get_set q with ⟨rfl, x, hl⟩ | ⟨hne, q⟩
    · cases x
    · obtain ⟨a, xs, e1, g⟩ := r.ol j e q
      exact ⟨a, xs, by rw [List.getElem?_set_ne hne]; exact e1, g⟩
  od j k e q := by
    rcases get_set q with ⟨rfl, x, hl⟩ | ⟨hne, q⟩
    · cases x
    · obtain ⟨a, xs, e1, g⟩ := r.od j k e q
      exact ⟨a, xs, by rw [List.getElem?_set_ne hne]; exact e1, g⟩
  dis j k a oj ok ej ek := by
    have nj : i ≠ j := by
      rintro rfl
      rcases oj with ⟨ds, q⟩ | ⟨ks, ds, q⟩
      · rcases get_set q with ⟨_, x, _⟩ | ⟨hne, _⟩
        · cases x
        · exact hne rfl
      · rcases get_set q with ⟨_, x, _⟩ | ⟨hne, _⟩
        · cases x
        · exact hne rfl
    have nk : i ≠ k := by
      rintro rfl
      rcases ok with ⟨ds, q⟩ | ⟨ks, ds, q⟩
      · rcases get_set q with ⟨_, x, _⟩ | ⟨hne, _⟩
        · cases x
        · exact hne rfl
      · rcases get_set q with ⟨_, x, _⟩ | ⟨hne, _⟩
        · cases x
        · exact hne rfl
    rw [List.getElem?_set_ne nj] at ej
    rw [List.getElem?_set_ne nk] at ek
    refine r.dis j k a ?_ ?_ ej ek
    · unfold Owned at oj; simp only [List.getElem?_set_ne nj] at oj; exact oj
    · unfold Owned at ok; simp only [List.getElem?_set_ne nk] at ok; exact ok
  on := r.on.mv (fun _ _ n e => ⟨n, e⟩) (fun j xss e => by
      rcases get_set e with ⟨_, x, _⟩ | ⟨hne, e⟩
      · cases x
      · exact ⟨e, List.getElem?_set_ne hne⟩) (fun j xss b u e hb f hu => ⟨f, hu⟩) fun j xss b e hb k ok => by
    have e0 : ρ[j]? = some (.on xss) := by
      rcases get_set e with ⟨_, x, _⟩ | ⟨hne, e⟩
      · cases x
      · exact e
    have nk : i ≠ k := by
      rintro rfl
      rcases ok with ⟨ds, q⟩ | ⟨ks, ds, q⟩
      · rcases get_set q with ⟨_, x, _⟩ | ⟨hne, _⟩
        · cases x
        · exact hne rfl
      · rcases get_set q with ⟨_, x, _⟩ | ⟨hne, _⟩
        · cases x
        · exact hne rfl
    rw [List.getElem?_set_ne nk]
    refine (r.on j xss e0).2.1 b hb k ?_
    unfold Owned at ok; simp only [List.getElem?_set_ne nk] at ok; exact ok
end
end PL
set_option Elab.async false
set_option linter.all false
set_option maxRecDepth 100000
namespace PL
open PySem PySem.Spec
open L2 (V Hp HO Cx PE PT PW PA PS PSs St VK TE TT TA TS TI Inv RelV Vals Rd SqL SqT upd Same Key XK Ends OpR UnR CallR R2 EP)

theorem bind_ok_iff {α β : Type} {x : R α} {f : α → R β} {b : β} : x.bind f = .ok b ↔ ∃ a, x = .ok a ∧ f a = .ok b := by
  cases x with
  | ok a => simp
  | exc y => simp
  | bad => simp
/-! ### the readings: what the mirror says -/
def tP (M : Md) (f : Ex) : TE := fun σ H Q => ∃ ρ F d, RepS M H F σ ρ ∧ f ρ = .ok d ∧ ∀ v H', Same H H' → Rep M H' F d v → Q v H'
def tPT (M : Md) (c : Tst) : TT := fun σ H Q => ∃ ρ F b, RepS M H F σ ρ ∧ c ρ = .ok b ∧ ∀ H', Same H H' → Q b H'
def tPA (M : Md) (f : En → R (List D)) : TA := fun σ H Q => ∃ ρ F ds, RepS M H F σ ρ ∧ f ρ = .ok ds ∧ ∀ vs H', Same H H' → Reps M H' F ds vs → Q vs H'
abbrev JE (X : Cx) (e : Expr) (f : Ex) : Prop := PE X e (tP (mdOf X) f)
abbrev JT (X : Cx) (e : Expr) (c : Tst) : Prop := PT X e (tPT (mdOf X) c)
abbrev JA (X : Cx) (es : List Expr) (f : En → R (List D)) : Prop := PA X es (tPA (mdOf X) f)
theorem PE_imp {X : Cx} {e : Expr} {t t' : TE} (h : PE X e t') (hi : ∀ σ H Q, t σ H Q → t' σ H Q) : PE X e t := fun pins s σ H Q I q => h pins s σ H Q I (hi σ H Q q)
theorem PT_imp {X : Cx} {e : Expr} {t t' : TT} (h : PT X e t') (hi : ∀ σ H Q, t σ H Q → t' σ H Q) : PT X e t := fun pins s σ H Q I q => h pins s σ H Q I (hi σ H Q q)
theorem PA_imp {X : Cx} {e : List Expr} {t t' : TA} (h : PA X e t') (hi : ∀ σ H Q, t σ H Q → t' σ H Q) : PA X e t := fun pos pins s σ H Q I q => h pos pins s σ H Q I (hi σ H Q q)
theorem PW_imp {X : Cx} {e : Expr} {t t' : TT} (h : PW X e t') (hi : ∀ σ H Q, t σ H Q → t' σ H Q) : PW X e t := fun wh pins s σ H Q I q => h wh pins s σ H Q I (hi σ H Q q)
theorem Same.upd_new {H : Hp} {p : Addr} (h : H p = none) (o : HO) : Same H (upd H p o) := fun b u q => by rw [L2.upd_ne (L2.ne_of_none q h)]; exact q
section
variable {X : Cx} {M : Md} {H H' : Hp} {F : Addr → Prop} {σ : St} {ρ : En} {pos : Pos}
/-! ### names and constants -/
theorem eVar_ok {i : Nat} {d : D} (h : eVar i ρ = .ok d) : ρ[i]? = some (.sh d) := by
  unfold eVar at h
  split at h
  · rename_i e; cases h; exact e
  · cases h
theorem je_var (i : Nat) {x : Str} (hN : X.N[i]? = some x := by rfl) (hv : L2.Vis X.env.scope x := by first | exact Or.inl rfl | exact Or.inr (Or.inl rfl) | exact Or.inr (Or.inr rfl)) (hd : (x == ("__debug__" : Str)) = false := by decide)
    (hcd : (x == ("__classdict__" : Str)) = false := by decide) : JE X (.Name x pos) (eVar i) :=
  PE_imp (L2.pv i hN hv hd hcd) fun σ H Q ⟨ρ, F, d, r, e, q⟩ => by
    obtain ⟨v, e1, rv⟩ := r.sh i d (eVar_ok e)
    exact ⟨v, e1, q v H (Same.refl H) rv⟩
theorem je_int {i : Int} {j : Nat} : JE X (.Constant (.int i) j pos) (eC (.int i)) :=
  PE_imp L2.pe_int fun σ H Q ⟨ρ, F, d, r, e, q⟩ => by cases e; exact q _ H (Same.refl H) (by simp [Rep])
theorem je_bl {b : Bool} {j : Nat} : JE X (.Constant (.bool b) j pos) (eC (.bl b)) :=
  PE_imp L2.pe_bl fun σ H Q ⟨ρ, F, d, r, e, q⟩ => by cases e; exact q _ H (Same.refl H) (by simp [Rep])
theorem je_non {j : Nat} : JE X (.Constant .none j pos) (eC .non) :=
  PE_imp L2.pe_non fun σ H Q ⟨ρ, F, d, r, e, q⟩ => by cases e; exact q _ H (Same.refl H) (by simp [Rep])
/-- a constant of the module -/
theorem je_glob {x : Str} {d : D} {v : V} {u : Value} (hg : L2.Gl X x) (hm : X.mg x = some u) (r : RelV v u) (hr : ∀ H F, Rep (mdOf X) H F d v) (hd : (x == ("__debug__" : Str)) = false := by decide) : JE X (.Name x pos) (eC d) :=
  PE_imp (L2.pe_glob hg hm r hd) fun σ H Q ⟨ρ, F, d', r, e, q⟩ => by cases e; exact q _ H (Same.refl H) (hr H F)
/-! ### operations of two values -/
/-- the mirror's operation g is what the rule r promises -/
def OpL (M : Md) (g : D → D → R D) (r : R2) : Prop := ∀ (F : Addr → Prop) (H : Hp) (x y : V) (a b d : D) (Q : VK), (∀ p, F p → ∃ o, H p = some o) → Rep M H F a x → Rep M H F b y → g a b = .ok d →
  (∀ v H', Same H H' → Rep M H' F d v → Q v H') → r x y H Q
def UnL (M : Md) (g : D → R D) (r : V → Hp → VK → Prop) : Prop := ∀ (F : Addr → Prop) (H : Hp) (x : V) (a d : D) (Q : VK), (∀ p, F p → ∃ o, H p = some o) → Rep M H F a x → g a = .ok d →
  (∀ v H', Same H H' → Rep M H' F d v → Q v H') → r x H Q
def CaL (M : Md) (g : List D → R D) (r : List V → Hp → VK → Prop) : Prop := ∀ (F : Addr → Prop) (H : Hp) (xs : List V) (as : List D) (d : D) (Q : VK), (∀ p, F p → ∃ o, H p = some o) → Reps M H F as xs → g as = .ok d →
  (∀ v H', Same H H' → Rep M H' F d v → Q v H') → r xs H Q
theorem tOp_of {g : D → D → R D} {r : R2} (hg : OpL M g r) {fa fb : Ex} {Q : VK} (h : tP M (e2 g fa fb) σ H Q) : L2.tOp r (tP M fa) (tP M fb) σ H Q := by
  obtain ⟨ρ, F, d, hr, e, q⟩ := h
  obtain ⟨a, ea, e⟩ := bind_ok_iff.mp e
  obtain ⟨b, eb, e⟩ := bind_ok_iff.mp e
  refine ⟨ρ, F, a, hr, ea, fun x H1 s1 rx => ⟨ρ, F, b, hr.same s1, eb, fun y H2 s2 ry => ?_⟩⟩
  exact hg F H2 x y a b d Q ((hr.same s1).same s2).trk (rx.mv (.same s2)) ry e fun v H3 s3 rv => q v H3 (s1.trans (s2.trans s3)) rv
theorem je_op {op : Operator} {g : D → D → R D} {r : R2} {a b : Expr} {fa fb : Ex} (ho : OpR X (binaryOp op) r) (hg : OpL (mdOf X) g r) (ha : JE X a fa) (hb : JE X b fb) : JE X (.BinOp a op b pos) (e2 g fa fb) :=
  PE_imp (L2.pe_op ho ha hb) fun σ H Q h => tOp_of hg h
theorem je_cmp {op : CmpOp} {g : D → D → R D} {r : R2} {a b : Expr} {fa fb : Ex} (ho : OpR X (compareOp op) r) (hg : OpL (mdOf X) g r) (ha : JE X a fa) (hb : JE X b fb) (hm : behindInMarks op b = false) : JE X (.Compare a [op] [b] pos) (e2 g fa fb) :=
  PE_imp (L2.pe_cmpR ho ha hb hm) fun σ H Q h => tOp_of hg h
/-! ### ints -/
theorem rep_int {i : Int} {v : V} (h : Rep M H F (.int i) v) : v = .int i := by simpa only [Rep] using h
theorem rep_bl {i : Bool} {v : V} (h : Rep M H F (.bl i) v) : v = .bl i := by simpa only [Rep] using h
theorem rep_str {i : Str} {v : V} (h : Rep M H F (.str i) v) : v = .str i := by simpa only [Rep] using h
theorem rep_non {v : V} (h : Rep M H F .non v) : v = .non := by simpa only [Rep] using h
theorem rep_int_mk {i : Int} : Rep M H F (.int i) (.int i) := by simp only [Rep]
theorem rep_bl_mk {i : Bool} : Rep M H F (.bl i) (.bl i) := by simp only [Rep]
theorem rep_str_mk {i : Str} : Rep M H F (.str i) (.str i) := by simp only [Rep]
theorem rep_non_mk : Rep M H F .non .non := by simp only [Rep]
theorem l_lt : OpL M oLt (L2.rI0 fun i j => .bl (decide (i < j))) := by
  intro F H x y a b d Q tr ra rb e q
  unfold oLt at e
  split at e
  · cases e
    exact ⟨_, _, rep_int ra, rep_int rb, q _ _ (Same.refl _) rep_bl_mk⟩
  · cases e
theorem l_gt : OpL M oGt (L2.rI0 fun i j => .bl (decide (j < i))) := by
  intro F H x y a b d Q tr ra rb e q
  unfold oGt at e
  split at e
  · cases e
    exact ⟨_, _, rep_int ra, rep_int rb, q _ _ (Same.refl _) rep_bl_mk⟩
  · cases e
theorem l_mod : OpL M oMod (L2.rI (fun _ j => 0 < j) fun i j => .int (i % j)) := by
  intro F H x y a b d Q tr ra rb e q
  unfold oMod at e
  split at e
  · split at e
    · cases e
      exact ⟨_, _, rep_int ra, rep_int rb, by assumption, q _ _ (Same.refl _) rep_int_mk⟩
    · cases e
  · cases e
/-- // by a positive divisor below 2 ^ 128 -/
def CDivB (i j : Int) : Prop := 0 < j ∧ j < 340282366920938463463374607431768211456
end
end PL
set_option Elab.async false
set_option linter.all false
set_option maxRecDepth 100000
namespace PL
open PySem PySem.Spec
open L2 (V Hp HO Cx PE PT PW PA PS PSs VK TE TT TA TS TI Inv RelV Vals Rd SqL SqT upd Same Key XK Ends OpR UnR CallR R2 EP)
section
variable {X : Cx} {M : Md} {H H' : Hp} {F : Addr → Prop} {σ : L2.St} {ρ : En} {pos : Pos} {pins : List (Addr × Obj)} {s : Shared}
/-! ### lists and tuples, as they lie in the heap -/
theorem ls_at {a : Addr} {xs : List V} (I : Inv X pins σ H s) (h : LsR (mdOf X) H F a xs) : ∃ (its : List Value) (n : Nat) (sl : Array (Option Value)), Vals xs its ∧ s.heap.get? a = some { cls := .type "list", data := .seq its.toArray n, slots := sl } ∧ xs.length ≤ sizeLine := by
  rcases h with ⟨_, h⟩ | ⟨o, its, n, hk, h1, h2, h3, hz, r⟩
  · obtain ⟨z, its, n, r, e⟩ := h.ok I.hok
    exact ⟨its, n, #[], r, e, z⟩
  · obtain ⟨c, dd, dt, sl⟩ := o
    simp only at h1 h2 h3
    subst h1 h2 h3
    refine ⟨its.toList, n, sl, r, by simpa using I.kIn a _ hk, ?_⟩
    have e := r.length
    simp only [Array.length_toList] at e
    omega
theorem list_add_any (l : Addr) (items : Array Value) (n : Nat) (sl : Array (Option Value)) (b : Addr) (items2 : Array Value) (n2 : Nat) (sl2 : Array (Option Value)) (hc0 : items.size + items2.size ≤ sizeLine) :
    Meets (Builtin.«list.__add__» ⟨[.ref l, .ref b], []⟩) (fun _ R s => s.heap.get? l = some { cls := .type "list", dict := none, data := .seq items n, slots := sl } ∧ s.heap.get? b = some { cls := .type "list", dict := none, data := .seq items2 n2, slots := sl2 } ∧ R (.ok (.ret (Value.ref s.heap.objs.size))) { s with heap := s.heap.push { cls := Value.type "list", data := Data.seq (items ++ items2) }, toks := s.toks }) :=
  .of_wp fun prog w A R s h => by obtain ⟨hp, g, d, tk, os⟩ := s; obtain ⟨hl, hb, h⟩ := h; have f1 := AutoSeq1.idx_int; have f2 := AutoSeq1.sub_tuple_tuple; have f3 := AutoSeq1.sub_list_list; have f4 := AutoSeq1.sub_tuple_list; have f5 := AutoSeq1.sub_list_tuple; wp_walk using AutoSeq1.wpAny_loadPart' hl, AutoSeq1.wpAny_loadPart' hb; exact ⟨_, rfl, h⟩
theorem tp_at {a : Addr} {xs : List V} (I : Inv X pins σ H s) (h : TpR (mdOf X) H F a xs) : ∃ its : List Value, Vals xs its ∧ PyProof.Rows.IsTup s.heap a its.toArray ∧ xs.length ≤ sizeLine := I.tuple h.sq
/-! ### +, * -/
def rAddL (M : Md) : R2 := fun x y H Q => ∃ F l b xs zs, x = .ref l ∧ y = .ref b ∧ LsR M H F l xs ∧ LsR M H F b zs ∧ xs.length + zs.length ≤ sizeLine ∧ ∀ p, H p = none → Q (.ref p) (upd H p (.lst (xs ++ zs)))
theorem op_addL : OpR X (binaryOp .Add) (rAddL (mdOf X)) := by
  intro pins s σ H x y v u Q I rx ry h
  obtain ⟨F, l, b, xs, zs, rfl, rfl, hH, hB, hz, q⟩ := h
  cases rx
  cases ry
  obtain ⟨its, n, sl, r, e, z⟩ := ls_at I hH
  obtain ⟨its2, n2, sl2, r2, e2, z2⟩ := ls_at I hB
  have h1 := r.length
  have h2 := r2.length
  refine concat_meets ⟨_, e, rfl⟩ ⟨_, e2, rfl⟩ noFill_list_add seq_list_add PySem.F.slot_list_add PySem.F.entry_list_add (PySem.F.args_list_add_2 _ _) (list_add_any l its.toArray n sl b its2.toArray n2 sl2 (by rw [List.size_toArray, List.size_toArray]; omega)) ⟨e, e2, ?_⟩
  have ea : its.toArray ++ its2.toArray = (its ++ its2).toArray := by simp
  rw [ea]
  exact ⟨.ref _, _, I.lnew (t' := s.toks) (r.append r2) (by rw [List.length_append]; omega), rfl, q _ I.fresh⟩
def rAdd (M : Md) : R2 := fun x y H Q => (L2.rI0 fun i j => .int (i + j)) x y H Q ∨ (∃ i j, x = .str i ∧ y = .str j ∧ i.length + j.length ≤ sizeLine ∧ Q (.str (i ++ j)) H) ∨ rAddL M x y H Q ∨ L2.rCatT M.K x y H Q
theorem op_add : OpR X (binaryOp .Add) (rAdd (mdOf X)) := L2.OpR.or L2.op_add (L2.OpR.or L2.op_add_str (L2.OpR.or op_addL L2.op_catT))
theorem not_own {p : Addr} (tr : ∀ p, F p → ∃ o, H p = some o) (h : H p = none) : ¬ F p := fun f => by obtain ⟨o, e⟩ := tr p f; rw [h] at e; cases e
theorem rep_lst_new {p : Addr} {ds : List D} {xs : List V} (tr : ∀ p, F p → ∃ o, H p = some o) (h : H p = none) (r : Reps M H F ds xs) : Rep M (upd H p (.lst xs)) F (.lst ds) (.ref p) := by
  simp only [Rep]
  exact ⟨p, xs, rfl, .inl ⟨not_own tr h, .inl L2.upd_same⟩, r.mv (.same (Same.upd_new h _))⟩
theorem rep_tup_new {p : Addr} {ds : List D} {xs : List V} (tr : ∀ p, F p → ∃ o, H p = some o) (h : H p = none) (r : Reps M H F ds xs) : Rep M (upd H p (.tup xs)) F (.tup ds) (.ref p) := by
  simp only [Rep]
  exact ⟨p, xs, rfl, .inl ⟨not_own tr h, .inl L2.upd_same⟩, r.mv (.same (Same.upd_new h _))⟩
theorem l_add : OpL M oAdd (rAdd M) := by
  intro F H x y a b d Q tr ra rb e q
  unfold oAdd at e
  split at e
  · cases e
    exact .inl ⟨_, _, rep_int ra, rep_int rb, q _ _ (Same.refl _) rep_int_mk⟩
  · split at e
    · cases e
      exact .inr (.inl ⟨_, _, rep_str ra, rep_str rb, by assumption, q _ _ (Same.refl _) rep_str_mk⟩)
    · cases e
  · split at e
    · rename_i hz
      cases e
      simp only [Rep] at ra rb
      obtain ⟨l, xs, rfl, h1, r1⟩ := ra
      obtain ⟨m, zs, rfl, h2, r2⟩ := rb
      refine .inr (.inr (.inl ⟨F, l, m, xs, zs, rfl, rfl, h1, h2, by rw [← r1.length, ← r2.length]; exact hz, fun p hp => q _ _ (Same.upd_new hp _) (rep_lst_new tr hp (r1.append r2))⟩))
    · cases e
  · split at e
    · rename_i hz
      cases e
      simp only [Rep] at ra rb
      obtain ⟨l, xs, rfl, h1, r1⟩ := ra
      obtain ⟨m, zs, rfl, h2, r2⟩ := rb
      have l1 := r1.length
      have l2 := r2.length
      refine .inr (.inr (.inr ⟨l, m, xs, zs, rfl, rfl, h1.sq, h2.sq, ?_, by rw [← l1, ← l2]; exact hz.2, fun e0 => ?_, fun _ p hp => q _ _ (Same.upd_new hp _) (rep_tup_new tr hp (r1.append r2))⟩))
      · intro e0
        subst e0
        have := hz.1
        rename_i as bs
        cases as with
        | nil => cases this
        | cons _ _ => simp at l1
      · subst e0
        rename_i as bs
        cases bs with
        | cons _ _ => simp at l2
        | nil =>
          refine q _ _ (Same.refl _) ?_
          rw [List.append_nil]
          simp only [Rep]
          exact ⟨l, xs, rfl, h1, r1⟩
    · cases e
  · cases e
/-! ### is -/
/-! ### and, or, not, chains, conditional expressions -/
theorem je_one {op : BoolOp} {a : Expr} {fa : Ex} (h : JE X a fa) : JE X (.BoolOp op [a] pos) fa := L2.pe_one h
theorem je_and {a b : Expr} {rest : List Expr} {fa fb : Ex} (ha : JE X a fa) (hb : JE X (.BoolOp .And (b :: rest) pos) fb) : JE X (.BoolOp .And (a :: b :: rest) pos) (eAnd fa fb) :=
  PE_imp (L2.pe_and ha hb) fun σ H Q ⟨ρ, F, d, hr, e, q⟩ => by
    obtain ⟨a, ea, e⟩ := bind_ok_iff.mp e
    refine ⟨ρ, F, a, hr, ea, fun x H1 s1 rx => ?_⟩
    split at e
    · exact ⟨true, rep_bl rx, by rw [if_pos rfl]; exact ⟨ρ, F, d, hr.same s1, e, fun v H2 s2 rv => q v H2 (s1.trans s2) rv⟩⟩
    · cases e
      exact ⟨false, rep_bl rx, by rw [if_neg (by decide)]; exact q _ _ s1 rep_bl_mk⟩
    · cases e
/-! ### tests -/
theorem rep_tru {a : D} {x : V} {t : Bool} (r : Rep M H F a x) (e : truth a = .ok t) : L2.TruV M.K x H t := by
  cases a with
  | non => cases e; cases rep_non r; rfl
  | bl b => cases e; cases rep_bl r; rfl
  | int i => cases e; cases rep_int r; rfl
  | str z =>
    unfold truth at e
    dsimp only at e
    split at e
    · rename_i hz
      cases e; cases rep_str r
      refine ⟨hz, ?_⟩
      rw [Bool.eq_iff_iff]
      simp
    · cases e
  | tup ds =>
    cases e
    simp only [Rep] at r
    obtain ⟨p, xs, rfl, h, rs⟩ := r
    refine .inr (.inl ⟨xs, h.sq, ?_⟩)
    have := rs.length
    cases ds <;> cases xs <;> simp at this ⊢
  | lst ds =>
    cases e
    simp only [Rep] at r
    obtain ⟨p, xs, rfl, h, rs⟩ := r
    refine .inl ⟨xs, h.sq, ?_⟩
    have := rs.length
    cases ds <;> cases xs <;> simp at this ⊢
  | dct ks ds => cases e
  | exn _ _ _ => cases e
/-- any expression whose test is its value's truth -/
theorem jt_val {a : Expr} {fa : Ex} (ha : JE X a fa) (he : ∀ whole, isTrue a X.env whole = (do let v ← whole; standAt a.pos; holding [v] (truthy v)) := by intro _; rfl) : JT X a (tV fa) :=
  PT_imp (L2.pt_truth ha he) fun σ H Q ⟨ρ, F, b, hr, e, q⟩ => by
    obtain ⟨a, ea, e⟩ := bind_ok_iff.mp e
    exact ⟨ρ, F, a, hr, ea, fun x H1 s1 rx => ⟨b, rep_tru rx e, q H1 s1⟩⟩
/-- what tells a truth -/
def Bin (g : D → D → R D) : Prop := ∀ a b d, g a b = .ok d → ∃ k, d = .bl k
theorem jt_cmp {op : CmpOp} {g : D → D → R D} {r : R2} {a b : Expr} {fa fb : Ex} (ho : OpR X (compareOp op) r) (hg : OpL (mdOf X) g r) (hB : Bin g) (ha : JE X a fa) (hb : JE X b fb) (hm : behindInMarks op b = false) : JT X (.Compare a [op] [b] pos) (tV (e2 g fa fb)) :=
  PT_imp (L2.pt_cmpR ho ha hb hm) fun σ H Q ⟨ρ, F, t, hr, e, q⟩ => by
    obtain ⟨d, ed, e⟩ := bind_ok_iff.mp e
    refine tOp_of hg ⟨ρ, F, d, hr, ed, fun v H1 s1 rv => ?_⟩
    obtain ⟨a, ea, ed⟩ := bind_ok_iff.mp ed
    obtain ⟨b, eb, ed⟩ := bind_ok_iff.mp ed
    obtain ⟨k, rfl⟩ := hB _ _ _ ed
    cases e
    exact ⟨_, rep_bl rv, q H1 s1⟩
theorem jt_isN {j : Nat} {p2 : Pos} {a : Expr} {fa : Ex} (ha : JE X a fa) : JT X (.Compare a [.Is] [.Constant .none j p2] pos) (tV (e1 oIsN fa)) :=
  PT_imp (L2.pt_cmp (L2.pc_isN ha)) fun σ H Q ⟨ρ, F, t, hr, e, q⟩ => by
    obtain ⟨d, ed, e⟩ := bind_ok_iff.mp e
    obtain ⟨a, ea, ed⟩ := bind_ok_iff.mp ed
    refine ⟨ρ, F, a, hr, ea, fun x H1 s1 rx => ⟨t, ?_, q H1 s1⟩⟩
    cases ed
    cases e
    cases a <;> simp only [Rep] at rx
    all_goals first
      | (subst rx; rfl)
      | (obtain ⟨p, xs, rfl, _⟩ := rx; rfl)
theorem jt_not {a : Expr} {c : Tst} (ha : JT X a c) : JT X (.UnaryOp .Not a pos) (tNot c) :=
  PT_imp (L2.pt_not ha) fun σ H Q ⟨ρ, F, t, hr, e, q⟩ => by
    obtain ⟨b, eb, e⟩ := bind_ok_iff.mp e
    cases e
    exact ⟨ρ, F, b, hr, eb, fun H1 s1 => q H1 s1⟩
abbrev JW (X : Cx) (e : Expr) (c : Tst) : Prop := PW X e (tPT (mdOf X) c)
theorem jw_and1 {a : Expr} {c : Tst} (ha : JT X a c) : JW X (.BoolOp .And [a] pos) c := L2.pw_and1 ha
theorem jw_or1 {a : Expr} {c : Tst} (ha : JT X a c) : JW X (.BoolOp .Or [a] pos) c := L2.pw_or1 ha
theorem jw_and {a b : Expr} {rest : List Expr} {c c' : Tst} (ha : JT X a c) (hb : JW X (.BoolOp .And (b :: rest) pos) c') : JW X (.BoolOp .And (a :: b :: rest) pos) (tAnd c c') :=
  PW_imp (L2.pw_and ha hb) fun σ H Q ⟨ρ, F, t, hr, e, q⟩ => by
    obtain ⟨b, eb, e⟩ := bind_ok_iff.mp e
    refine ⟨ρ, F, b, hr, eb, fun H1 s1 => ?_⟩
    split at e
    · rename_i h; rw [if_pos h]; exact ⟨ρ, F, t, hr.same s1, e, fun H2 s2 => q H2 (s1.trans s2)⟩
    · rename_i h; rw [if_neg h]; cases e; exact q H1 s1
theorem jw_or {a b : Expr} {rest : List Expr} {c c' : Tst} (ha : JT X a c) (hb : JW X (.BoolOp .Or (b :: rest) pos) c') : JW X (.BoolOp .Or (a :: b :: rest) pos) (tOr c c') :=
  PW_imp (L2.pw_or ha hb) fun σ H Q ⟨ρ, F, t, hr, e, q⟩ => by
    obtain ⟨b, eb, e⟩ := bind_ok_iff.mp e
    refine ⟨ρ, F, b, hr, eb, fun H1 s1 => ?_⟩
    split at e
    · rename_i h; rw [if_pos h]; cases e; exact q H1 s1
    · rename_i h; rw [if_neg h]; exact ⟨ρ, F, t, hr.same s1, e, fun H2 s2 => q H2 (s1.trans s2)⟩
theorem jt_bool {e : Expr} {c : Tst} (h : JW X e c) : JT X e c := L2.PW.pt h
theorem je_not {a : Expr} {fa : Ex} (ha : JE X a fa) : JE X (.UnaryOp .Not a pos) (e1 oNot fa) :=
  PE_imp (L2.pe_not ha) fun σ H Q ⟨ρ, F, d, hr, e, q⟩ => by
    obtain ⟨a, ea, e⟩ := bind_ok_iff.mp e
    refine ⟨ρ, F, a, hr, ea, fun x H1 s1 rx => ?_⟩
    unfold oNot at e
    split at e
    · cases e; exact ⟨_, rep_bl rx, q _ _ s1 rep_bl_mk⟩
    · cases e
/-! ### argument lists, displays -/
theorem ja_nil : JA X [] (eList []) := PA_imp L2.pa_nil fun σ H Q ⟨ρ, F, ds, hr, e, q⟩ => by cases e; exact q [] H (Same.refl H) Reps.nil
theorem ja_cons {e : Expr} {es : List Expr} {f : Ex} {fs : List Ex} (ha : JE X e f) (hr : JA X es (eList fs)) (hs : starEach (e :: es) X.env = (false, eval e X.env) :: starEach es X.env := by rfl) : JA X (e :: es) (eList (f :: fs)) :=
  PA_imp (L2.pa_cons ha hr hs) fun σ H Q ⟨ρ, F, ds, hr, e, q⟩ => by
    obtain ⟨a, ea, e⟩ := bind_ok_iff.mp e
    obtain ⟨as, eas, e⟩ := bind_ok_iff.mp e
    cases e
    exact ⟨ρ, F, a, hr, ea, fun x H1 s1 rx => ⟨ρ, F, as, hr.same s1, eas, fun xs H2 s2 rs => q _ H2 (s1.trans s2) (Reps.cons (rx.mv (.same s2)) rs)⟩⟩
theorem eList_len : ∀ {fs : List Ex} {ρ : En} {ds : List D}, eList fs ρ = .ok ds → ds.length = fs.length
  | [], _, _, h => by cases h; rfl
  | f :: fs, _, _, h => by
    obtain ⟨a, _, h⟩ := bind_ok_iff.mp h
    obtain ⟨as, h2, h⟩ := bind_ok_iff.mp h
    cases h
    simp [eList_len h2]
theorem je_tup {es : List Expr} {fs : List Ex} {k : Nat} (h : JA X es (eList fs)) (hl : fs.length ≤ 1000 := by decide) : JE X (.Tuple es k pos) (eTup fs) :=
  PE_imp (L2.pe_tup h) fun σ H Q ⟨ρ, F, d, hr, e, q⟩ => by
    obtain ⟨as, ea, e⟩ := bind_ok_iff.mp e
    cases e
    refine ⟨ρ, F, as, hr, ea, fun xs H1 s1 rs => ⟨?_, fun p hp => q _ _ (s1.trans (Same.upd_new hp _)) (rep_tup_new (hr.same s1).trk hp rs)⟩⟩
    rw [← rs.length, eList_len ea]
    exact Nat.le_trans hl (by decide)
theorem je_lst {es : List Expr} {fs : List Ex} (h : JA X es (eList fs)) (hl : fs.length ≤ 1000 := by decide) : JE X (.List es pos) (eLst fs) :=
  PE_imp (L2.pe_lst h) fun σ H Q ⟨ρ, F, d, hr, e, q⟩ => by
    obtain ⟨as, ea, e⟩ := bind_ok_iff.mp e
    cases e
    refine ⟨ρ, F, as, hr, ea, fun xs H1 s1 rs => ⟨?_, fun p hp => q _ _ (s1.trans (Same.upd_new hp _)) (rep_lst_new (hr.same s1).trk hp rs)⟩⟩
    rw [← rs.length, eList_len ea]
    exact Nat.le_trans hl (by decide)
end
end PL
set_option Elab.async false
set_option linter.all false
set_option maxRecDepth 100000
namespace PL
open PySem PySem.Spec
open L2 (V Hp HO Cx PE PT PW PA PS PSs VK TE TT TA TS TI Inv RelV Vals Rd SqL SqT upd Same Key XK Ends OpR UnR CallR R2 EP)
section
variable {X : Cx} {M : Md} {H H' : Hp} {F : Addr → Prop} {σ : L2.St} {ρ : En} {pos : Pos} {pins : List (Addr × Obj)} {s : Shared}
/-! ### x[i] of lists, tuples, texts -/
theorem ix_eq (n : Nat) (i : Int) : L2.ixN n i = ixN n i := rfl
theorem at_eq {α : Type} (xs : List α) (i : Int) : L2.atI xs i = atI xs i := rfl
theorem at_len {α β : Type} {xs : List α} {ys : List β} {i : Int} {x : α} (hl : xs.length = ys.length) (h : atI xs i = some x) : ∃ j y, ixN ys.length i = some j ∧ xs[j]? = some x ∧ ys[j]? = some y ∧ atI ys i = some y := by
  unfold atI at h ⊢
  rw [hl] at h
  cases e : ixN ys.length i with
  | none => rw [e] at h; cases h
  | some j =>
    rw [e] at h
    have hx : xs[j]? = some x := h
    obtain ⟨hj, _⟩ := List.getElem?_eq_some_iff.mp hx
    have hy : j < ys.length := by omega
    exact ⟨j, ys[j], rfl, hx, List.getElem?_eq_getElem hy, by simp [hy]⟩
theorem l_ixQ : OpL M oIxQ (L2.rIx M.K) := by
  intro F H x y a b d Q tr ra rb e q
  unfold oIxQ at e
  split at e
  · split at e
    · rename_i xs i _ v hv
      cases e
      simp only [Rep] at ra
      obtain ⟨p, ys, rfl, h, rs⟩ := ra
      obtain ⟨j, y, _, h1, h2, h3⟩ := at_len rs.length hv
      obtain ⟨z, hz, rz⟩ := rs.get h1
      rw [h2] at hz
      cases hz
      exact .inl ⟨p, ys, _, y, rfl, rep_int rb, h.sq, h3, q _ _ (Same.refl _) rz⟩
    · cases e
  · split at e
    · rename_i xs i _ v hv
      cases e
      simp only [Rep] at ra
      obtain ⟨p, ys, rfl, h, rs⟩ := ra
      obtain ⟨j, y, _, h1, h2, h3⟩ := at_len rs.length hv
      obtain ⟨z, hz, rz⟩ := rs.get h1
      rw [h2] at hz
      cases hz
      exact .inr (.inl ⟨p, ys, _, y, rfl, rep_int rb, h.sq, h3, q _ _ (Same.refl _) rz⟩)
    · cases e
  · split at e
    · split at e
      · rename_i hz _ c hc
        cases e
        exact .inr (.inr ⟨_, _, c, rep_str ra, rep_int rb, hz, hc, q _ _ (Same.refl _) rep_str_mk⟩)
      · cases e
    · cases e
  · cases e
/-! ### slices -/
theorem sIx_eq (n d : Nat) (o : Option Int) : HT.sIx n d o = sIx n d o := by cases o <;> rfl
theorem cut_eq (xs : List V) (lo hi : Option Int) : L2.cutV xs lo hi = cut xs lo hi := by unfold L2.cutV cut; simp only [sIx_eq]
theorem Reps.cut {ds : List D} {xs : List V} (lo hi : Option Int) (r : Reps M H F ds xs) : Reps M H F (cut ds lo hi) (PL.cut xs lo hi) := by
  unfold PL.cut
  rw [r.length]
  exact (r.drop _).take _
abbrev rSl := V → Option Int → Option Int → Hp → VK → Prop
/-- a part of a slice -/
def tPO (M : Md) (f : En → R (Option Int)) : L2.TO := fun σ H Q => ∃ ρ F o, RepS M H F σ ρ ∧ f ρ = .ok o ∧ ∀ H', Same H H' → Q o H'
abbrev JO (X : Cx) (e : Option Expr) (f : Option Ex) : Prop := L2.PO X e (tPO (mdOf X) (eOpt f))
theorem jo_none : JO X none none := fun pins s σ H Q I ⟨ρ, F, o, hr, e, q⟩ => by
  cases e
  exact L2.po_none pins s σ H Q I (q H (Same.refl H))
theorem jo_some {e : Expr} {f : Ex} (h : JE X e f) : JO X (some e) (some f) := fun pins s σ H Q I ⟨ρ, F, o, hr, e, q⟩ => by
  obtain ⟨a, ea, e⟩ := bind_ok_iff.mp e
  refine L2.po_some h pins s σ H Q I ⟨ρ, F, a, hr, ea, fun x H1 s1 rx => ?_⟩
  split at e
  · cases e; exact ⟨_, rep_int rx, q H1 s1⟩
  · cases e
def rSl2 (K : PySem.W.Frag) : rSl := fun x lo hi H Q => L2.rSlL K x lo hi H Q ∨ L2.rSlT K x lo hi H Q
theorem je_sl {a : Expr} {lo hi : Option Expr} {fa : Ex} {fl fh : Option Ex} {p2 : Pos} (ha : JE X a fa) (hl : JO X lo fl) (hh : JO X hi fh) : JE X (.Subscript a (.Slice lo hi none p2) pos) (eSl fa fl fh) :=
  PE_imp (L2.pe_slice (L2.SlR.or L2.sl_list L2.sl_tup) ha hl hh) fun σ H Q ⟨ρ, F, d, hr, e, q⟩ => by
    obtain ⟨a, ea, e⟩ := bind_ok_iff.mp e
    obtain ⟨l, el, e⟩ := bind_ok_iff.mp e
    obtain ⟨h, eh, e⟩ := bind_ok_iff.mp e
    refine ⟨ρ, F, a, hr, ea, fun x H1 s1 rx => ⟨ρ, F, l, hr.same s1, el, fun H2 s2 => ⟨ρ, F, h, (hr.same s1).same s2, eh, fun H3 s3 => ?_⟩⟩⟩
    have rx' := rx.mv (.same (s2.trans s3))
    have tr := (((hr.same s1).same s2).same s3).trk
    have s123 := s1.trans (s2.trans s3)
    unfold oSl at e
    split at e
    · cases e
      simp only [Rep] at rx'
      obtain ⟨p, xs, rfl, h1, rs⟩ := rx'
      refine .inl ⟨p, xs, rfl, h1.sq, fun b hb => ?_⟩
      rw [cut_eq]
      exact q _ _ (s123.trans (Same.upd_new hb _)) (rep_lst_new tr hb (rs.cut _ _))
    · split at e
      · cases e
      · rename_i hw
        cases e
        simp only [Rep] at rx'
        obtain ⟨p, xs, rfl, h1, rs⟩ := rx'
        refine .inr ⟨p, xs, rfl, h1.sq, ?_, fun b hb => ?_⟩
        · rw [sIx_eq, sIx_eq, ← rs.length]; exact hw
        · rw [cut_eq]
          exact q _ _ (s123.trans (Same.upd_new hb _)) (rep_tup_new tr hb (rs.cut _ _))
    · cases e
/-! ### calls of built-ins -/
theorem tCB_of {g : List D → R D} {r : List V → Hp → VK → Prop} (hg : CaL M g r) {fs : List Ex} {Q : VK} (h : tP M (eCall g fs) σ H Q) : L2.tCB r (tPA M (eList fs)) σ H Q := by
  obtain ⟨ρ, F, d, hr, e, q⟩ := h
  obtain ⟨as, ea, e⟩ := bind_ok_iff.mp e
  exact ⟨ρ, F, as, hr, ea, fun xs H1 s1 rs => hg F H1 xs as d Q (hr.same s1).trk rs e fun v H2 s2 rv => q v H2 (s1.trans s2) rv⟩
/-- a mirror of one argument, of two -/
@[simp] def g1 (g : D → R D) : List D → R D
  | [a] => g a
  | _ => .bad
@[simp] def g2 (g : D → D → R D) : List D → R D
  | [a, b] => g a b
  | _ => .bad
theorem e1_call (g : D → R D) (f : Ex) : e1 g f = eCall (g1 g) [f] := by
  funext ρ
  show (f ρ).bind g = ((f ρ).bind fun x => R.bind (R.ok []) fun xs => R.ok (x :: xs)).bind (g1 g)
  cases f ρ <;> rfl
theorem e2_call (g : D → D → R D) (f f' : Ex) : e2 g f f' = eCall (g2 g) [f, f'] := by
  funext ρ
  show (f ρ).bind _ = ((f ρ).bind fun x => ((f' ρ).bind fun y => R.bind (R.ok []) fun ys => R.ok (y :: ys)).bind fun xs => R.ok (x :: xs)).bind (g2 g)
  cases f ρ with
  | ok a => cases f' ρ <;> rfl
  | _ => rfl
theorem Reps.one {d : D} {xs : List V} (r : Reps M H F [d] xs) : ∃ x, xs = [x] ∧ Rep M H F d x := by
  simp only [Reps] at r
  obtain ⟨x, t, rfl, h, rfl⟩ := r
  exact ⟨x, rfl, h⟩
theorem Reps.two {d e : D} {xs : List V} (r : Reps M H F [d, e] xs) : ∃ x y, xs = [x, y] ∧ Rep M H F d x ∧ Rep M H F e y := by
  simp only [Reps] at r
  obtain ⟨x, t, rfl, h, y, u, rfl, h2, rfl⟩ := r
  exact ⟨x, y, rfl, h, h2⟩
/-- f(e), f a built-in function -/
theorem je_b1 {g : D → R D} {r : List V → Hp → VK → Prop} {x : Str} {id : String} {a : Expr} {fa : Ex} {p : Pos} (hc : CallR X (.builtin id) r) (hg : CaL (mdOf X) (g1 g) r) (hgl : L2.Gl X x) (hm : X.mg x = none) (hv : bootBuiltins x = some (.builtin id)) (ha : JE X a fa)
    (hs : starEach [a] X.env = (false, eval a X.env) :: starEach [] X.env := by rfl) (hn : x ≠ "__name__" := by decide) (hdb : (x == ("__debug__" : Str)) = false := by decide) : JE X (.Call (.Name x p) [a] [] pos) (e1 g fa) := by
  rw [e1_call]
  exact PE_imp (L2.pe_callB hc hgl hm hv (ja_cons ha ja_nil hs) hn hdb hs) fun σ H Q h => tCB_of hg h
theorem je_b2 {g : D → D → R D} {r : List V → Hp → VK → Prop} {x : Str} {id : String} {a b : Expr} {fa fb : Ex} {p : Pos} (hc : CallR X (.builtin id) r) (hg : CaL (mdOf X) (g2 g) r) (hgl : L2.Gl X x) (hm : X.mg x = none) (hv : bootBuiltins x = some (.builtin id)) (ha : JE X a fa) (hb : JE X b fb)
    (hs : starEach [a, b] X.env = (false, eval a X.env) :: starEach [b] X.env := by rfl) (hs2 : starEach [b] X.env = (false, eval b X.env) :: starEach [] X.env := by rfl) (hn : x ≠ "__name__" := by decide) (hdb : (x == ("__debug__" : Str)) = false := by decide) : JE X (.Call (.Name x p) [a, b] [] pos) (e2 g fa fb) := by
  rw [e2_call]
  exact PE_imp (L2.pe_callB hc hgl hm hv (ja_cons ha (ja_cons hb ja_nil hs2) hs) hn hdb hs (by rw [hs2]; rfl)) fun σ H Q h => tCB_of hg h
theorem je_t1 {g : D → R D} {r : List V → Hp → VK → Prop} {x : Str} {T : String} {a : Expr} {fa : Ex} {p : Pos} (hc : CallR X (.type T) r) (hg : CaL (mdOf X) (g1 g) r) (hgl : L2.Gl X x) (hm : X.mg x = none) (hv : bootBuiltins x = some (.type T)) (ha : JE X a fa)
    (hs : starEach [a] X.env = (false, eval a X.env) :: starEach [] X.env := by rfl) (hn : x ≠ "__name__" := by decide) (hdb : (x == ("__debug__" : Str)) = false := by decide) : JE X (.Call (.Name x p) [a] [] pos) (e1 g fa) := by
  rw [e1_call]
  exact PE_imp (L2.pe_callTy hc hgl hm hv (ja_cons ha ja_nil hs) hn hdb hs) fun σ H Q h => tCB_of hg h
/-- len -/
def rLen (M : Md) : List V → Hp → VK → Prop := fun xs H Q => (∃ p ys, xs = [.ref p] ∧ (SqL M.K H p ys ∨ SqT M.K H p ys) ∧ Q (.int ys.length) H) ∨ (∃ z, xs = [.str z] ∧ z.length ≤ sizeLine ∧ Q (.int z.length) H)
theorem call_len : CallR X (.builtin "len") (rLen (mdOf X)) := L2.CallR.or L2.call_len_seq L2.call_len_str
theorem l_len : CaL M (g1 oLen) (rLen M) := by
  intro F H xs as d Q tr rs e q
  unfold g1 at e
  split at e
  · obtain ⟨x, rfl, r⟩ := rs.one
    unfold oLen at e
    split at e
    · cases e
      simp only [Rep] at r
      obtain ⟨p, ys, rfl, h, rs⟩ := r
      exact .inl ⟨p, ys, rfl, .inl h.sq, q _ _ (Same.refl _) (by rw [← rs.length]; exact rep_int_mk)⟩
    · cases e
      simp only [Rep] at r
      obtain ⟨p, ys, rfl, h, rs⟩ := r
      exact .inl ⟨p, ys, rfl, .inr h.sq, q _ _ (Same.refl _) (by rw [← rs.length]; exact rep_int_mk)⟩
    · split at e
      · cases e
        exact .inr ⟨_, by rw [rep_str r], by assumption, q _ _ (Same.refl _) rep_int_mk⟩
      · cases e
    · cases e
  · cases e
theorem l_list : CaL M (g1 oList) (fun xs H Q => ∃ p ys, xs = [.ref p] ∧ (SqL M.K H p ys ∨ SqT M.K H p ys) ∧ ∀ l, H l = none → Q (.ref l) (upd H l (.lst ys))) := by
  intro F H xs as d Q tr rs e q
  unfold g1 at e
  split at e
  · obtain ⟨x, rfl, r⟩ := rs.one
    unfold oList at e
    split at e
    · cases e
      simp only [Rep] at r
      obtain ⟨p, ys, rfl, h, rs⟩ := r
      exact ⟨p, ys, rfl, .inl h.sq, fun l hl => q _ _ (Same.upd_new hl _) (rep_lst_new tr hl rs)⟩
    · cases e
      simp only [Rep] at r
      obtain ⟨p, ys, rfl, h, rs⟩ := r
      exact ⟨p, ys, rfl, .inr h.sq, fun l hl => q _ _ (Same.upd_new hl _) (rep_lst_new tr hl rs)⟩
    · cases e
  · cases e
theorem l_tuple : CaL M (g1 oTuple) (fun xs H Q => ∃ p ys, xs = [.ref p] ∧ ((SqL M.K H p ys ∧ ∀ l, H l = none → Q (.ref l) (upd H l (.tup ys))) ∨ (SqT M.K H p ys ∧ Q (.ref p) H))) := by
  intro F H xs as d Q tr rs e q
  unfold g1 at e
  split at e
  · obtain ⟨x, rfl, r⟩ := rs.one
    unfold oTuple at e
    split at e
    · cases e
      simp only [Rep] at r
      obtain ⟨p, ys, rfl, h, rs⟩ := r
      exact ⟨p, ys, rfl, .inl ⟨h.sq, fun l hl => q _ _ (Same.upd_new hl _) (rep_tup_new tr hl rs)⟩⟩
    · cases e
      have r' := r
      simp only [Rep] at r
      obtain ⟨p, ys, rfl, h, rs⟩ := r
      exact ⟨p, ys, rfl, .inr ⟨h.sq, q _ _ (Same.refl _) r'⟩⟩
    · cases e
  · cases e
theorem l_min : CaL M (g2 oMin) (fun xs H Q => ∃ i j, xs = [.int i, .int j] ∧ Q (.int (if j < i then j else i)) H) := by
  intro F H xs as d Q tr rs e q
  unfold g2 at e
  split at e
  · obtain ⟨x, y, rfl, r, r2⟩ := rs.two
    unfold oMin at e
    split at e
    · cases e; exact ⟨_, _, by rw [rep_int r, rep_int r2], q _ _ (Same.refl _) rep_int_mk⟩
    · cases e
  · cases e
end
end PL
set_option Elab.async false
set_option linter.all false
set_option maxRecDepth 100000
namespace PL
open PySem PySem.Spec
open L2 (V Hp HO Cx PE PT PW PA PS PSs VK TE TT TA TS TI Inv RelV Vals Rd SqL SqT upd Same Key XK Ends OpR UnR CallR R2 EP)
section
variable {X : Cx} {M : Md} {H H' : Hp} {F : Addr → Prop} {σ : L2.St} {ρ : En} {pos : Pos} {pins : List (Addr × Obj)} {s : Shared}
/-! ### == and != : by the library's reading of data -/
mutual
def pyd : D → PyData
  | .non => .none
  | .bl b => .bool b
  | .int i => .int i
  | .str x => .str x
  | .tup xs => .tuple (pyds xs)
  | .lst xs => .list (pyds xs)
  | .dct _ _ => .dict []
  | .exn _ _ _ => .dict []
def pyds : List D → List PyData
  | [] => []
  | x :: xs => pyd x :: pyds xs
end
mutual
theorem pyd_eqv : ∀ (a b : D), lay a = true → lay b = true → PyData.eqv (pyd a) (pyd b) = eqD a b
  | .non, b, _, hb => by cases b <;> first | rfl | (simp [lay] at hb)
  | .bl _, b, _, hb => by cases b <;> first | rfl | (simp [lay] at hb)
  | .int _, b, _, hb => by cases b <;> first | rfl | (simp [lay] at hb)
  | .str x, b, _, hb => by
    cases b with
    | str y => show (x == y) = decide (x = y); rw [Bool.eq_iff_iff, beq_iff_eq, decide_eq_true_eq]
    | _ => first | rfl | (simp [lay] at hb)
  | .tup xs, b, ha, hb => by
    cases b with
    | tup ys => simp only [lay] at ha hb; exact pyds_eqv xs ys ha hb
    | _ => first | rfl | (simp [lay] at hb)
  | .lst xs, b, ha, hb => by
    cases b with
    | lst ys => simp only [lay] at ha hb; exact pyds_eqv xs ys ha hb
    | _ => first | rfl | (simp [lay] at hb)
  | .dct _ _, _, ha, _ => by simp [lay] at ha
  | .exn _ _ _, _, ha, _ => by simp [lay] at ha
theorem pyds_eqv : ∀ (a b : List D), lays a = true → lays b = true → PyData.eqvAll (pyds a) (pyds b) = eqDs a b
  | [], [], _, _ => rfl
  | [], _ :: _, _, _ => rfl
  | _ :: _, [], _, _ => rfl
  | x :: xs, y :: ys, ha, hb => by
    simp only [lays, Bool.and_eq_true] at ha hb
    show (PyData.eqv (pyd x) (pyd y) && PyData.eqvAll (pyds xs) (pyds ys)) = (eqD x y && eqDs xs ys)
    rw [pyd_eqv x y ha.1 hb.1, pyds_eqv xs ys ha.2 hb.2]
end
mutual
theorem lay_can : ∀ a : D, lay a = true → (pyd a).canLay0 = true
  | .non, _ => rfl
  | .bl _, _ => rfl
  | .int _, _ => rfl
  | .str x, h => by simp only [lay] at h; exact h
  | .tup xs, h => by simp only [lay] at h; exact lays_can xs h
  | .lst xs, h => by simp only [lay] at h; exact lays_can xs h
  | .dct _ _, h => by simp [lay] at h
  | .exn _ _ _, h => by simp [lay] at h
theorem lays_can : ∀ a : List D, lays a = true → PyData.canLayAll0 (pyds a) = true
  | [], _ => rfl
  | x :: xs, h => by
    simp only [lays, Bool.and_eq_true] at h
    show ((pyd x).canLay0 && PyData.canLayAll0 (pyds xs)) = true
    rw [lay_can x h.1, lays_can xs h.2]; rfl
end
mutual
theorem pyd_dep : ∀ a : D, lay a = true → (pyd a).depth = dep a
  | .non, _ => rfl
  | .bl _, _ => rfl
  | .int _, _ => rfl
  | .str _, _ => rfl
  | .tup xs, h => by simp only [lay] at h; show PyData.depthAll (pyds xs) + 1 = _; rw [pyds_dep xs h]; simp only [dep]
  | .lst xs, h => by simp only [lay] at h; show PyData.depthAll (pyds xs) + 1 = _; rw [pyds_dep xs h]; simp only [dep]
  | .dct _ _, h => by simp [lay] at h
  | .exn _ _ _, h => by simp [lay] at h
theorem pyds_dep : ∀ a : List D, lays a = true → PyData.depthAll (pyds a) = deps a
  | [], _ => rfl
  | x :: xs, h => by
    simp only [lays, Bool.and_eq_true] at h
    show max (pyd x).depth (PyData.depthAll (pyds xs)) = _
    rw [pyd_dep x h.1, pyds_dep xs h.2]; simp only [deps]
end
mutual
theorem rep_reads (I : Inv X pins σ H s) : ∀ {a : D} {x : V} {u : Value}, lay a = true → Rep (mdOf X) H F a x → RelV x u → ∃ as, Reads s.heap u (pyd a) as
  | .non, _, _, _, r, rx => by cases rep_non r; cases rx; exact ⟨_, .none⟩
  | .bl b, _, _, _, r, rx => by cases rep_bl r; cases rx; exact ⟨_, .bool b⟩
  | .int i, _, _, _, r, rx => by cases rep_int r; obtain ⟨t, rfl⟩ := rx; exact ⟨_, .int i t⟩
  | .str z, _, _, _, r, rx => by cases rep_str r; obtain ⟨t, rfl⟩ := rx; exact ⟨_, .str z t⟩
  | .tup ds, _, _, h, r, rx => by
    simp only [lay] at h
    simp only [Rep] at r
    obtain ⟨p, xs, rfl, t, rs⟩ := r
    cases rx
    obtain ⟨its, rv, ⟨o, e, c, n, d⟩, _⟩ := tp_at I t
    obtain ⟨as, ra⟩ := reps_reads I h rs rv
    exact ⟨_, .tuple e c d (by simpa using ra)⟩
  | .lst ds, _, _, h, r, rx => by
    simp only [lay] at h
    simp only [Rep] at r
    obtain ⟨p, xs, rfl, t, rs⟩ := r
    cases rx
    obtain ⟨its, n, sl, rv, e, _⟩ := ls_at I t
    obtain ⟨as, ra⟩ := reps_reads I h rs rv
    exact ⟨_, .list e rfl rfl (by simpa using ra)⟩
  | .dct _ _, _, _, h, _, _ => by simp [lay] at h
  | .exn _ _ _, _, _, h, _, _ => by simp [lay] at h
theorem reps_reads (I : Inv X pins σ H s) : ∀ {as : List D} {xs : List V} {us : List Value}, lays as = true → Reps (mdOf X) H F as xs → Vals xs us → ∃ bs, ReadsAll s.heap us (pyds as) bs
  | [], _, _, _, r, rv => by simp only [Reps] at r; subst r; cases rv; exact ⟨_, .nil⟩
  | a :: as, _, _, h, r, rv => by
    simp only [lays, Bool.and_eq_true] at h
    simp only [Reps] at r
    obtain ⟨x, t, rfl, r1, r2⟩ := r
    cases rv with
    | cons q w =>
      obtain ⟨bs, h1⟩ := rep_reads I h.1 r1 q
      obtain ⟨cs, h2⟩ := reps_reads I h.2 r2 w
      exact ⟨_, .cons h1 h2⟩
end
/-! ### a dict against a text -/
theorem dict_eq_declines_str (l : Addr) (es : Array DictEntry) (n : Nat) (dd : Option Addr) (sl : Array (Option Value)) (b : Str) (u : Tok) :
    Meets (Builtin.«dict.__eq__» ⟨[.ref l, .str b u], []⟩) (fun _ R s => s.heap.get? l = some { cls := .type "dict", dict := dd, data := .dict es n, slots := sl } ∧ R (.ok (.ret .notImplemented)) s) :=
  .of_wp fun prog w A R s h => by obtain ⟨hp, g, d, tk, os⟩ := s; obtain ⟨hl, h⟩ := h; have f1 := F.sub_str_dict; wp_walk; exact ⟨_, rfl, h⟩
theorem str_eq_declines_dict (b : Str) (u : Tok) (l : Addr) (es : Array DictEntry) (n : Nat) (dd : Option Addr) (sl : Array (Option Value)) :
    Meets (Builtin.«str.__eq__» ⟨[.str b u, .ref l], []⟩) (fun _ R s => s.heap.get? l = some { cls := .type "dict", dict := dd, data := .dict es n, slots := sl } ∧ R (.ok (.ret .notImplemented)) s) :=
  .of_wp fun prog w A R s h => by obtain ⟨hp, g, d, tk, os⟩ := s; obtain ⟨hl, h⟩ := h; wp_walk using AutoSeq1.wpAny_loadPart' hl, wpAny_load hl; exact ⟨_, rfl, h⟩
theorem rc_dict_str {A : Around} {l : Addr} {o : Obj} {es : Array DictEntry} {n : Nat} (b : Str) (u : Tok) (ho : s.heap.get? l = some o) (hc : o.cls = .type "dict") (hd : o.data = .dict es n) (hu : A.units < cLine) : SeqAt.RcAt A s (.ref l) (.str b u) false := fun prog w E Q h => by
  obtain ⟨cls, dd, data, sl⟩ := o
  simp only at hc hd
  subst hc hd
  exact SeqAt.rc_eq_decline_or (k := false) ⟨_, ho, rfl⟩ (typeIs_str s b u) (by decide) F.sub_str_dict F.slot_dict_eq F.slot_str_eq_refl
    (fun _ hq => call_meets F.slot_dict_eq ⟨_, ho, rfl⟩ F.entry_dict_eq (F.args_dict_eq_2 _ _) (dict_eq_declines_str l es n dd sl b u) ⟨ho, hq⟩)
    (fun _ hq => call_meets F.slot_str_eq_refl (typeIs_str s b u) F.entry_str_eq (F.args_str_eq_2 _ _) (str_eq_declines_dict b u l es n dd sl) ⟨ho, hq⟩)
    (fun _ hq => wpAny_of_eq (rfl : isSame (.ref l) (.str b u) = pure false) hq) (.inr hu) h
theorem dc_at {a : Addr} {kvs : List (Key × V)} (I : Inv X pins σ H s) (h : DcR (mdOf X) H F a kvs) : kvs.length ≤ sizeLine ∧ (a == sysModules) = false ∧ ∃ vs, L2.KV kvs vs ∧ s.heap.DictOf (L2.mixKind X.prog X.w) a vs := by
  rcases h with ⟨_, h⟩ | ⟨o, es, ep, vs, h1, h2, h3, h4, h5, h6, h7, h8, h9⟩
  · exact L2.dk_rd I.hok h
  · exact ⟨h8, h9, vs, h7, o, es, ep, I.kIn a o h1, h2, h3, h4, h5, h6⟩
/-! ### == and != -/
def rEqD (M : Md) : R2 := fun x y H Q => ∃ F a b, Rep M H F a x ∧ Rep M H F b y ∧ eqOk a b = true ∧ Q (.bl (eqD a b)) H
def rNeD (M : Md) : R2 := fun x y H Q => ∃ F a b, Rep M H F a x ∧ Rep M H F b y ∧ neOk a b = true ∧ Q (.bl (!eqD a b)) H
theorem str_beq (a b : Str) : (a == b) = decide (a = b) := by rw [Bool.eq_iff_iff, beq_iff_eq, decide_eq_true_eq]
theorem rc_flat {A : Around} {a b : D} {x y : V} {u v : Value} (fa : flat a = true) (fb : flat b = true) (ra : Rep M H F a x) (rb : Rep M H F b y) (rx : RelV x u) (ry : RelV y v) : SeqAt.RcAt A s u v (eqD a b) := by
  cases a <;> (try cases fa) <;> cases b <;> (try cases fb) <;> simp only [Rep] at ra rb <;> subst ra <;> subst rb
  · cases rx; cases ry; exact SeqAt.RcAt.none_none
  · cases rx; cases ry; exact SeqAt.RcAt.none_bool _
  · cases rx; obtain ⟨t, rfl⟩ := ry; exact SeqAt.RcAt.none_int _ _
  · cases rx; obtain ⟨t, rfl⟩ := ry; exact SeqAt.RcAt.none_str _ _
  · cases rx; cases ry; exact SeqAt.RcAt.bool_none _
  · cases rx; cases ry; exact SeqAt.RcAt.bool_bool _ _
  · cases rx; obtain ⟨t, rfl⟩ := ry; exact SeqAt.RcAt.bool_int _ _ _
  · cases rx; obtain ⟨t, rfl⟩ := ry; exact SeqAt.RcAt.bool_str _ _ _
  · obtain ⟨t, rfl⟩ := rx; cases ry; exact SeqAt.RcAt.int_none _ _
  · obtain ⟨t, rfl⟩ := rx; cases ry; exact SeqAt.RcAt.int_bool _ _ _
  · obtain ⟨t, rfl⟩ := rx; obtain ⟨t, rfl⟩ := ry; exact SeqAt.RcAt.int_int _ _ _ _
  · obtain ⟨t, rfl⟩ := rx; obtain ⟨t, rfl⟩ := ry; exact SeqAt.RcAt.int_str _ _ _ _
  · obtain ⟨t, rfl⟩ := rx; cases ry; exact SeqAt.RcAt.str_none _ _
  · obtain ⟨t, rfl⟩ := rx; cases ry; exact SeqAt.RcAt.str_bool _ _ _
  · obtain ⟨t, rfl⟩ := rx; obtain ⟨t, rfl⟩ := ry; exact SeqAt.RcAt.str_int _ _ _ _
  · obtain ⟨t, rfl⟩ := rx; obtain ⟨t, rfl⟩ := ry; simp only [eqD]; rw [← str_beq]; exact SeqAt.RcAt.str_str _ _ _ _
theorem rcne_flat {A : Around} {a b : D} {x y : V} {u v : Value} (fa : flat a = true) (fb : flat b = true) (ra : Rep M H F a x) (rb : Rep M H F b y) (rx : RelV x u) (ry : RelV y v) : SeqAt.RcNeAt A s u v (!eqD a b) := by
  cases a <;> (try cases fa) <;> cases b <;> (try cases fb) <;> simp only [Rep] at ra rb <;> subst ra <;> subst rb
  · cases rx; cases ry; exact SeqAt.RcNeAt.none_none
  · cases rx; cases ry; exact SeqAt.RcNeAt.none_bool _
  · cases rx; obtain ⟨t, rfl⟩ := ry; exact SeqAt.RcNeAt.none_int _ _
  · cases rx; obtain ⟨t, rfl⟩ := ry; exact SeqAt.RcNeAt.none_str _ _
  · cases rx; cases ry; exact SeqAt.RcNeAt.bool_none _
  · cases rx; cases ry; exact SeqAt.RcNeAt.bool_bool _ _
  · cases rx; obtain ⟨t, rfl⟩ := ry; exact SeqAt.RcNeAt.bool_int _ _ _
  · cases rx; obtain ⟨t, rfl⟩ := ry; exact SeqAt.RcNeAt.bool_str _ _ _
  · obtain ⟨t, rfl⟩ := rx; cases ry; exact SeqAt.RcNeAt.int_none _ _
  · obtain ⟨t, rfl⟩ := rx; cases ry; exact SeqAt.RcNeAt.int_bool _ _ _
  · obtain ⟨t, rfl⟩ := rx; obtain ⟨t, rfl⟩ := ry; exact SeqAt.RcNeAt.int_int _ _ _ _
  · obtain ⟨t, rfl⟩ := rx; obtain ⟨t, rfl⟩ := ry; exact SeqAt.RcNeAt.int_str _ _ _ _
  · obtain ⟨t, rfl⟩ := rx; cases ry; exact SeqAt.RcNeAt.str_none _ _
  · obtain ⟨t, rfl⟩ := rx; cases ry; exact SeqAt.RcNeAt.str_bool _ _ _
  · obtain ⟨t, rfl⟩ := rx; obtain ⟨t, rfl⟩ := ry; exact SeqAt.RcNeAt.str_int _ _ _ _
  · obtain ⟨t, rfl⟩ := rx; obtain ⟨t, rfl⟩ := ry; simp only [eqD]; rw [← str_beq]; exact SeqAt.RcNeAt.str_str _ _ _ _
theorem tup_nil_eq (ds : List D) : ((List.range (min ds.length 0)).all (fun _ => true) && (ds.length == 0)) = eqD (.tup ds) (.tup []) := by
  cases ds <;> simp
theorem rc_tup_nil {A : Around} {ds : List D} {x y : V} {u v : Value} (I : Inv X pins σ H s) (hu : A.units < cLine) (ra : Rep (mdOf X) H F (.tup ds) x) (rb : Rep (mdOf X) H F (.tup []) y) (rx : RelV x u) (ry : RelV y v) :
    SeqAt.RcAt A s u v (eqD (.tup ds) (.tup [])) ∧ SeqAt.RcNeAt A s u v (!eqD (.tup ds) (.tup [])) := by
  simp only [Rep] at ra rb
  obtain ⟨p, xs, rfl, h, rs⟩ := ra
  obtain ⟨p2, xs2, rfl, h2, rs2⟩ := rb
  cases rx
  cases ry
  simp only [Reps] at rs2
  subst rs2
  obtain ⟨its, rv, ⟨o, e, c, n, d⟩, _⟩ := tp_at I h
  obtain ⟨its2, rv2, ⟨o2, e2, c2, n2, d2⟩, _⟩ := tp_at I h2
  cases rv2
  have hl : its.toArray.size = ds.length := by rw [List.size_toArray, ← rv.length, ← rs.length]
  have z1 := SeqAt.RcAt.tuples (A := A) (s := s) (e := fun _ => true) (l := p) (b := p2) ⟨o, e, c, n, d⟩ ⟨o2, e2, c2, n2, d2⟩ hu (fun j _ h2 => by simp at h2)
  have z2 := SeqAt.RcNeAt.tuples (A := A) (s := s) (e := fun _ => true) (l := p) (b := p2) ⟨o, e, c, n, d⟩ ⟨o2, e2, c2, n2, d2⟩ hu (fun j _ h2 => by simp at h2)
  rw [← tup_nil_eq]
  rw [hl] at z1 z2
  exact ⟨z1, z2⟩
theorem op_neD (hu : X.A.units + 64 < cLine) : OpR X (compareOp .NotEq) (rNeD (mdOf X)) := by
  intro pins s σ H x y v u Q I rx ry h
  obtain ⟨F, a, b, ra, rb, ok, q⟩ := h
  have fin : EP X pins σ Q (.bool (!eqD a b)) s := ⟨.bl _, H, I, rfl, q⟩
  unfold neOk at ok
  rw [Bool.or_eq_true, Bool.or_eq_true, Bool.and_eq_true] at ok
  rcases ok with (⟨fa, fb⟩ | t) | l
  · exact rcne_flat fa fb ra rb rx ry _ _ _ _ fin
  · unfold tupNil at t
    split at t
    · exact (rc_tup_nil I (by omega) ra rb rx ry).2 _ _ _ _ fin
    · cases t
  · rw [Bool.and_eq_true, Bool.and_eq_true, decide_eq_true_eq] at l
    obtain ⟨⟨la, lb⟩, hd⟩ := l
    obtain ⟨as, h1⟩ := rep_reads I la ra rx
    obtain ⟨bs, h2⟩ := rep_reads I lb rb ry
    refine SeqAt.compareNe_reads h1 h2 (lay_can a la) (lay_can b lb) (by rw [pyd_dep a la, pyd_dep b lb]; omega) ?_
    rw [pyd_eqv a b la lb]
    exact fin
theorem op_eqD (hu : X.A.units + 64 < cLine) : OpR X (compareOp .Eq) (rEqD (mdOf X)) := by
  intro pins s σ H x y v u Q I rx ry h
  obtain ⟨F, a, b, ra, rb, ok, q⟩ := h
  have fin : EP X pins σ Q (.bool (eqD a b)) s := ⟨.bl _, H, I, rfl, q⟩
  unfold eqOk at ok
  rw [Bool.or_eq_true] at ok
  rcases ok with ok | dc
  · unfold neOk at ok
    rw [Bool.or_eq_true, Bool.or_eq_true, Bool.and_eq_true] at ok
    rcases ok with (⟨fa, fb⟩ | t) | l
    · exact rc_flat fa fb ra rb rx ry _ _ _ _ fin
    · unfold tupNil at t
      split at t
      · exact (rc_tup_nil I (by omega) ra rb rx ry).1 _ _ _ _ fin
      · cases t
    · rw [Bool.and_eq_true, Bool.and_eq_true, decide_eq_true_eq] at l
      obtain ⟨⟨la, lb⟩, hd⟩ := l
      obtain ⟨as, h1⟩ := rep_reads I la ra rx
      obtain ⟨bs, h2⟩ := rep_reads I lb rb ry
      refine SeqAt.compareEq_reads h1 h2 (lay_can a la) (lay_can b lb) (by rw [pyd_dep a la, pyd_dep b lb]; omega) ?_
      rw [pyd_eqv a b la lb]
      exact fin
  · unfold dctStr at dc
    split at dc
    · cases rep_str rb
      obtain ⟨t, rfl⟩ := ry
      simp only [Rep] at ra
      obtain ⟨p, xs, rfl, h, _⟩ := ra
      cases rx
      obtain ⟨_, _, vs, _, o, es, ep, e1, e2, e3, _⟩ := dc_at I h
      exact rc_dict_str _ t e1 e2.1 e3 (by omega) _ _ _ _ fin
    · cases dc
theorem l_eq : OpL M oEq (rEqD M) := by
  intro F H x y a b d Q tr ra rb e q
  unfold oEq at e
  split at e
  · cases e; exact ⟨F, a, b, ra, rb, by assumption, q _ _ (Same.refl _) rep_bl_mk⟩
  · cases e
theorem l_ne : OpL M oNe (rNeD M) := by
  intro F H x y a b d Q tr ra rb e q
  unfold oNe at e
  split at e
  · cases e; exact ⟨F, a, b, ra, rb, by assumption, q _ _ (Same.refl _) rep_bl_mk⟩
  · cases e
theorem bin_eq : Bin oEq := fun a b d h => by unfold oEq at h; split at h <;> cases h; exact ⟨_, rfl⟩
theorem bin_ne : Bin oNe := fun a b d h => by unfold oNe at h; split at h <;> cases h; exact ⟨_, rfl⟩
theorem bin_lt : Bin oLt := fun a b d h => by unfold oLt at h; split at h <;> cases h; exact ⟨_, rfl⟩
theorem bin_gt : Bin oGt := fun a b d h => by unfold oGt at h; split at h <;> cases h; exact ⟨_, rfl⟩
/-! ### the built-in names -/
theorem bt_isinstance : bootBuiltins "isinstance" = some (.builtin "isinstance") := by decide +kernel
theorem bt_len : bootBuiltins "len" = some (.builtin "len") := by decide +kernel
theorem bt_min : bootBuiltins "min" = some (.builtin "min") := by decide +kernel
theorem bt_int : bootBuiltins "int" = some (.type "int") := by decide +kernel
theorem bt_bool : bootBuiltins "bool" = some (.type "bool") := by decide +kernel
theorem bt_list : bootBuiltins "list" = some (.type "list") := by decide +kernel
theorem bt_tuple : bootBuiltins "tuple" = some (.type "tuple") := by decide +kernel
/-! ### isinstance -/
def tyN : Ty → String
  | .int => "int" | .bool => "bool" | .str => "str" | .tuple => "tuple" | .list => "list" | .dict => "dict"
theorem call_isA : CallR X (.builtin "isinstance") (fun xs H Q => ∃ F d x b ty, xs = [x, .ty (tyN ty)] ∧ Rep (mdOf X) H F d x ∧ oIsA ty d = .ok (.bl b) ∧ (∀ c ns vs, d ≠ .exn c ns vs) ∧ Q (.bl b) H) := by
  intro pins s σ H xs us Q I r h
  obtain ⟨F, d, x, b, ty, rfl, rd, e, ne, q⟩ := h
  obtain ⟨u, w, rfl, ru, rw'⟩ := L2.vals2 r
  cases (show w = Value.type (tyN ty) from rw')
  have fin : ∀ tk, EP X pins σ Q (.bool b) { s with toks := tk } := fun tk => ⟨.bl _, H, I.tok tk, rfl, q⟩
  cases d with
  | non => cases rep_non rd; cases ru; cases ty <;> cases e <;> exact PySem.W.kia_one PySem.W.kitx_none I.kIn True.intro rfl (fun z => nomatch z) fin
  | bl y => cases rep_bl rd; cases ru; cases ty <;> cases e <;> exact PySem.W.kia_one PySem.W.kitx_bool I.kIn True.intro rfl (fun z => nomatch z) fin
  | int i => cases rep_int rd; obtain ⟨t, rfl⟩ := ru; cases ty <;> cases e <;> exact PySem.W.kia_one PySem.W.kitx_int I.kIn True.intro rfl (fun z => nomatch z) fin
  | str z => cases rep_str rd; obtain ⟨t, rfl⟩ := ru; cases ty <;> cases e <;> exact PySem.W.kia_one PySem.W.kitx_str I.kIn True.intro rfl (fun z => nomatch z) fin
  | tup ds =>
    simp only [Rep] at rd
    obtain ⟨p, xs, rfl, h, _⟩ := rd
    cases ru
    obtain ⟨its, _, ⟨o, h1, h2, _⟩, _⟩ := tp_at I h
    cases ty <;> cases e <;> exact PySem.W.kia_one PySem.W.kitx_tuple I.kIn ⟨o, h1, h2⟩ rfl (fun z => nomatch z) fin
  | lst ds =>
    simp only [Rep] at rd
    obtain ⟨p, xs, rfl, h, _⟩ := rd
    cases ru
    obtain ⟨its, n, sl, _, h1, _⟩ := ls_at I h
    cases ty <;> cases e <;> exact PySem.W.kia_one PySem.W.kitx_list I.kIn ⟨_, h1, rfl⟩ rfl (fun z => nomatch z) fin
  | dct ks ds =>
    simp only [Rep] at rd
    obtain ⟨p, xs, rfl, h, _⟩ := rd
    cases ru
    obtain ⟨_, _, vs, _, o, es, ep, e1, e2, e3, _⟩ := dc_at I h
    cases ty <;> cases e <;> exact PySem.W.kia_one PySem.W.kitx_dict I.kIn ⟨o, e1, e2.1⟩ rfl (fun z => nomatch z) fin
  | exn c ns vs => exact absurd rfl (ne _ _ _)
theorem isA_bl {ty : Ty} {d r : D} (h : oIsA ty d = .ok r) : ∃ b, r = .bl b := by
  unfold oIsA at h
  split at h <;> cases h <;> exact ⟨_, rfl⟩
/-- isinstance(e, T) -/
theorem je_isA (ty : Ty) {a : Expr} {fa : Ex} {p p2 : Pos} {T : Str} (ha : JE X a fa) (hg : L2.Gl X "isinstance") (hm : X.mg "isinstance" = none) (hgT : L2.Gl X T) (hmT : X.mg T = none) (hvT : bootBuiltins T = some (.type (tyN ty)))
    (hs : starEach [a, .Name T p2] X.env = (false, eval a X.env) :: starEach [.Name T p2] X.env := by rfl) (hs2 : starEach [.Name T p2] X.env = (false, eval (.Name T p2) X.env) :: starEach [] X.env := by rfl)
    (hnT : T ≠ "__name__" := by decide) (hdT : (T == ("__debug__" : Str)) = false := by decide) : JE X (.Call (.Name "isinstance" p) [a, .Name T p2] [] pos) (e1 (oIsA ty) fa) :=
  PE_imp (L2.pe_callB call_isA hg hm bt_isinstance (L2.pa_cons ha (L2.pa_cons (L2.pe_bltn (v := .ty (tyN ty)) hgT hmT hvT rfl hnT hdT) L2.pa_nil hs2) hs) (by decide) (by decide) hs (by rw [hs2]; rfl)) fun σ H Q ⟨ρ, F, d, hr, e, q⟩ => by
    obtain ⟨a, ea, e⟩ := bind_ok_iff.mp e
    obtain ⟨b, rfl⟩ := isA_bl e
    refine ⟨ρ, F, a, hr, ea, fun x H1 s1 rx => ⟨F, a, x, b, ty, rfl, rx, e, ?_, q _ _ s1 rep_bl_mk⟩⟩
    intro c ns vs h
    subst h
    cases ty <;> cases e
end
end PL
set_option Elab.async false
set_option linter.all false
set_option maxRecDepth 100000
namespace PL
open PySem PySem.Spec
open L2 (V Hp HO Cx PE PT PW PA PS PSs PG PGs VK TE TT TA TS TI TG Inv RelV Vals Rd SqL SqT upd Same Key XK Ends OpR UnR CallR R2 EP)
/-! ### a frame: G the heap at its entry, F0 what its callers hold alone -/
structure RepG (M : Md) (G : Hp) (F0 : Addr → Prop) (H : Hp) (F : Addr → Prop) (σ : L2.St) (ρ : En) : Prop where
  rs : RepS M H F σ ρ
  sm : Same G H
  sub : ∀ a, F0 a → F a
  trk0 : ∀ a, F0 a → ∃ o, G a = some o
  own : ∀ (i : Nat) a, Owned ρ i → σ[i]? = some (some (.ref a)) → G a = none
  onG : ∀ (i : Nat) xss b, ρ[i]? = some (.on xss) → OnAt H σ i b → G b = none
/-- behind a statement -/
def EndG (M : Md) (G : Hp) (F0 : Addr → Prop) (H : Hp) (F : Addr → Prop) (D : Ends) : Fl → Prop
  | .next ρ' => ∀ σ' H' F', Mv F H F' H' → RepG M G F0 H' F' σ' ρ' → D.nx σ' H'
  | .brk ρ' => ∀ σ' H' F', Mv F H F' H' → RepG M G F0 H' F' σ' ρ' → D.bk σ' H'
  | .cont ρ' => ∀ σ' H' F', Mv F H F' H' → RepG M G F0 H' F' σ' ρ' → D.ct σ' H'
  | .ret d => ∀ v H' F', Mv F H F' H' → Same G H' → (∀ a, F0 a → F' a) → Rep M H' F' d v → D.rt v H'
  | .retN d => ∀ p H' F' xs ds, d = .lst ds → Mv F H F' H' → Same G H' → (∀ a, F0 a → F' a) → H' p = none → Reps M H' F' ds xs → D.rt (.ref p) (upd H' p (.lst xs))
def tPS (M : Md) (G : Hp) (F0 : Addr → Prop) (f : Sm) : TS := fun D σ H => ∃ ρ F fl, RepG M G F0 H F σ ρ ∧ f ρ = .ok fl ∧ EndG M G F0 H F D fl
abbrev JS (X : Cx) (st : Stmt) (f : Sm) : Prop := ∀ F0, PS X st (tPS (mdOf X) X.H₀ F0 f)
abbrev JSs (X : Cx) (sts : List Stmt) (f : Sm) : Prop := ∀ F0, PSs X sts (tPS (mdOf X) X.H₀ F0 f)
theorem PS_imp {X : Cx} {e : Stmt} {t t' : TS} (h : PS X e t') (hi : ∀ D σ H, t D σ H → t' D σ H) : PS X e t := fun pins s σ H Q I q => h pins s σ H Q I (hi Q σ H q)
theorem PSs_imp {X : Cx} {e : List Stmt} {t t' : TS} (h : PSs X e t') (hi : ∀ D σ H, t D σ H → t' D σ H) : PSs X e t := fun pins s σ H Q I q => h pins s σ H Q I (hi Q σ H q)
theorem Mv.refl {F : Addr → Prop} {H : Hp} : Mv F H F H := fun _ _ n e => ⟨n, e⟩
section
variable {X : Cx} {M : Md} {G H H' : Hp} {F0 F F' : Addr → Prop} {σ : L2.St} {ρ : En} {pos : Pos} {DE : Ends}
theorem RepG.same (r : RepG M G F0 H F σ ρ) (h : Same H H') : RepG M G F0 H' F σ ρ := ⟨r.rs.same h, r.sm.trans h, r.sub, r.trk0, r.own, fun i xss b e hb => r.onG i xss b e (r.rs.on.back e rfl (fun a u _ _ hu => h _ _ hu) hb)⟩
theorem EndG.mv (m : Mv F H F' H') : ∀ {fl : Fl}, EndG M G F0 H F DE fl → EndG M G F0 H' F' DE fl
  | .next _, h => fun σ' H2 F2 m2 r => h σ' H2 F2 (m.trans m2) r
  | .brk _, h => fun σ' H2 F2 m2 r => h σ' H2 F2 (m.trans m2) r
  | .cont _, h => fun σ' H2 F2 m2 r => h σ' H2 F2 (m.trans m2) r
  | .ret _, h => fun σ' H2 F2 m2 a b r => h σ' H2 F2 (m.trans m2) a b r
  | .retN _, h => fun p H2 F2 xs ds e m2 a b c r => h p H2 F2 xs ds e (m.trans m2) a b c r
/-! ### blocks -/
theorem js_nil : JSs X [] (sBlk []) := fun F0 => PSs_imp L2.pss_nil fun D σ H ⟨ρ, F, fl, r, e, q⟩ => by
  cases e
  exact q σ H F Mv.refl r
theorem js_nil' : JSs X [] sNil := js_nil
theorem seq_of {f g : Sm} {t u : TS} (hf : ∀ D σ H, tPS M G F0 f D σ H → t D σ H) (hg : ∀ D σ H, tPS M G F0 g D σ H → u D σ H) (D : Ends) (σ : L2.St) (H : Hp) (h : tPS M G F0 (sSeq f g) D σ H) : L2.tSeq t u D σ H := by
  obtain ⟨ρ, F, fl, r, e, q⟩ := h
  obtain ⟨f1, e1, e⟩ := bind_ok_iff.mp e
  refine hf _ _ _ ⟨ρ, F, f1, r, e1, ?_⟩
  cases f1 with
  | next ρ1 => exact fun σ1 H1 F1 m1 r1 => hg D σ1 H1 ⟨ρ1, F1, fl, r1, e, q.mv m1⟩
  | ret d => cases e; exact q
  | brk d => cases e; exact q
  | cont d => cases e; exact q
  | retN d => cases e; exact q
theorem js_cons {st : Stmt} {rest : List Stmt} {f : Sm} {fs : List Sm} (h1 : JS X st f) (h2 : JSs X rest (sBlk fs)) : JSs X (st :: rest) (sBlk (f :: fs)) := fun F0 =>
  PSs_imp (L2.pss_cons (h1 F0) (h2 F0)) fun D σ H h => seq_of (fun _ _ _ h => h) (fun _ _ _ h => h) D σ H h
theorem js_one {st : Stmt} {f : Sm} (h : JS X st f) : JSs X [st] f := fun F0 => L2.pss_one (h F0)
/-! ### statements -/
theorem js_if {c : Expr} {a b : List Stmt} {fc : Tst} {fa fb : Sm} (hc : JT X c fc) (ha : JSs X a fa) (hb : JSs X b fb) : JS X (.If c a b pos) (sIf fc fa fb) := fun F0 =>
  PS_imp (L2.ps_if hc (ha F0) (hb F0)) fun D σ H ⟨ρ, F, fl, r, e, q⟩ => by
    obtain ⟨t, et, e⟩ := bind_ok_iff.mp e
    refine ⟨ρ, F, t, r.rs, et, fun H1 s1 => ?_⟩
    split at e
    · rename_i h; rw [if_pos h]; exact ⟨ρ, F, fl, r.same s1, e, q.mv (.same s1)⟩
    · rename_i h; rw [if_neg h]; exact ⟨ρ, F, fl, r.same s1, e, q.mv (.same s1)⟩
theorem js_ret {a : Expr} {fa : Ex} (ha : JE X a fa) : JS X (.Return (some a) pos) (sRet fa) := fun F0 =>
  PS_imp (L2.ps_ret ha) fun D σ H ⟨ρ, F, fl, r, e, q⟩ => by
    obtain ⟨d, ed, e⟩ := bind_ok_iff.mp e
    cases e
    exact ⟨ρ, F, d, r.rs, ed, fun v H1 s1 rv => q v H1 F (.same s1) (r.sm.trans s1) r.sub rv⟩
/-! ### targets -/
def tPG (M : Md) (G : Hp) (F0 : Addr → Prop) (g : Tgt) : TG := fun v σ H Q => ∃ ρ F d ρ', RepG M G F0 H F σ ρ ∧ Rep M H F d v ∧ g d ρ = .ok ρ' ∧ ∀ σ', RepG M G F0 H F σ' ρ' → Q σ' H
def tPGs (M : Md) (G : Hp) (F0 : Addr → Prop) (g : List D → En → R En) : L2.TGs := fun vs σ H Q => ∃ ρ F ds ρ', RepG M G F0 H F σ ρ ∧ Reps M H F ds vs ∧ g ds ρ = .ok ρ' ∧ ∀ σ', RepG M G F0 H F σ' ρ' → Q σ' H
abbrev JG (X : Cx) (e : Expr) (g : Tgt) : Prop := ∀ F0, PG X e (tPG (mdOf X) X.H₀ F0 g)
abbrev JGs (X : Cx) (es : List Expr) (g : List D → En → R En) : Prop := ∀ F0, PGs X es (tPGs (mdOf X) X.H₀ F0 g)
theorem PG_imp {X : Cx} {e : Expr} {t t' : TG} (h : PG X e t') (hi : ∀ v σ H Q, t v σ H Q → t' v σ H Q) : PG X e t := fun pins s σ H x u Q I rx q => h pins s σ H x u Q I rx (hi x σ H Q q)
theorem PGs_imp {X : Cx} {e : List Expr} {t t' : L2.TGs} (h : PGs X e t') (hi : ∀ v σ H Q, t v σ H Q → t' v σ H Q) : PGs X e t := fun pins s σ H x u Q I rx q => h pins s σ H x u Q I rx (hi x σ H Q q)
theorem Owned.set_ne {ρ : En} {i j : Nat} {d : D} (h : Owned (ρ.set i (.sh d)) j) : i ≠ j ∧ Owned ρ j := by
  rcases h with ⟨ds, q⟩ | ⟨ks, ds, q⟩
  · rcases get_set q with ⟨_, x, _⟩ | ⟨hne, q⟩
    · cases x
    · exact ⟨hne, .inl ⟨ds, q⟩⟩
  · rcases get_set q with ⟨_, x, _⟩ | ⟨hne, q⟩
    · cases x
    · exact ⟨hne, .inr ⟨ks, ds, q⟩⟩
theorem RepG.setSh {i : Nat} {d : D} {v : V} (r : RepG M G F0 H F σ ρ) (h : Rep M H F d v) : RepG M G F0 H F (σ.set i (some v)) (ρ.set i (.sh d)) where
  rs := r.rs.setSh h
  sm := r.sm
  sub := r.sub
  trk0 := r.trk0
  own j a o e := by
    obtain ⟨ne, o⟩ := o.set_ne
    rw [List.getElem?_set_ne ne] at e
    exact r.own j a o e
  onG j xss b e hb := by
    rcases get_set e with ⟨_, x, _⟩ | ⟨hne, e⟩
    · cases x
    · exact r.onG j xss b e (r.rs.on.back e (List.getElem?_set_ne hne) (fun a u _ _ hu => hu) hb)
theorem jg_name (i : Nat) {x : Str} (hN : X.N.Nodup) (hi : X.N[i]? = some x := by rfl) (hx : L2.Loc X.env.scope x := by exact Or.inl rfl) (hf : X.fn x = true ∨ X.env.scope.names.lookup x = some .local := by first | exact .inl rfl | exact .inr rfl) : JG X (.Name x pos) (gName i) := fun F0 =>
  PG_imp (L2.pg_name hN hi hx hf) fun v σ H Q ⟨ρ, F, d, ρ', r, rv, e, q⟩ => by
    cases e
    exact q _ (r.setSh rv)
theorem jgs_nil : JGs X [] (gNames []) := fun F0 =>
  PGs_imp L2.pgs_nil fun vs σ H Q ⟨ρ, F, ds, ρ', r, rv, e, q⟩ => by
    cases ds with
    | nil => cases e; simp only [Reps] at rv; exact ⟨rv, q _ r⟩
    | cons _ _ => cases e
theorem pgs_go {is : List Nat} {i : Nat} {t : TG} {u : L2.TGs} (ht : ∀ v σ H Q, tPG M G F0 (gName i) v σ H Q → t v σ H Q) (hu : ∀ v σ H Q, tPGs M G F0 (gNames is) v σ H Q → u v σ H Q) (vs : List V) (σ : L2.St) (H : Hp) (Q : L2.St → Hp → Prop)
    (h : tPGs M G F0 (gNames (i :: is)) vs σ H Q) : L2.gCons t u vs σ H Q := by
  obtain ⟨ρ, F, ds, ρ', r, rv, e, q⟩ := h
  cases ds with
  | nil => cases e
  | cons d ds =>
    simp only [Reps] at rv
    obtain ⟨x, xs, rfl, rx, rxs⟩ := rv
    refine ⟨x, xs, rfl, ht _ _ _ _ ⟨ρ, F, d, _, r, rx, rfl, fun σ1 r1 => hu _ _ _ _ ⟨_, F, ds, ρ', r1, rxs, e, q⟩⟩⟩
theorem jgs_cons (i : Nat) {is : List Nat} {e : Expr} {es : List Expr} (h1 : JG X e (gName i)) (h2 : JGs X es (gNames is)) (hs : (assignEach (e :: es) X.env).map (·.2) = assign e X.env :: (assignEach es X.env).map (·.2) := by rfl) : JGs X (e :: es) (gNames (i :: is)) := fun F0 =>
  PGs_imp (L2.pgs_cons (h1 F0) (h2 F0) hs) fun vs σ H Q h => pgs_go (fun _ _ _ _ h => h) (fun _ _ _ _ h => h) vs σ H Q h
theorem gNames_len : ∀ {is : List Nat} {ds : List D} {ρ ρ' : En}, gNames is ds ρ = .ok ρ' → ds.length = is.length
  | [], [], _, _, _ => rfl
  | _ :: _, _ :: _, _, _, h => by simp only [gNames] at h; simp [gNames_len h]
  | [], _ :: _, _, _, h => by cases h
  | _ :: _, [], _, _, h => by cases h
theorem jg_tup {is : List Nat} {es : List Expr} {k : Nat} (hc : X.calm = true) (h : JGs X es (gNames is)) (hn : (assignEach es X.env).length = is.length := by rfl) (hst : (assignEach es X.env).findIdx? (·.1) = none := by rfl) : JG X (.Tuple es k pos) (gTup is) := fun F0 =>
  PG_imp (L2.pg_tup hc (h F0) hn hst) fun v σ H Q ⟨ρ, F, d, ρ', r, rv, e, q⟩ => by
    unfold gTup at e
    split at e
    · rename_i ds
      simp only [Rep] at rv
      obtain ⟨a, xs, rfl, h1, rs⟩ := rv
      exact ⟨a, xs, rfl, h1.sq, by rw [← rs.length]; exact gNames_len e, ρ, F, ds, ρ', r, rs, e, q⟩
    · cases e
theorem js_asg {tg e : Expr} {fa : Ex} {g : Tgt} (ha : JE X e fa) (hg : JG X tg g) (hs : swapsWithSole [tg] e pos.line X.env = pure false := by rfl) (hw : swappedStores [tg] e X.env = pure none := by rfl) (h1 : (assignEach [tg] X.env).map (·.2) = [assign tg X.env] := by rfl) : JS X (.Assign [tg] e pos) (sAsg g fa) := fun F0 =>
  PS_imp (L2.ps_asg ha (hg F0) hs hw h1) fun D σ H ⟨ρ, F, fl, r, e, q⟩ => by
    obtain ⟨d, ed, e⟩ := bind_ok_iff.mp e
    obtain ⟨ρ', eg, e⟩ := bind_ok_iff.mp e
    cases e
    exact ⟨ρ, F, d, r.rs, ed, fun v H1 s1 rv => ⟨ρ, F, d, ρ', r.same s1, rv, eg, fun σ' r' => q σ' H1 F (.same s1) r'⟩⟩
/-! ### what a loop walks -/
/-- the iterator J gives the data ds, whatever happens to things that are held alone -/
def Gives (M : Md) (J : L2.It) (H1 : Hp) (F1 : Addr → Prop) (ds : List D) : Prop := ∀ H F, Mv F1 H1 F H → (∀ p, F p → ∃ o, H p = some o) →
  (∀ i d, ds[i]? = some d → J.go i H ∧ ∀ x H', J.yld i H x H' → Same H H' ∧ Rep M H' F d x) ∧ J.stop ds.length H
def tPI (M : Md) (f : En → R (List D)) : TI := fun σ H Rr => ∃ ρ F ds, RepS M H F σ ρ ∧ f ρ = .ok ds ∧ ∀ J H', Same H H' → Gives M J H' F ds → Rr J H'
abbrev JI (X : Cx) (tg e : Expr) (f : Itr) : Prop := L2.PI X tg e (tPI (mdOf X) f)
theorem PI_imp {X : Cx} {tg e : Expr} {t t' : TI} (h : L2.PI X tg e t') (hi : ∀ σ H Q, t σ H Q → t' σ H Q) : L2.PI X tg e t := fun pins s σ H Q I q => h pins s σ H Q I (hi σ H Q q)
/-- the turns -/
theorem for_of {J : L2.It} {tg : Tgt} {body : Sm} {g : TG} {tb : TS} (hg : ∀ v σ H Q, tPG M G F0 tg v σ H Q → g v σ H Q) (hb : ∀ D σ H, tPS M G F0 body D σ H → tb D σ H)
    {H1 : Hp} {F1 : Addr → Prop} {ds : List D} (gv : Gives M J H1 F1 ds) {ρ : En} (r : RepG M G F0 H1 F1 σ ρ) {fl : Fl} (e : forL tg body ds ρ = .ok fl) (q : EndG M G F0 H1 F1 DE fl) :
    ∃ W : Nat → Nat → L2.St → Hp → Prop, (∃ m, W 0 m σ H1) ∧ ∀ i m σ H, W i m σ H →
      (J.stop i H ∧ DE.nx σ H) ∨ (J.go i H ∧ ∃ N : L2.St → Hp → Prop, (∀ σ' H', N σ' H' → ∃ m', m' < m ∧ W (i + 1) m' σ' H') ∧ ∀ x H', J.yld i H x H' → g x σ H' fun σ2 H2 => tb { DE with nx := N, ct := N, bk := DE.nx } σ2 H2) := by
  refine ⟨fun i m σ H => m = ds.length - i ∧ i ≤ ds.length ∧ ∃ ρ F, Mv F1 H1 F H ∧ RepG M G F0 H F σ ρ ∧ forL tg body (ds.drop i) ρ = .ok fl, ⟨ds.length, by simp, Nat.zero_le _, ρ, F1, Mv.refl, r, e⟩, ?_⟩
  rintro i m σ H ⟨rfl, hi, ρ, F, mv, r, e⟩
  obtain ⟨g1, g2⟩ := gv H F mv r.rs.trk
  by_cases hlt : i < ds.length
  · refine .inr ⟨(g1 i ds[i] (by simp [hlt])).1, fun σ' H' => i + 1 ≤ ds.length ∧ ∃ ρ F, Mv F1 H1 F H' ∧ RepG M G F0 H' F σ' ρ ∧ forL tg body (ds.drop (i + 1)) ρ = .ok fl, fun σ' H' p' => ⟨ds.length - (i + 1), by omega, rfl, p'.1, p'.2⟩, fun x H' y => ?_⟩
    obtain ⟨s1, rx⟩ := (g1 i ds[i] (by simp [hlt])).2 x H' y
    rw [List.drop_eq_getElem_cons hlt] at e
    unfold forL at e
    obtain ⟨ρ1, e1, e⟩ := bind_ok_iff.mp e
    obtain ⟨f, e2, e⟩ := bind_ok_iff.mp e
    refine hg _ _ _ _ ⟨ρ, F, ds[i], ρ1, r.same s1, rx, e1, fun σ2 r2 => hb _ _ _ ⟨ρ1, F, f, r2, e2, ?_⟩⟩
    have mv1 : Mv F1 H1 F H' := mv.trans (.same s1)
    cases f with
    | next ρ2 => exact fun σ3 H3 F3 m3 r3 => ⟨hlt, ρ2, F3, mv1.trans m3, r3, e⟩
    | cont ρ2 => exact fun σ3 H3 F3 m3 r3 => ⟨hlt, ρ2, F3, mv1.trans m3, r3, e⟩
    | brk ρ2 => cases e; exact fun σ3 H3 F3 m3 r3 => q σ3 H3 F3 (mv1.trans m3) r3
    | ret d => cases e; exact fun v H3 F3 m3 a b rv => q v H3 F3 (mv1.trans m3) a b rv
    | retN d => cases e; exact fun p H3 F3 xs ds e m3 a b c rv => q p H3 F3 xs ds e (mv1.trans m3) a b c rv
  · have ei : i = ds.length := by omega
    subst ei
    rw [List.drop_length] at e
    cases e
    exact .inl ⟨g2, q σ H F mv r⟩
theorem js_for {tg iter : Expr} {body : List Stmt} {it : Itr} {g : Tgt} {f : Sm} (hp : PassesOwn (model X.prog X.w) X.A X.env X.xe) (hc : X.calm = true) (hi : JI X tg iter it) (hg : JG X tg g) (hb : JSs X body f)
    (hs : ∀ x, foldedSetIterable iter X.env x = pure x := by intro _; rfl) : JS X (.For tg iter body [] pos) (sFor it g f) := fun F0 =>
  PS_imp (L2.ps_for hp hc hi (hg F0) (hb F0) hs) fun D σ H ⟨ρ, F, fl, r, e, q⟩ => by
    obtain ⟨ds, ed, e⟩ := bind_ok_iff.mp e
    exact ⟨ρ, F, ds, r.rs, ed, fun J H1 s1 gv => for_of (fun _ _ _ _ h => h) (fun _ _ _ h => h) gv (r.same s1) e (q.mv (.same s1))⟩
/-! ### over lists, tuples, ranges -/
theorem gives_list {a : Addr} {xs : List V} {ds : List D} (h : LsR M H F a xs) (rs : Reps M H F ds xs) : Gives M (L2.Itl M.K a) H F ds := by
  intro H' F' mv tr
  have h' := h.mv mv
  have rs' := rs.mv mv
  refine ⟨fun i d hd => ?_, ?_⟩
  · obtain ⟨x, hx, rx⟩ := rs'.get hd
    refine ⟨⟨xs, x, h'.sq, hx⟩, fun y H2 hy => ?_⟩
    obtain ⟨rfl, hy⟩ := hy
    have := hy xs h'.sq
    rw [hx] at this
    cases this
    exact ⟨Same.refl _, rx⟩
  · exact ⟨xs, h'.sq, by rw [rs.length]; exact Nat.le_refl _⟩
theorem gives_tup {a : Addr} {xs : List V} {ds : List D} (h : TpR M H F a xs) (rs : Reps M H F ds xs) : Gives M (L2.Itt M.K a) H F ds := by
  intro H' F' mv tr
  have h' := h.mv mv
  have rs' := rs.mv mv
  refine ⟨fun i d hd => ?_, ?_⟩
  · obtain ⟨x, hx, rx⟩ := rs'.get hd
    refine ⟨⟨xs, x, h'.sq, hx⟩, fun y H2 hy => ?_⟩
    obtain ⟨rfl, hy⟩ := hy
    have := hy xs h'.sq
    rw [hx] at this
    cases this
    exact ⟨Same.refl _, rx⟩
  · exact ⟨xs, h'.sq, by rw [rs.length]; exact Nat.le_refl _⟩
theorem gives_rng {lo hi : Int} : Gives M (L2.Itr lo (hi - lo).toNat) H F (rangeL lo hi) := by
  intro H' F' mv tr
  refine ⟨fun i d hd => ?_, ?_⟩
  · unfold rangeL at hd
    rw [List.getElem?_map] at hd
    cases e : (List.range (hi - lo).toNat)[i]? with
    | none => rw [e] at hd; cases hd
    | some k =>
      rw [e] at hd
      obtain ⟨hlt, hk⟩ := List.getElem?_eq_some_iff.mp e
      simp at hk hlt hd
      subst hk hd
      refine ⟨show i < (hi - lo).toNat by omega, fun y H2 hy => ?_⟩
      obtain ⟨rfl, rfl⟩ := hy
      exact ⟨Same.refl _, rep_int_mk⟩
  · show (hi - lo).toNat ≤ (rangeL lo hi).length
    unfold rangeL; simp
/-- a list's items, a tuple's items -/
@[simp] def itemsL : D → R (List D)
  | .lst xs => .ok xs
  | _ => .bad
@[simp] def itemsT : D → R (List D)
  | .tup xs => .ok xs
  | _ => .bad
def iSeqL (a : Ex) : Itr := fun ρ => (a ρ).bind itemsL
def iSeqT (a : Ex) : Itr := fun ρ => (a ρ).bind itemsT
theorem inR_iff {j : Int} (h : inR j = true) : -(2 ^ 62) ≤ j ∧ j < 2 ^ 62 := by
  unfold inR at h
  rw [Bool.and_eq_true, decide_eq_true_eq, decide_eq_true_eq] at h
  exact ⟨by omega, by omega⟩
theorem ji_rng1 {tg a : Expr} {fa : Ex} {p : Pos} (hg : L2.Gl X "range") (hm : X.mg "range" = none) (ha : JE X a fa) (hs : starEach [a] X.env = (false, eval a X.env) :: starEach [] X.env := by rfl) : JI X tg (.Call (.Name "range" p) [a] [] pos) (iRng1 fa) :=
  PI_imp (L2.pi_range1 hg hm (ja_cons ha ja_nil hs) hs) fun σ H Q ⟨ρ, F, ds, r, e, q⟩ => by
    obtain ⟨d, ed, e⟩ := bind_ok_iff.mp e
    refine ⟨ρ, F, [d], r, by show (fa ρ).bind _ = _; rw [ed]; rfl, fun vs H1 s1 rv => ?_⟩
    obtain ⟨x, rfl, rx⟩ := rv.one
    split at e
    · split at e
      · rename_i j hj
        cases e
        have hj := inR_iff hj
        have := q (L2.Itr 0 j.toNat) H1 s1 (by have := gives_rng (M := mdOf X) (H := H1) (F := F) (lo := 0) (hi := j); rwa [Int.sub_zero] at this)
        exact ⟨j, by rw [rep_int rx], hj.1, hj.2, this⟩
      · cases e
    · cases e
theorem ji_rng2 {tg a b : Expr} {fa fb : Ex} {p : Pos} (hg : L2.Gl X "range") (hm : X.mg "range" = none) (ha : JE X a fa) (hb : JE X b fb) (hs : starEach [a, b] X.env = (false, eval a X.env) :: starEach [b] X.env := by rfl) (hs2 : starEach [b] X.env = (false, eval b X.env) :: starEach [] X.env := by rfl) :
    JI X tg (.Call (.Name "range" p) [a, b] [] pos) (iRng2 fa fb) :=
  PI_imp (L2.pi_range2 hg hm (ja_cons ha (ja_cons hb ja_nil hs2) hs) (by rw [hs, hs2]; rfl) hs2) fun σ H Q ⟨ρ, F, ds, r, e, q⟩ => by
    obtain ⟨d, ed, e⟩ := bind_ok_iff.mp e
    obtain ⟨d2, ed2, e⟩ := bind_ok_iff.mp e
    refine ⟨ρ, F, [d, d2], r, by show (fa ρ).bind _ = _; rw [ed]; show ((fb ρ).bind _).bind _ = _; rw [ed2]; rfl, fun vs H1 s1 rv => ?_⟩
    obtain ⟨x, y, rfl, rx, ry⟩ := rv.two
    split at e
    · split at e
      · rename_i i j _ hj
        cases e
        rw [Bool.and_eq_true] at hj
        have h1 := inR_iff hj.1
        have h2 := inR_iff hj.2
        exact ⟨i, j, by rw [rep_int rx, rep_int ry], ⟨h1.1, h1.2, h2.1, h2.2⟩, q _ H1 s1 gives_rng⟩
      · cases e
    · cases e
/-! ### a def -/
def spM (M : Md) (m : List D → R D) (n : Nat) : L2.Sp := fun vs H Q _ => ∃ F ds d, (∀ p, F p → ∃ o, H p = some o) ∧ Reps M H F ds vs ∧ ds.length = n ∧ m ds = .ok d ∧ ∀ v H', Same H H' → Rep M H' F d v → Q v H'
theorem Rep.sub (hs : ∀ a, F a → F' a) {d : D} {v : V} (h : Rep M H F' d v) : Rep M H F d v := h.mv fun a o n e => ⟨fun f => n (hs a f), e⟩
/-- the names at a def's start -/
theorem start_rep {N : List Str} {n : Nat} {ds : List D} {vs : List V} (tr : ∀ p, F p → ∃ o, G p = some o) (rs : Reps M G F ds vs) (hl : ds.length = n) (hn : n ≤ N.length) : RepG M G F G F (L2.start N vs) (ds.map Slot.sh ++ List.replicate (N.length - ds.length) .un) := by
  have hl2 := rs.length
  have no : ∀ i, ¬ Owned (ds.map Slot.sh ++ List.replicate (N.length - ds.length) .un) i := by
    intro i hi
    have : ∀ s, (ds.map Slot.sh ++ List.replicate (N.length - ds.length) Slot.un)[i]? = some s → (∃ d, s = .sh d) ∨ s = .un := by
      intro s hs
      rw [List.getElem?_append] at hs
      split at hs
      · rw [List.getElem?_map] at hs
        cases e1 : ds[i]? with
        | none => rw [e1] at hs; cases hs
        | some d' => rw [e1] at hs; cases hs; exact .inl ⟨_, rfl⟩
      · rw [List.getElem?_replicate] at hs
        split at hs <;> cases hs
        exact .inr rfl
    rcases hi with ⟨x, hx⟩ | ⟨k, x, hx⟩
    · rcases this _ hx with ⟨_, h⟩ | h <;> cases h
    · rcases this _ hx with ⟨_, h⟩ | h <;> cases h
  have non : ∀ (i : Nat) xss, (ds.map Slot.sh ++ List.replicate (N.length - ds.length) Slot.un)[i]? ≠ some (.on xss) := by
    intro i xss hs
    rw [List.getElem?_append] at hs
    split at hs
    · rw [List.getElem?_map] at hs
      cases e1 : ds[i]? with
      | none => rw [e1] at hs; cases hs
      | some d' => rw [e1] at hs; cases hs
    · rw [List.getElem?_replicate] at hs
      split at hs <;> cases hs
  refine ⟨⟨?_, tr, ?_, ?_, ?_, ?_, .no non⟩, Same.refl _, fun _ h => h, tr, ?_, fun i xss b e => absurd e (non i xss)⟩
  · unfold L2.start; simp [hl2]
  · intro i d hd
    rw [List.getElem?_append] at hd
    split at hd
    · rw [List.getElem?_map] at hd
      cases e1 : ds[i]? with
      | none => rw [e1] at hd; cases hd
      | some d' =>
        rw [e1] at hd; cases hd
        obtain ⟨v, ev, rv⟩ := rs.get e1
        refine ⟨v, ?_, rv⟩
        unfold L2.start
        rw [List.getElem?_append_left (by obtain ⟨h, _⟩ := List.getElem?_eq_some_iff.mp ev; simpa using h), List.getElem?_map, ev]; rfl
    · rw [List.getElem?_replicate] at hd
      split at hd <;> cases hd
  · intro i d hd
    rw [List.getElem?_append] at hd
    split at hd
    · rw [List.getElem?_map] at hd
      cases e1 : ds[i]? with
      | none => rw [e1] at hd; cases hd
      | some d' => rw [e1] at hd; cases hd
    · rw [List.getElem?_replicate] at hd
      split at hd <;> cases hd
  · intro i k d hd
    rw [List.getElem?_append] at hd
    split at hd
    · rw [List.getElem?_map] at hd
      cases e1 : ds[i]? with
      | none => rw [e1] at hd; cases hd
      | some d' => rw [e1] at hd; cases hd
    · rw [List.getElem?_replicate] at hd
      split at hd <;> cases hd
  · intro i j a oi
    exact absurd oi (no i)
  · intro i a oi
    exact absurd oi (no i)
/-- the body's reading -/
theorem body_of {N : List Str} {n : Nat} {body : Sm} {vs : List V} {Q : VK} {E : XK} {t : TS} (ht : ∀ F0 D σ H, tPS M G F0 body D σ H → t D σ H) (h : spM M (fn N.length body) n vs G Q E) (hn : n ≤ N.length) : t { nx := fun _ H' => Q .non H', rt := Q } (L2.start N vs) G := by
  obtain ⟨F, ds, d, tr, rs, hl, e, q⟩ := h
  obtain ⟨f, ef, e⟩ := bind_ok_iff.mp e
  refine ht F _ _ _ ⟨_, F, f, start_rep tr rs hl hn, ef, ?_⟩
  cases f with
  | next ρ' => cases e; exact fun σ' H' F' mv r' => q _ _ r'.sm rep_non_mk
  | ret d' => cases e; exact fun v H' F' mv sm sub rv => q _ _ sm (rv.sub sub)
  | brk _ => cases e
  | cont _ => cases e
  | retN _ => cases e
/-- the same, of a def that returns a list of its own -/
def spN (M : Md) (m : List D → R D) (n : Nat) : L2.Sp := fun vs H Q _ => ∃ F ds d, (∀ p, F p → ∃ o, H p = some o) ∧ Reps M H F ds vs ∧ ds.length = n ∧ m ds = .ok (.lst d) ∧ ∀ p H' xs, Same H H' → H' p = none → Reps M H' F d xs → Q (.ref p) (upd H' p (.lst xs))
theorem Reps.sub (hs : ∀ a, F a → F' a) {d : List D} {v : List V} (h : Reps M H F' d v) : Reps M H F d v := h.mv fun a o n e => ⟨fun f => n (hs a f), e⟩
theorem body_ofN {N : List Str} {n : Nat} {body : Sm} {vs : List V} {Q : VK} {E : XK} {t : TS} (ht : ∀ F0 D σ H, tPS M G F0 body D σ H → t D σ H) (h : spN M (fnN N.length body) n vs G Q E) (hn : n ≤ N.length) : t { nx := fun _ H' => Q .non H', rt := Q } (L2.start N vs) G := by
  obtain ⟨F, ds, d, tr, rs, hl, e, q⟩ := h
  obtain ⟨f, ef, e⟩ := bind_ok_iff.mp e
  refine ht F _ _ _ ⟨_, F, f, start_rep tr rs hl hn, ef, ?_⟩
  cases f with
  | retN d' =>
    cases d' with
    | lst xs => cases e; exact fun p H' F' ys ds e mv sm sub hp rv => by cases e; exact q _ _ _ sm hp (rv.sub sub)
    | _ => cases e
  | _ => cases e
end
end PL
set_option Elab.async false
set_option linter.all false
set_option maxRecDepth 100000
namespace PL
open PySem PySem.Spec
open L2 (V Hp HO Cx PE PT PW PA PS PSs PG PGs VK TE TT TA TS TI TG Inv RelV Vals Rd SqL SqT upd Same Key XK Ends OpR UnR CallR R2 EP)
section
variable {X : Cx} {M : Md} {G H H' : Hp} {F0 F F' : Addr → Prop} {σ : L2.St} {ρ : En} {pos : Pos} {DE : Ends}
/-! ### new things of one's own -/
/-- what an owned slot and its object say -/
def Own (M : Md) (H : Hp) (F : Addr → Prop) (s : Slot) (o : HO) : Prop :=
  (∃ ds xs, s = .ol ds ∧ o = .lst xs ∧ Reps M H F ds xs) ∨ ∃ ks ds xs, s = .od ks ds ∧ o = .dK (ks.zip xs) ∧ ks.length = xs.length ∧ Reps M H F ds xs
theorem Own.mv {s : Slot} {o : HO} (m : Mv F H F' H') (h : Own M H F s o) : Own M H' F' s o := by
  rcases h with ⟨ds, xs, e1, e2, r⟩ | ⟨ks, ds, xs, e1, e2, l, r⟩
  · exact .inl ⟨ds, xs, e1, e2, r.mv m⟩
  · exact .inr ⟨ks, ds, xs, e1, e2, l, r.mv m⟩
theorem RepS.ownAt (r : RepS M H F σ ρ) {i : Nat} (o : Owned ρ i) : ∃ a s u, ρ[i]? = some s ∧ σ[i]? = some (some (.ref a)) ∧ F a ∧ H a = some u ∧ Own M H F s u := by
  rcases o with ⟨ds, q⟩ | ⟨ks, ds, q⟩
  · obtain ⟨a, xs, h1, h2, h3, h4⟩ := r.ol i ds q
    exact ⟨a, _, _, q, h1, h2, h3, .inl ⟨ds, xs, rfl, rfl, h4⟩⟩
  · obtain ⟨a, xs, h1, h2, h3, h4, h5⟩ := r.od i ks ds q
    exact ⟨a, _, _, q, h1, h2, h3, .inr ⟨ks, ds, xs, rfl, rfl, h4, h5⟩⟩
theorem owned_set {i j : Nat} {s : Slot} (h : Owned (ρ.set i s) j) : j = i ∨ (i ≠ j ∧ Owned ρ j) := by
  rcases h with ⟨ds, q⟩ | ⟨ks, ds, q⟩
  · rcases get_set q with ⟨h, _, _⟩ | ⟨hne, q⟩
    · exact .inl h.symm
    · exact .inr ⟨hne, .inl ⟨ds, q⟩⟩
  · rcases get_set q with ⟨h, _, _⟩ | ⟨hne, q⟩
    · exact .inl h.symm
    · exact .inr ⟨hne, .inr ⟨ks, ds, q⟩⟩
/-- slot i gets the thing at a, which nobody else holds; elsewhere nothing of the shared things changes -/
theorem RepS.put {i : Nat} {a : Addr} {s : Slot} {o : HO} (r : RepS M H F σ ρ) (mv : Mv F H F' H') (hF : ∀ b, F b → F' b) (ha : F' a) (ho : H' a = some o) (hk : ∀ b u, F b → b ≠ a → H b = some u → H' b = some u) (htr : ∀ b, F' b → F b ∨ b = a)
    (hn : ∀ j, j ≠ i → Owned ρ j → σ[j]? ≠ some (some (.ref a))) (hon : ∀ (j : Nat) xss b, j ≠ i → ρ[j]? = some (.on xss) → OnAt H σ j b → b ≠ a) (own : Own M H' F' s o) : RepS M H' F' (σ.set i (some (.ref a))) (ρ.set i s) where
  len := by simp [r.len]
  trk b f := by
    by_cases e : b = a
    · subst e; exact ⟨o, ho⟩
    · rcases htr b f with f | f
      · obtain ⟨u, hu⟩ := r.trk b f
        exact ⟨u, hk b u f e hu⟩
      · exact absurd f e
  sh j d q := by
    rcases get_set q with ⟨rfl, hx, hl⟩ | ⟨hne, q⟩
    · rcases own with ⟨ds, xs, rfl, _⟩ | ⟨ks, ds, xs, rfl, _⟩ <;> cases hx
    · obtain ⟨w, e1, g⟩ := r.sh j d q
      exact ⟨w, by rw [List.getElem?_set_ne hne]; exact e1, g.mv mv⟩
  ol j d q := by
    rcases get_set q with ⟨rfl, x, hl⟩ | ⟨hne, q⟩
    · rcases own with ⟨ds, xs, rfl, rfl, rs⟩ | ⟨ks, ds, xs, rfl, _⟩
      · cases x
        exact ⟨a, xs, by rw [List.getElem?_set_self (by rw [← r.len]; exact hl)], ha, ho, rs⟩
      · cases x
    · obtain ⟨b, xs, e1, f, e2, g⟩ := r.ol j d q
      refine ⟨b, xs, by rw [List.getElem?_set_ne hne]; exact e1, hF _ f, hk _ _ f ?_ e2, g.mv mv⟩
      rintro rfl
      exact hn j (Ne.symm hne) (.inl ⟨_, q⟩) e1
  od j k d q := by
    rcases get_set q with ⟨rfl, x, hl⟩ | ⟨hne, q⟩
    · rcases own with ⟨ds, xs, rfl, _⟩ | ⟨ks, ds, xs, rfl, rfl, l, rs⟩
      · cases x
      · cases x
        exact ⟨a, xs, by rw [List.getElem?_set_self (by rw [← r.len]; exact hl)], ha, ho, l, rs⟩
    · obtain ⟨b, xs, e1, f, e2, l, g⟩ := r.od j k d q
      refine ⟨b, xs, by rw [List.getElem?_set_ne hne]; exact e1, hF _ f, hk _ _ f ?_ e2, l, g.mv mv⟩
      rintro rfl
      exact hn j (Ne.symm hne) (.inr ⟨_, _, q⟩) e1
  dis j k b oj ok ej ek := by
    have self : ∀ c, (σ.set i (some (.ref a)))[i]? = some (some (.ref c)) → c = a := fun c h => by
      rw [List.getElem?_set_self'] at h
      cases hq : σ[i]? with
      | none => rw [hq] at h; cases h
      | some z => rw [hq] at h; cases h; rfl
    rcases owned_set oj with hj | ⟨nj, oj⟩
    · rcases owned_set ok with hk2 | ⟨nk, ok⟩
      · rw [hj, hk2]
      · rw [hj] at ej
        rw [List.getElem?_set_ne nk] at ek
        cases self _ ej
        exact absurd ek (hn k (Ne.symm nk) ok)
    · rw [List.getElem?_set_ne nj] at ej
      rcases owned_set ok with hk2 | ⟨nk, ok⟩
      · rw [hk2] at ek
        cases self _ ek
        exact absurd ej (hn j (Ne.symm nj) oj)
      · rw [List.getElem?_set_ne nk] at ek
        exact r.dis j k b oj ok ej ek
  on := by
    have old : ∀ (j : Nat) xss, (ρ.set i s)[j]? = some (.on xss) → i ≠ j ∧ ρ[j]? = some (.on xss) := fun j xss e => by
      rcases get_set e with ⟨_, x, _⟩ | ⟨hne, e⟩
      · rcases own with ⟨ds, xs, rfl, _⟩ | ⟨ks, ds, xs, rfl, _⟩ <;> cases x
      · exact ⟨hne, e⟩
    refine r.on.mv mv (fun j xss e => ⟨(old j xss e).2, List.getElem?_set_ne (old j xss e).1⟩) (fun j xss b u e hb f hu => ⟨hF b f, hk b u f (hon j xss b (Ne.symm (old j xss e).1) (old j xss e).2 hb) hu⟩) fun j xss b e hb k ok => ?_
    obtain ⟨hne, e0⟩ := old j xss e
    rcases owned_set ok with rfl | ⟨nk, ok⟩
    · intro h
      rw [List.getElem?_set_self'] at h
      cases hq : σ[k]? with
      | none => rw [hq] at h; cases h
      | some z => rw [hq] at h; cases h; exact hon j xss _ (Ne.symm hne) e0 hb rfl
    · rw [List.getElem?_set_ne nk]
      exact (r.on j xss e0).2.1 b hb k ok
/-- a new thing -/
theorem RepG.new {i : Nat} {p : Addr} {s : Slot} {o : HO} (r : RepG M G F0 H F σ ρ) (hp : H p = none) (own : Own M H F s o) :
    Mv F H (fun b => F b ∨ b = p) (upd H p o) ∧ RepG M G F0 (upd H p o) (fun b => F b ∨ b = p) (σ.set i (some (.ref p))) (ρ.set i s) := by
  have ne : ∀ b u, H b = some u → b ≠ p := fun b u e z => by subst z; rw [hp] at e; cases e
  have mv : Mv F H (fun b => F b ∨ b = p) (upd H p o) := fun b u n e => ⟨fun h => h.elim n (ne b u e), by rw [L2.upd_ne (ne b u e)]; exact e⟩
  have hG : G p = none := r.sm.free hp
  refine ⟨mv, ⟨r.rs.put mv (fun _ h => .inl h) (.inr rfl) L2.upd_same (fun b u _ n e => by rw [L2.upd_ne n]; exact e) (fun _ h => h) (fun j _ oj e => ?_) (fun j xss b _ e hb z => by
      obtain ⟨_, xs, hx⟩ := r.rs.on.f e hb
      exact ne b _ hx z) (own.mv mv), fun b u e => by rw [L2.upd_ne (ne b u (r.sm b u e))]; exact r.sm b u e, fun b h => .inl (r.sub b h), r.trk0, fun j a oj e => ?_, fun j xss b e hb => ?_⟩⟩
  · obtain ⟨a, _, u, _, e1, _, e2, _⟩ := r.rs.ownAt oj
    rw [e1] at e; cases e
    exact ne _ _ e2 rfl
  · rcases owned_set oj with rfl | ⟨nj, oj⟩
    · rw [List.getElem?_set] at e
      split at e
      · split at e
        · cases e; exact hG
        · cases e
      · rename_i h; exact absurd rfl h
    · rw [List.getElem?_set_ne nj] at e
      exact r.own j a oj e
  · rcases get_set e with ⟨_, x, _⟩ | ⟨hne, e⟩
    · rcases own with ⟨ds, xs, rfl, _⟩ | ⟨ks, ds, xs, rfl, _⟩ <;> cases x
    · exact r.onG j xss b e (r.rs.on.back e (List.getElem?_set_ne hne) (fun a u _ _ hu => by rw [L2.upd_ne (ne a u hu)]; exact hu) hb)
/-- a thing of one's own is changed -/
theorem RepG.chg {i : Nat} {a : Addr} {s : Slot} {o : HO} (r : RepG M G F0 H F σ ρ) (oi : Owned ρ i) (ei : σ[i]? = some (some (.ref a))) (own : Own M H F s o) :
    Mv F H F (upd H a o) ∧ RepG M G F0 (upd H a o) F σ (ρ.set i s) := by
  obtain ⟨a', _, u, _, e1, fa, e2, _⟩ := r.rs.ownAt oi
  rw [ei] at e1; cases e1
  have mv : Mv F H F (upd H a o) := fun b v n e => ⟨n, by rw [L2.upd_ne (fun z => by subst z; exact n fa)]; exact e⟩
  have hG := r.own i a oi ei
  have hs : σ.set i (some (.ref a)) = σ := by
    obtain ⟨hl, h⟩ := List.getElem?_eq_some_iff.mp ei
    rw [← h]; exact List.set_getElem_self hl
  have key := r.rs.put (i := i) mv (fun _ h => h) fa L2.upd_same (fun b u _ n e => by rw [L2.upd_ne n]; exact e) (fun _ h => .inl h) (fun j nj oj e => nj (r.rs.dis j i a oj oi e ei)) (fun j xss b _ e hb z => by subst z; exact (r.rs.on j xss e).2.1 _ hb i oi ei) (own.mv mv)
  rw [hs] at key
  refine ⟨mv, ⟨key, fun b u e => by rw [L2.upd_ne (fun z => by subst z; rw [hG] at e; cases e)]; exact r.sm b u e, r.sub, r.trk0, fun j b oj e => ?_, fun j xss b e hb => ?_⟩⟩
  · rcases owned_set oj with rfl | ⟨nj, oj⟩
    · rw [ei] at e; cases e; exact hG
    · exact r.own j b oj e
  · rcases get_set e with ⟨_, x, _⟩ | ⟨hne, e⟩
    · rcases own with ⟨ds, xs, rfl, _⟩ | ⟨ks, ds, xs, rfl, _⟩ <;> cases x
    · refine r.onG j xss b e (r.rs.on.back e rfl (fun c u hc _ hu => ?_) hb)
      rw [L2.upd_ne (fun z => by subst z; exact (r.rs.on j xss e).2.1 _ hc i oi ei)]; exact hu
theorem on_frz {i : Nat} {a : Addr} {d : D} (r : OnR M H F σ ρ) (oi : Owned ρ i) (ei : σ[i]? = some (some (.ref a))) (mv : Mv F H F' H) (hF : ∀ b, F b → b ≠ a → F' b) : OnR M H F' σ (ρ.set i (.sh d)) := by
  have old : ∀ (j : Nat) xss, (ρ.set i (.sh d))[j]? = some (.on xss) → ρ[j]? = some (.on xss) := fun j xss e => by
    rcases get_set e with ⟨_, x, _⟩ | ⟨hne, e⟩
    · cases x
    · exact e
  refine r.mv mv (fun j xss e => ⟨old j xss e, rfl⟩) (fun j xss b u e hb f hu => ⟨hF b f fun z => ?_, hu⟩) fun j xss b e hb k ok => (r j xss (old j xss e)).2.1 b hb k ok.set_ne.2
  subst z
  exact (r j xss (old j xss e)).2.1 _ hb i oi ei
/-- no more one's own -/
theorem RepG.frz {i : Nat} {a : Addr} {s : Slot} {u : HO} {d : D} (r : RepG M G F0 H F σ ρ) (oi : Owned ρ i) (es : ρ[i]? = some s) (ei : σ[i]? = some (some (.ref a))) (hd : (∃ ds, s = .ol ds ∧ d = .lst ds) ∨ ∃ ks ds, s = .od ks ds ∧ d = .dct ks ds) :
    ∃ F', Mv F H F' H ∧ RepG M G F0 H F' σ (ρ.set i (.sh d)) := by
  obtain ⟨a', s', u, es', e1, fa, e2, ow⟩ := r.rs.ownAt oi
  rw [ei] at e1; cases e1
  rw [es] at es'; cases es'
  have hG := r.own i a oi ei
  have mv : Mv F H (fun b => F b ∧ b ≠ a) H := fun b v n e => ⟨fun h => n h.1, e⟩
  have hrep : Rep M H (fun b => F b ∧ b ≠ a) d (.ref a) := by
    rcases hd with ⟨ds, rfl, rfl⟩ | ⟨ks, ds, rfl, rfl⟩
    · rcases ow with ⟨ds', xs, h1, rfl, rs⟩ | ⟨ks, ds, xs, h1, _⟩
      · cases h1
        simp only [Rep]
        exact ⟨a, xs, rfl, .inl ⟨fun h => h.2 rfl, .inl e2⟩, rs.mv mv⟩
      · cases h1
    · rcases ow with ⟨ds', xs, h1, _⟩ | ⟨ks', ds', xs, h1, rfl, l, rs⟩
      · cases h1
      · cases h1
        simp only [Rep]
        exact ⟨a, xs, rfl, .inl ⟨fun h => h.2 rfl, .inl e2⟩, l, rs.mv mv⟩
  refine ⟨fun b => F b ∧ b ≠ a, mv, ⟨⟨by simp [r.rs.len], fun b h => r.rs.trk b h.1, ?_, ?_, ?_, ?_, ?_⟩, r.sm, fun b h => ⟨r.sub b h, fun z => by subst z; obtain ⟨o, e⟩ := r.trk0 _ h; rw [hG] at e; cases e⟩, r.trk0, ?_, ?_⟩⟩
  · intro j e q
    rcases get_set q with ⟨rfl, hx, hl⟩ | ⟨hne, q⟩
    · cases hx
      exact ⟨_, ei, hrep⟩
    · obtain ⟨w, e1, g⟩ := r.rs.sh j e q
      exact ⟨w, e1, g.mv mv⟩
  · intro j e q
    rcases get_set q with ⟨rfl, x, hl⟩ | ⟨hne, q⟩
    · cases x
    · obtain ⟨b, xs, e1, f, e3, g⟩ := r.rs.ol j e q
      exact ⟨b, xs, e1, ⟨f, fun z => by subst z; exact hne (r.rs.dis i j _ oi (.inl ⟨_, q⟩) ei e1)⟩, e3, g.mv mv⟩
  · intro j k e q
    rcases get_set q with ⟨rfl, x, hl⟩ | ⟨hne, q⟩
    · cases x
    · obtain ⟨b, xs, e1, f, e3, l, g⟩ := r.rs.od j k e q
      exact ⟨b, xs, e1, ⟨f, fun z => by subst z; exact hne (r.rs.dis i j _ oi (.inr ⟨_, _, q⟩) ei e1)⟩, e3, l, g.mv mv⟩
  · intro j k b oj ok ej ek
    exact r.rs.dis j k b oj.set_ne.2 ok.set_ne.2 ej ek
  · exact on_frz r.rs.on oi ei mv (fun b f n => ⟨f, n⟩)
  · intro j b oj e
    exact r.own j b oj.set_ne.2 e
  · intro j xss b e hb
    rcases get_set e with ⟨_, x, _⟩ | ⟨_, e⟩
    · cases x
    · exact r.onG j xss b e hb
theorem js_freeze (i : Nat) {rest : List Stmt} {fs : List Sm} (h : JSs X rest (sBlk fs)) : JSs X rest (sBlk (sFreeze i :: fs)) := fun F0 =>
  PSs_imp (h F0) fun D σ H ⟨ρ, F, fl, r, e, q⟩ => by
    obtain ⟨f1, e1, e⟩ := bind_ok_iff.mp e
    unfold sFreeze at e1
    split at e1
    · rename_i xs q1
      cases e1
      have oi : Owned ρ i := .inl ⟨_, q1⟩
      obtain ⟨a, _, _, _, ea, _⟩ := r.rs.ownAt oi
      obtain ⟨F', mv, r'⟩ := r.frz (u := .lst []) oi q1 ea (.inl ⟨_, rfl, rfl⟩)
      exact ⟨_, F', fl, r', e, q.mv mv⟩
    · rename_i ks vs q1
      cases e1
      have oi : Owned ρ i := .inr ⟨_, _, q1⟩
      obtain ⟨a, _, _, _, ea, _⟩ := r.rs.ownAt oi
      obtain ⟨F', mv, r'⟩ := r.frz (u := .lst []) oi q1 ea (.inr ⟨_, _, rfl, rfl⟩)
      exact ⟨_, F', fl, r', e, q.mv mv⟩
    · cases e1
/-! ### fresh lists -/
def tPF (M : Md) (f : Ex) : TE := fun σ H Q => ∃ ρ F ds, RepS M H F σ ρ ∧ f ρ = .ok (.lst ds) ∧ ∀ p H' xs, Same H H' → H' p = none → Reps M H' F ds xs → Q (.ref p) (upd H' p (.lst xs))
abbrev JF (X : Cx) (e : Expr) (f : Ex) : Prop := PE X e (tPF (mdOf X) f)
theorem jf_lst {es : List Expr} {fs : List Ex} (h : JA X es (eList fs)) (hl : fs.length ≤ 1000 := by decide) : JF X (.List es pos) (eLst fs) :=
  PE_imp (L2.pe_lst h) fun σ H Q ⟨ρ, F, d, hr, e, q⟩ => by
    obtain ⟨as, ea, e⟩ := bind_ok_iff.mp e
    cases e
    refine ⟨ρ, F, _, hr, ea, fun xs H1 s1 rs => ⟨?_, fun p hp => q p H1 xs s1 hp rs⟩⟩
    rw [← rs.length, eList_len ea]
    exact Nat.le_trans hl (by decide)
theorem js_ownL (i : Nat) {x : Str} {e : Expr} {f : Ex} {p2 : Pos} (hN : X.N.Nodup) (he : JF X e f) (hi : X.N[i]? = some x := by rfl) (hx : L2.Loc X.env.scope x := by exact Or.inl rfl) (hf : X.fn x = true ∨ X.env.scope.names.lookup x = some .local := by first | exact .inl rfl | exact .inr rfl)
    (hs : swapsWith e (some (.Name x p2)) pos.line X.env = pure false := by rfl) : JS X (.Assign [.Name x p2] e pos) (sOwnL i f) := fun F0 =>
  PS_imp (L2.ps_set hN hi hx he hs hf) fun D σ H ⟨ρ, F, fl, r, e, q⟩ => by
    obtain ⟨d, ed, e⟩ := bind_ok_iff.mp e
    split at e
    · cases e
      refine ⟨ρ, F, _, r.rs, ed, fun p H1 xs s1 hp rs => ?_⟩
      obtain ⟨mv, r'⟩ := (r.same s1).new (i := i) (s := .ol _) hp (.inl ⟨_, xs, rfl, rfl, rs⟩)
      exact q _ _ _ (Mv.trans (.same s1) mv) r'
    · cases e
theorem je_lenO (i : Nat) {x : Str} {p p2 : Pos} (hg : L2.Gl X "len") (hm : X.mg "len" = none) (hN : X.N[i]? = some x := by rfl) (hv : L2.Vis X.env.scope x := by first | exact Or.inl rfl | exact Or.inr (Or.inl rfl) | exact Or.inr (Or.inr rfl)) (hd : (x == ("__debug__" : Str)) = false := by decide)
    (hcd : (x == ("__classdict__" : Str)) = false := by decide) (hs : starEach [.Name x p2] X.env = (false, eval (.Name x p2) X.env) :: starEach [] X.env := by rfl) : JE X (.Call (.Name "len" p) [.Name x p2] [] pos) (eLenL i) :=
  PE_imp (L2.pe_callB L2.call_len_seq hg hm bt_len (L2.pa_cons (L2.pv i hN hv hd hcd) L2.pa_nil hs) (by decide) (by decide) hs) fun σ H Q ⟨ρ, F, d, hr, e, q⟩ => by
    unfold eLenL at e
    split at e
    · rename_i xs q1
      cases e
      obtain ⟨a, ys, ea, fa, ha, rs⟩ := hr.ol i _ q1
      refine ⟨_, ea, a, ys, rfl, .inl (SqL.of ha), q _ _ (Same.refl _) ?_⟩
      rw [← rs.length]; exact rep_int_mk
    · cases e
theorem je_ixO (i : Nat) {x : Str} {b : Expr} {fb : Ex} {p2 : Pos} (hb : JE X b fb) (hN : X.N[i]? = some x := by rfl) (hv : L2.Vis X.env.scope x := by first | exact Or.inl rfl | exact Or.inr (Or.inl rfl) | exact Or.inr (Or.inr rfl)) (hd : (x == ("__debug__" : Str)) = false := by decide)
    (hcd : (x == ("__classdict__" : Str)) = false := by decide) (hs : L2.PlainIx b := by exact fun _ _ => rfl) : JE X (.Subscript (.Name x p2) b pos) (eIxL i fb) :=
  PE_imp (L2.pe_ix L2.ix_seq (L2.pv i hN hv hd hcd) hb hs) fun σ H Q ⟨ρ, F, d, hr, e, q⟩ => by
    obtain ⟨y, ey, e⟩ := bind_ok_iff.mp e
    split at e
    · rename_i xs q1
      obtain ⟨a, ys, ea, fa, ha, rs⟩ := hr.ol i _ q1
      refine ⟨_, ea, ρ, F, y, hr, ey, fun z H1 s1 rz => ?_⟩
      cases y with
      | int k =>
        simp only [oIxQ] at e
        split at e
        · rename_i v hv
          cases e
          have rs1 := rs.mv (M := mdOf X) (F' := F) (.same s1)
          obtain ⟨j, w, _, h1, h2, h3⟩ := at_len rs1.length hv
          obtain ⟨z', hz, rz'⟩ := rs1.get h1
          rw [h2] at hz
          cases hz
          exact .inl ⟨a, ys, _, w, rfl, rep_int rz, SqL.of (s1 _ _ ha), h3, q _ _ s1 rz'⟩
        · cases e
      | _ => cases e
    · cases e
/-! ### calls of defs -/
/-- a def of the text, as a call finds it -/
structure Df (P : Program) (w : World) (K : PySem.W.Frag) (mg : Str → Option Value) (base : Heap) (x : Str) (k n : Nat) (m : List D → R D) : Prop where
  ex : ∃ f fd ps, L2.FnOk P w K mg base L2.CX0 k f fd ps (spM ⟨K, P, w⟩ m n) ∧ L2.Binds K fd ps [] ∧ PySem.W.keepIn K (.ref f) = true ∧ mg x = some (.ref f)
theorem tCall_of {m : List D → R D} {n : Nat} {fs : List Ex} {Q : VK} {E : XK} (hn : fs.length = n) (h : tP M (eCall m fs) σ H Q) : L2.tCall (spM M m n) [] E (tPA M (eList fs)) σ H Q := by
  obtain ⟨ρ, F, d, hr, e, q⟩ := h
  obtain ⟨ds, eds, e⟩ := bind_ok_iff.mp e
  refine ⟨ρ, F, ds, hr, eds, fun vs H1 s1 rs => ?_⟩
  show spM M m n (vs ++ []) H1 Q E
  rw [List.append_nil]
  exact ⟨F, ds, d, (hr.same s1).trk, rs, by rw [eList_len eds]; exact hn, e, fun v H2 s2 rv => q v H2 (s1.trans s2) rv⟩
theorem je_call {x : Str} {k j n : Nat} {m : List D → R D} {e : Expr} {es : List Expr} {fs : List Ex} {p : Pos} (d : Df X.prog X.w X.K X.mg X.base x k n m) (hr : L2.Room j X.A) (hg : L2.Gl X x) (ha : JA X (e :: es) (eList fs)) (hk : k ≤ j := by decide) (hn : fs.length = n := by rfl)
    (hdb : (x == ("__debug__" : Str)) = false := by decide) (he : starEach (e :: es) X.env = (false, eval e X.env) :: starEach es X.env := by rfl) (hpl : (backTo pos (starEach es X.env)).any (·.1) = false := by rfl) : JE X (.Call (.Name x p) (e :: es) [] pos) (eCall m fs) := by
  obtain ⟨f, fd, ps, h1, h2, h3, h4⟩ := d.ex
  exact PE_imp (L2.pe_call h1 (hr.mono hk) hg h4 h3 h2 .nil L2.pass0 ha hdb he hpl) fun σ H Q h => tCall_of hn h
theorem je_call0 {x : Str} {k j : Nat} {m : List D → R D} {p : Pos} (d : Df X.prog X.w X.K X.mg X.base x k 0 m) (hr : L2.Room j X.A) (hg : L2.Gl X x) (hk : k ≤ j := by decide) (hdb : (x == ("__debug__" : Str)) = false := by decide) : JE X (.Call (.Name x p) [] [] pos) (eCall m []) := by
  obtain ⟨f, fd, ps, h1, h2, h3, h4⟩ := d.ex
  refine PE_imp (L2.pe_call0 h1 (hr.mono hk) hg h4 h3 h2 .nil L2.pass0 hdb) fun σ H Q ⟨ρ, F, d, hr, e, q⟩ => ?_
  exact ⟨F, [], d, hr.trk, Reps.nil, rfl, e, q⟩
/-- the def as it stands behind the top -/
theorem fnok_of {P : Program} {w : World} {K : PySem.W.Frag} {mg : Str → Option Value} {base : Heap} {x qual : Str} {st : Stmt} {f : Addr} {fd : FuncData} {N ps : List Str} {k n : Nat} {body : Sm} (Fu : L2.Fun K x qual st f fd) (S : L2.FnScope N ps (L2.defScope st))
    (h : ∀ (cdv : Value) (A : Around) (outer : List Env) (s : Shared) (H : Hp) (E : XK), L2.Room k (A.deeper (PyProof.Rows.envOfC qual (L2.defScope st) s.heap.objs.size f cdv)) → JSs (L2.cxOf L2.CX0 P w K mg base N qual (L2.defScope st) f cdv A outer s H E).nox (L2.defBody st) body)
    (hn : ps.length = n := by rfl) : L2.FnOk P w K mg base L2.CX0 (k + 1) f fd ps (spM ⟨K, P, w⟩ (fn N.length body) n) := by
  refine Fu.ok S (fun vs H Q E h => ?_) (fun cdv A outer s H vs Q E hr hsp => ?_)
  · obtain ⟨F, ds, d, _, rs, hl, _⟩ := h
    rw [← rs.length, hl, hn]
  · refine ⟨fun D σ H' => ∃ F0, tPS ⟨K, P, w⟩ H F0 body D σ H', fun pins s' σ H' D I ⟨F0, q⟩ => h cdv A outer s H E hr F0 pins s' σ H' D I q, ?_⟩
    refine body_of (G := H) (t := fun D σ H' => ∃ F0, tPS ⟨K, P, w⟩ H F0 body D σ H') (fun F0 D σ H' h => ⟨F0, h⟩) hsp ?_
    have := congrArg List.length S.pre
    rw [List.length_take] at this
    omega
theorem df_of {P : Program} {w : World} {K : PySem.W.Frag} {mg : Str → Option Value} {base : Heap} {x qual : Str} {st : Stmt} {f : Addr} {fd : FuncData} {N ps : List Str} {k n : Nat} {body : Sm} (Fu : L2.Fun K x qual st f fd) (hm : mg x = some (.ref f)) (S : L2.FnScope N ps (L2.defScope st)) (hb : L2.Binds K fd ps [])
    (h : ∀ (cdv : Value) (A : Around) (outer : List Env) (s : Shared) (H : Hp) (E : XK), L2.Room k (A.deeper (PyProof.Rows.envOfC qual (L2.defScope st) s.heap.objs.size f cdv)) → JSs (L2.cxOf L2.CX0 P w K mg base N qual (L2.defScope st) f cdv A outer s H E).nox (L2.defBody st) body)
    (hn : ps.length = n := by rfl) : Df P w K mg base x (k + 1) n (fn N.length body) := ⟨f, fd, ps, fnok_of Fu S h hn, hb, Fu.kp, hm⟩
end
end PL
set_option Elab.async false
set_option linter.all false
set_option maxRecDepth 100000
namespace PL
open PySem PySem.Spec
open L2 (V Hp HO Cx PE PT PW PA PS PSs PG PGs VK TE TT TA TS TI TG Inv RelV Vals Rd SqL SqT upd Same Key XK Ends OpR UnR CallR R2 EP It Turn FpOk)
section
variable {X : Cx} {M : Md} {G H H' : Hp} {F0 F F' : Addr → Prop} {σ : L2.St} {ρ : En} {pos : Pos} {DE : Ends}
/-! ### a text's signs -/
def Its (x : Str) : It := ⟨fun i _ => i < x.cps.size, fun i H v H' => H' = H ∧ ∃ c, x.cps[i]? = some c ∧ v = .str ⟨#[c]⟩, fun i _ => x.cps.size ≤ i⟩
theorem turn_strA {P : Program} {w : World} {K : PySem.W.Frag} {tg : Expr} (x : Str) (t : Tok) (it : Addr) : Turn P w K tg (Its x) [it] it (fun i h => h.IsStrIter it "str_ascii_iterator" x t i) where
  mem := by simp
  obj := fun i h st b hb => by
    have e : b = it := by simpa using hb
    subst e
    obtain ⟨o, e, c, d⟩ := st
    exact ⟨o, e, fun v z => by rw [d] at z; cases z⟩
  keep := fun i h h' st k => let ⟨o, e, r⟩ := st; ⟨o, k it (by simp) o e, r⟩
  item := by
    intro X hP hw hK hc i pins s σ H E I hf st hg
    subst hP hw hK
    obtain ⟨f0, f1, f2, f3, f4, f5⟩ := hf it (by simp)
    have hg : i < x.cps.size := hg
    refine wpAny_pyNext_ascii_item st (c := x.cps[i]) (by simp [hg]) fun h' st' sb => ?_
    have I1 : Inv X pins σ H { s with heap := h', toks := s.toks + 1 } := I.turned (t' := s.toks + 1) (fun b o hb e => (sb.2 b hb).trans e) f0 f1 f3 f4 f5
    obtain ⟨o, e, c, d⟩ := id st'
    exact ⟨_, rfl, L2.go_of (s := { s with heap := h', toks := s.toks + 1 }) e c d (by decide) ⟨.str ⟨#[x.cps[i]]⟩, H, I1, ⟨_, rfl⟩, ⟨rfl, _, by simp [hg], rfl⟩, st', fun b hb => (hf b hb).1⟩⟩
  done := by
    intro X hP hw hK hc i pins s σ H E I hf st hg
    subst hP hw hK
    have hg : x.cps.size ≤ i := hg
    obtain ⟨f0, f1, f2, f3, f4, f5⟩ := hf it (by simp)
    exact wpAny_pyNext_ascii_end (I.ok.hd hc) st (by simp [hg]) fun h' eb => ⟨rfl, I.turned (t' := s.toks) (fun b o hb e => eb b o hb e) f0 f1 f3 f4 f5⟩
  self := fun _ _ _ _ _ st h => wpAny_pyIter_striter_ascii st h
theorem turn_strW {P : Program} {w : World} {K : PySem.W.Frag} {tg : Expr} (x : Str) (t : Tok) (it : Addr) : Turn P w K tg (Its x) [it] it (fun i h => h.IsStrIter it "str_iterator" x t i) where
  mem := by simp
  obj := fun i h st b hb => by
    have e : b = it := by simpa using hb
    subst e
    obtain ⟨o, e, c, d⟩ := st
    exact ⟨o, e, fun v z => by rw [d] at z; cases z⟩
  keep := fun i h h' st k => let ⟨o, e, r⟩ := st; ⟨o, k it (by simp) o e, r⟩
  item := by
    intro X hP hw hK hc i pins s σ H E I hf st hg
    subst hP hw hK
    obtain ⟨f0, f1, f2, f3, f4, f5⟩ := hf it (by simp)
    have hg : i < x.cps.size := hg
    refine wpAny_pyNext_wide_item st (c := x.cps[i]) (by simp [hg]) fun h' st' sb => ?_
    have I1 : Inv X pins σ H { s with heap := h', toks := s.toks + 1 } := I.turned (t' := s.toks + 1) (fun b o hb e => (sb.2 b hb).trans e) f0 f1 f3 f4 f5
    obtain ⟨o, e, c, d⟩ := id st'
    exact ⟨_, rfl, L2.go_of (s := { s with heap := h', toks := s.toks + 1 }) e c d (by decide) ⟨.str ⟨#[x.cps[i]]⟩, H, I1, ⟨_, rfl⟩, ⟨rfl, _, by simp [hg], rfl⟩, st', fun b hb => (hf b hb).1⟩⟩
  done := by
    intro X hP hw hK hc i pins s σ H E I hf st hg
    subst hP hw hK
    have hg : x.cps.size ≤ i := hg
    obtain ⟨f0, f1, f2, f3, f4, f5⟩ := hf it (by simp)
    exact wpAny_pyNext_wide_end (I.ok.hd hc) st (by simp [hg]) fun h' eb => ⟨rfl, I.turned (t' := s.toks) (fun b o hb e => eb b o hb e) f0 f1 f3 f4 f5⟩
  self := fun _ _ _ _ _ st h => wpAny_pyIter_striter_wide st h
def iSq (K : PySem.W.Frag) (tl : TE) : TI := fun σ H R => tl σ H fun x H1 => (∃ a, x = .ref a ∧ (∃ xs, SqL K H1 a xs) ∧ R (L2.Itl K a) H1) ∨ (∃ a, x = .ref a ∧ (∃ xs, SqT K H1 a xs) ∧ R (L2.Itt K a) H1) ∨ ∃ z, x = .str z ∧ R (Its z) H1
/-- over a thing: list, tuple, text -/
theorem iter_seq {tg : Expr} {pins : List (Addr × Obj)} {R : It → Hp → Prop} {s1 : Shared} {x : V} {v : Value} (I1 : Inv X pins σ H s1) (r1 : RelV x v)
    (q1 : (∃ a, x = .ref a ∧ (∃ xs, SqL X.K H a xs) ∧ R (L2.Itl X.K a) H) ∨ (∃ a, x = .ref a ∧ (∃ xs, SqT X.K H a xs) ∧ R (L2.Itt X.K a) H) ∨ ∃ z, x = .str z ∧ R (Its z) H) :
    wpAny (model X.prog X.w) X.A (pyIter v) (L2.PIE X pins σ tg R) X.xe s1 := by
  have fp : ∀ b ∈ [s1.heap.objs.size], FpOk X pins H b := fun b hb => by
    have e : b = s1.heap.objs.size := by simpa using hb
    subst e
    exact I1.fpOk (Nat.le_refl _) (I1.hok.fresh (Nat.le_refl _))
  rcases q1 with ⟨a, rfl, ⟨xs, hq⟩, q⟩ | ⟨a, rfl, ⟨xs, hq⟩, q⟩ | ⟨z, rfl, q⟩
  · cases r1
    obtain ⟨its, rv, p, hz⟩ := I1.list hq
    refine wpAny_pyIter_list p.isList ?_
    exact ⟨s1.heap.objs.size, [s1.heap.objs.size], _, _, H, rfl, I1.kept (t' := s1.toks) fun b o e => Heap.get?_push_of_some _ e, L2.turn_list a _, ⟨_, Heap.get?_push_size _ rfl, rfl, rfl⟩, fp, q⟩
  · cases r1
    obtain ⟨its, rv, p, hz⟩ := I1.tuple hq
    refine wpAny_pyIter_tuple (show s1.heap.IsTuple a its.toArray from p) ?_
    exact ⟨s1.heap.objs.size, [s1.heap.objs.size], _, _, H, rfl, I1.kept (t' := s1.toks) fun b o e => Heap.get?_push_of_some _ e, L2.turn_tuple a _, ⟨_, Heap.get?_push_size _ rfl, rfl, rfl⟩, fp, q⟩
  · obtain ⟨t, rfl⟩ := r1
    cases ha : z.cps.all (· < 128)
    · refine wpAny_pyIter_wide ha ?_
      exact ⟨s1.heap.objs.size, [s1.heap.objs.size], _, _, H, rfl, I1.kept (t' := s1.toks) fun b o e => Heap.get?_push_of_some _ e, turn_strW z t _, ⟨_, Heap.get?_push_size _ rfl, rfl, rfl⟩, fp, q⟩
    · refine wpAny_pyIter_ascii ha ?_
      exact ⟨s1.heap.objs.size, [s1.heap.objs.size], _, _, H, rfl, I1.kept (t' := s1.toks) fun b o e => Heap.get?_push_of_some _ e, turn_strA z t _, ⟨_, Heap.get?_push_size _ rfl, rfl, rfl⟩, fp, q⟩
theorem pi_seq {tg l : Expr} {tl : TE} (hl : PE X l tl) : L2.PI X tg l (iSq X.K tl) := fun pins s σ H R I h =>
  L2.thn (hl pins s σ H _ I h) fun v s1 ⟨x, H1, I1, r1, q1⟩ => iter_seq I1 r1 q1
theorem gives_str {x : Str} : Gives M (Its x) H F (x.cps.toList.map fun c => .str ⟨#[c]⟩) := by
  intro H' F' mv tr
  refine ⟨fun i d hd => ?_, ?_⟩
  · rw [List.getElem?_map] at hd
    cases e : x.cps.toList[i]? with
    | none => rw [e] at hd; cases hd
    | some c =>
      rw [e] at hd
      cases hd
      have e' : x.cps[i]? = some c := by simpa using e
      refine ⟨show i < x.cps.size from (Array.getElem?_eq_some_iff.mp e').1, fun y H2 hy => ?_⟩
      obtain ⟨rfl, c', hc', rfl⟩ := hy
      rw [e'] at hc'
      cases hc'
      exact ⟨Same.refl _, rep_str_mk⟩
  · show x.cps.size ≤ _
    simp
/-- the things of a sequence -/
theorem seq_gives {K : PySem.W.Frag} {d : D} {ds : List D} {x : V} {R : It → Hp → Prop} (e : items d = .ok ds) (rv : Rep M H F d x) (q : ∀ J, Gives M J H F ds → R J H) :
    (∃ a, x = .ref a ∧ (∃ xs, SqL M.K H a xs) ∧ R (L2.Itl M.K a) H) ∨ (∃ a, x = .ref a ∧ (∃ xs, SqT M.K H a xs) ∧ R (L2.Itt M.K a) H) ∨ ∃ z, x = .str z ∧ R (Its z) H := by
  unfold items at e
  split at e
  · cases e
    simp only [Rep] at rv
    obtain ⟨a, xs, rfl, h, rs⟩ := rv
    exact .inl ⟨a, rfl, ⟨xs, h.sq⟩, q _ (gives_list h rs)⟩
  · cases e
    simp only [Rep] at rv
    obtain ⟨a, xs, rfl, h, rs⟩ := rv
    exact .inr (.inl ⟨a, rfl, ⟨xs, h.sq⟩, q _ (gives_tup h rs)⟩)
  · cases e
    exact .inr (.inr ⟨_, rep_str rv, q _ gives_str⟩)
  · cases e
theorem ji_seq {tg l : Expr} {fa : Ex} (ha : JE X l fa) : JI X tg l (iSeq fa) :=
  PI_imp (pi_seq ha) fun σ H Q ⟨ρ, F, ds, r, e, q⟩ => by
    obtain ⟨d, ed, e⟩ := bind_ok_iff.mp e
    exact ⟨ρ, F, d, r, ed, fun v H1 s1 rv => seq_gives (K := X.K) (M := mdOf X) e rv fun J g => q J H1 s1 g⟩
end
end PL
set_option Elab.async false
set_option linter.all false
set_option maxRecDepth 100000
namespace PL
open PySem PySem.Spec
open L2 (V Hp HO Cx PE PT PW PA PS PSs PG PGs VK TE TT TA TS TI TG Inv RelV Vals Rd SqL SqT upd Same Key XK Ends OpR UnR CallR R2 EP It Turn FpOk)
/-- a constant of the module -/
structure GlD (P : Program) (w : World) (K : PySem.W.Frag) (mg : Str → Option Value) (x : Str) (d : D) : Prop where
  ex : ∃ v u, mg x = some u ∧ RelV v u ∧ ∀ H F, Rep ⟨K, P, w⟩ H F d v
theorem je_globD {X : Cx} {pos : Pos} {x : Str} {d : D} (g : GlD X.prog X.w X.K X.mg x d) (hg : L2.Gl X x) (hd : (x == ("__debug__" : Str)) = false := by decide) : JE X (.Name x pos) (eC d) := by
  obtain ⟨v, u, h1, h2, h3⟩ := g.ex
  exact je_glob hg h1 h2 h3 hd
/-! ### what the forms of expressions say at once -/
def nst : Expr → Bool
  | .Starred .. => false
  | _ => true
theorem st1 {e : Expr} {es : List Expr} {env : Env} (h : nst e = true) : starEach (e :: es) env = (false, eval e env) :: starEach es env := by cases e <;> first | rfl | cases h
theorem st_any {pos : Pos} {env : Env} : ∀ {es : List Expr}, es.all nst = true → (backTo pos (starEach es env)).any (·.1) = false
  | [], _ => rfl
  | e :: es, h => by
    rw [List.all_cons, Bool.and_eq_true] at h
    rw [st1 h.1]
    show (false || (backTo pos (starEach es env)).any (·.1)) = false
    rw [Bool.false_or]
    exact st_any h.2
theorem st_all {pos : Pos} {env : Env} : ∀ {es : List Expr}, es.all nst = true → (backTo pos (starEach es env)).all (fun x => !x.1) = true
  | [], _ => rfl
  | e :: es, h => by
    rw [List.all_cons, Bool.and_eq_true] at h
    rw [st1 h.1]
    show (true && (backTo pos (starEach es env)).all (fun x => !x.1)) = true
    rw [Bool.true_and]
    exact st_all h.2
theorem few1 {cpos : Pos} {env : Env} {e : Expr} {es : List Expr} (h : (e :: es).all nst = true) (hl : (e :: es).length < 30) : ((backTo cpos (starEach (e :: es) env)).all (fun x => !x.1) && (backToKw cpos (keywordEach [] env)).all (fun x => x.1.isSome)
      && decide ((e :: es).length + ([] : List Keyword).length + (if ([] : List Keyword).isEmpty then 0 else 1) < 30)) = true := by
  rw [st_all h, Bool.true_and]
  show (true && decide ((e :: es).length + 0 + 0 < 30)) = true
  rw [Bool.true_and, decide_eq_true_eq]
  exact hl
def ncm : Expr → Bool
  | .ListComp .. => false
  | .SetComp .. => false
  | .DictComp .. => false
  | _ => true
theorem sw1 {e : Expr} {t : Option Expr} {l : Nat} {env : Env} (h : ncm e = true) : swapsWith e t l env = pure false := by cases e <;> first | rfl | cases h
theorem sws1 {e tg : Expr} {l : Nat} {env : Env} (h : ncm e = true) : swapsWithSole [tg] e l env = pure false := sw1 h
def ntp : Expr → Bool
  | .Tuple .. => false
  | _ => true
theorem sto1 {e tg : Expr} {env : Env} (h : ntp e = true) : swappedStores [tg] e env = pure none := by
  cases e <;> first | (cases tg <;> rfl) | cases h
def nml : Expr → Bool
  | .Tuple .. => false
  | .List .. => false
  | _ => true
theorem sto2 {e tg : Expr} {env : Env} (h : nml tg = true) : swappedStores [tg] e env = pure none := by
  cases tg <;> first | rfl | cases h
theorem asn1 {e : Expr} {es : List Expr} {env : Env} (h : nst e = true) : (assignEach (e :: es) env).map (·.2) = assign e env :: (assignEach es env).map (·.2) := by cases e <;> first | rfl | cases h
theorem asnL {env : Env} : ∀ {es : List Expr}, (assignEach es env).length = es.length
  | [] => rfl
  | e :: es => by
    have := asnL (env := env) (es := es)
    cases e <;> (show (assignEach es env).length + 1 = _; rw [this]; rfl)
theorem asnF {env : Env} : ∀ {es : List Expr}, es.all nst = true → (assignEach es env).findIdx? (·.1) = none
  | [], _ => rfl
  | e :: es, h => by
    rw [List.all_cons, Bool.and_eq_true] at h
    have ih := asnF (env := env) h.2
    have : ∃ t, assignEach (e :: es) env = (false, t) :: assignEach es env := by
      have h1 := h.1
      cases e <;> first | exact ⟨_, rfl⟩ | cases h1
    obtain ⟨t, e1⟩ := this
    rw [e1, List.findIdx?_cons, ih]; rfl
def nset : Expr → Bool
  | .Set .. => false
  | _ => true
theorem fold1 {e : Expr} {env : Env} (h : nset e = true) : ∀ x, foldedSetIterable e env x = pure x := by intro x; cases e <;> first | rfl | cases h
def plainT : Expr → Bool
  | .UnaryOp .Not _ _ => false
  | .BoolOp .. => false
  | .IfExp .. => false
  | .Compare .. => false
  | _ => true
theorem tru1 {e : Expr} {env : Env} (h : plainT e = true) : ∀ whole, isTrue e env whole = (do let v ← whole; standAt e.pos; holding [v] (truthy v)) := by
  intro w
  cases e with
  | UnaryOp op _ _ => cases op <;> first | rfl | cases h
  | _ => first | rfl | cases h
theorem base1 {x : Str} {p : Pos} {a : Str} {env : Env} {w : Sem Value} : attributeBase (.Name x p) a env w = w := rfl
def nsl : Expr → Bool
  | .Slice .. => false
  | _ => true
theorem pix1 {b : Expr} (h : nsl b = true) : L2.PlainIx b := by intro o i; cases b <;> first | rfl | cases h
/-! ### the closing -/
theorem walk {l : PySem.W.OpenLaw} {q : Program} {loose : List Str} {XP : (Str → Option Value) → Heap → Prop} {YP : World → Heap → Prop} {d : DefRec} {K : Params → PySem.W.Frag} {k : Nat} {x : Str} {m : List D → R D} (hn : l.most = some 63) (hdf : d.params.defaults = []) (hr : L2.Room k PySem.callerA)
    (hY : ∀ (w : World) (h : Heap), YP w h → (K w.params).In h)
    (F : ∀ (w : World) (mg : Str → Option Value) (fa : Addr) (h : Heap), (K w.params).In h → h.Ns mainGlobals mg → mg d.name = some (.ref fa) →
      ∃ fd : FuncData, (∀ (s : Shared) (u : Value), BindsTo s fd ⟨[u], []⟩ [(x, u)]) ∧ ∀ base : Heap, (K w.params).In base → base.Ns mainGlobals mg → L2.FnOk l.prog w (K w.params) mg base L2.CX0 k fa fd [x] (spM ⟨K w.params, l.prog, w⟩ m 1))
    (hT : ∀ ns : List Int, ns.length ≤ 63 → m [.lst (ns.map .int)] = .ok (.bl true)) :
    PySem.W.WalkO q loose XP YP l.row.toRowW d [] (fun f vs => PySem.call f vs) :=
  L2.walk_of (n := 63) (k := k) (x := x) (CX := fun _ => L2.CX0) (sp := fun w => spM ⟨K w.params, l.prog, w⟩ m 1) hn (by decide) hdf hr hY F (fun w H a ns hl _ hS => by
    refine ⟨fun _ => False, [.lst (ns.map .int)], .bl true, fun p h => h.elim, Reps.cons ?_ Reps.nil, rfl, hT ns hl, fun v H' _ rv => rep_bl rv⟩
    have rints : ∀ (ns : List Int) (M : Md) (H : Hp), Reps M H (fun _ => False) (ns.map D.int) (ns.map V.int) := by
      intro ns M H
      induction ns with
      | nil => exact Reps.nil
      | cons n r ih => exact Reps.cons rep_int_mk ih
    simp only [Rep]
    refine ⟨a, ns.map V.int, rfl, ?_, rints ns _ H⟩
    rcases hS with h | h
    · exact .inl ⟨fun h => h, h⟩
    · exact .inr h) fun _ _ _ _ _ z => z
end PL
set_option Elab.async false
set_option linter.all false
set_option maxRecDepth 100000
namespace PL
open PySem PySem.Spec
open L2 (V Hp HO Cx PE PT PW PA PS PSs PG PGs VK TE TT TA TS TI TG Inv RelV Vals Rd SqL SqT upd Same Key XK Ends OpR UnR CallR R2 EP It Turn FpOk Un)
/-! ### the loop of a comprehension, with any target and tests -/
section
variable {prog : Program} {w : World} {A : Around} {R : Result → Shared → Prop} {s : Shared}
theorem compLoop_all {elt target iter : Expr} {ifs : List Expr} {scope : Scope} {pos : Pos} {it acc : Value} {env : Env} (I : Nat → Shared → Prop)
    (turn : ∀ n s, I n s → wpAny (model prog w) A (pyNext it) (fun r s₁ => match r with
      | none => R (.ok .next) s₁
      | some v => wpAny (model prog w) A (letOwnedTupleGo target it v) (fun _ s₁' => wpAny (model prog w) A (assign target env v) (fun _ s₂ =>
          wpAny (model prog w) A (forIn ifs true fun c r => if r = true then do let ok ← isTrue c env (eval c env); pure (ForInStep.yield ok) else pure (ForInStep.yield r)) (fun ok s₃ =>
            if ok = true then wpAny (model prog w) A (eval elt env) (fun x s₄ =>
              wpAny (model prog w) A (call (.builtin "list.append") [acc, x]) (fun _ s₅ => ∃ m, m < n ∧ I m s₅) (notedBy (model prog w) A env fun e s' => R (.error e) s') s₄) (notedBy (model prog w) A env fun e s' => R (.error e) s') s₃
            else ∃ m, m < n ∧ I m s₃) (notedBy (model prog w) A env fun e s' => R (.error e) s') s₂) (notedBy (model prog w) A env fun e s' => R (.error e) s') s₁') (notedBy (model prog w) A env fun e s' => R (.error e) s') s₁) (notedBy (model prog w) A env fun e s' => R (.error e) s') s)
    (n : Nat) (h : I n s) : codeAny (model prog w) A (.compLoop (.ListComp elt [⟨target, iter, ifs, 0⟩] scope pos) 0 it acc env) R s := by
  refine codeAny_loop rfl I (fun n s hI => ?_) n h
  show wpAny _ A ((compTurn (.ListComp elt [⟨target, iter, ifs, 0⟩] scope pos) 0 it acc env).onRaise (fun x => do noteFrame x env; theTreesLotGoes x)) _ _ s
  refine wpAny_noted ?_
  rw [compTurn_list]
  refine wpAny_bind (wpAny_standAt (wpAny_bind (wpAny_mono (turn n s hI) (fun r s₁ h₁ => ?_) fun _ _ h' => h')))
  cases r with
  | none => exact wpAny_pure h₁
  | some v =>
    refine wpAny_bind (wpAny_mono h₁ (fun _ s₁' h₁' => ?_) fun _ _ h' => h')
    refine wpAny_bind (wpAny_mono h₁' (fun _ s₂ h₂ => wpAny_bind (wpAny_mono h₂ (fun ok s₃ h₃ => ?_) fun _ _ h' => h')) fun _ _ h' => h')
    cases ok with
    | false => exact wpAny_pure ⟨rfl, h₃⟩
    | true =>
      exact wpAny_bind (wpAny_bind (wpAny_mono h₃ (fun x s₄ h₄ => wpAny_bind (wpAny_mono h₄ (fun _ s₅ h₅ => wpAny_pure (wpAny_pure ⟨rfl, h₅⟩)) fun _ _ h' => h')) fun _ _ h' => h'))
end
/-! ### the block's context -/
def cxC (X : Cx) (scope : Scope) (cl : List (Str × Addr)) (C : Addr) (N : List Str) (s : Shared) (H : Hp) (fp : List Addr) : Cx where
  prog := X.prog
  w := X.w
  K := X.K
  mg := X.mg
  base := X.base
  A := X.A
  N := N
  s₀ := s
  H₀ := H
  env := compEnvC scope cl C X.env
  outer := X.stack
  stack := X.stack
  ex := fp
  fn := fun _ => false
  calm := X.calm
  pn := []
  xe := X.xe
/-- the tests -/
abbrev JCs (X : Cx) (ifs : List Expr) (cs : List Tst) : Prop := Paired (fun e c => JT X e c) ifs cs
theorem tests_of {X : Cx} {M : Md} (hM : M = mdOf X) {pins : List (Addr × Obj)} {σ : L2.St} {ρ : En} {F : Addr → Prop} {E : Value → Shared → Prop} (hE : ∀ e s, X.xe e s → E e s) :
    ∀ {ifs : List Expr} {cs : List Tst}, JCs X ifs cs → ∀ {s : Shared} {H : Hp} {t : Bool} {Q : Bool → Hp → Prop}, Inv X pins σ H s → RepS M H F σ ρ → compL.allT cs ρ = .ok t → (∀ H', Same H H' → Q t H') →
      wpAny (model X.prog X.w) X.A (forIn ifs true fun c r => if r = true then do let ok ← isTrue c X.env (eval c X.env); pure (ForInStep.yield ok) else pure (ForInStep.yield r)) (fun ok s' => ∃ H', Inv X pins σ H' s' ∧ Q ok H') E s
  | [], _, .nil, s, H, t, Q, I, r, e, q => by
    cases e
    exact wpAny_tests_nil ⟨H, I, q H (Same.refl H)⟩
  | c :: ifs, _, .cons h hs, s, H, t, Q, I, r, e, q => by
    unfold compL.allT at e
    obtain ⟨b, eb, e⟩ := bind_ok_iff.mp e
    rw [List.forIn_cons]
    simp only [if_true]
    refine wpAny_bind (wpAny_bind (wpAny_mono (h pins s σ H (fun b' H' => b' = b ∧ Same H H') I ⟨ρ, F, b, hM ▸ r, eb, fun H' s' => ⟨rfl, s'⟩⟩) (fun b' s1 h1 => wpAny_pure ?_) hE))
    obtain ⟨H1, I1, rfl, s1'⟩ := h1
    dsimp only
    cases b' with
    | true =>
      rw [if_pos rfl] at e
      exact tests_of hM hE hs I1 (r.same s1') e fun H2 s2 => q H2 (s1'.trans s2)
    | false =>
      rw [if_neg (by decide)] at e
      cases e
      -- the rest is passed over
      have pass : ∀ (l : List Expr) (s : Shared), (∃ H', Inv X pins σ H' s ∧ Q false H') → wpAny (model X.prog X.w) X.A (forIn l false fun c r => if r = true then do let ok ← isTrue c X.env (eval c X.env); pure (ForInStep.yield ok) else pure (ForInStep.yield r)) (fun ok s' => ∃ H', Inv X pins σ H' s' ∧ Q ok H') E s := by
        intro l
        induction l with
        | nil => intro s h; exact wpAny_pure h
        | cons a l ih =>
          intro s h
          rw [List.forIn_cons]
          exact wpAny_bind (wpAny_pure (ih s h))
      exact pass ifs _ ⟨H1, I1, q H1 s1'⟩
/-! ### cells -/
theorem clos_go {env : Env} : ∀ (names : List (Str × NameKind)) (cs : List (Str × Addr)), (∀ y ∈ names, y.2 = .free → ∃ c, env.cells.lookup y.1 = some c) → (∀ x c, cs.lookup x = some c → env.cells.lookup x = some c) →
    ∃ cl, (forIn names cs fun (x : Str × NameKind) r => (if (x.2 == .free) = true then do let c ← cellOf env x.1; pure (ForInStep.yield ((x.1, c) :: r)) else pure (ForInStep.yield r) : Sem (ForInStep (List (Str × Addr))))) = (pure cl : Sem _) ∧
      (∀ x c, cl.lookup x = some c → env.cells.lookup x = some c) ∧ (∀ x, (∃ c, cs.lookup x = some c) ∨ (x, NameKind.free) ∈ names → ∃ c, cl.lookup x = some c)
  | [], cs, _, hc => ⟨cs, rfl, hc, fun x h => h.elim (fun h => h) fun h => nomatch h⟩
  | (n, k) :: names, cs, hn, hc => by
    rw [List.forIn_cons]
    by_cases hk : k = .free
    · subst hk
      obtain ⟨c, ec⟩ := hn _ List.mem_cons_self rfl
      obtain ⟨cl, e, h1, h2⟩ := clos_go names ((n, c) :: cs) (fun y hy => hn y (List.mem_cons_of_mem _ hy)) (fun x d h => by
        rw [List.lookup_cons] at h
        cases hx : x == n with
        | true => rw [hx] at h; cases h; rw [beq_iff_eq.mp hx]; exact ec
        | false => rw [hx] at h; exact hc x d h)
      refine ⟨cl, ?_, h1, fun x h => h2 x ?_⟩
      · have : cellOf env n = pure c := by unfold cellOf; rw [show List.lookup n env.cells = some c from ec]
        simp only [beq_self_eq_true, if_true, this]
        exact e
      · rcases h with ⟨d, h⟩ | h
        · left
          rw [List.lookup_cons]
          cases x == n with
          | true => exact ⟨c, rfl⟩
          | false => exact ⟨d, h⟩
        · rcases List.mem_cons.mp h with h | h
          · cases h
            left
            rw [List.lookup_cons, beq_self_eq_true]
            exact ⟨c, rfl⟩
          · exact .inr h
    · obtain ⟨cl, e, h1, h2⟩ := clos_go names cs (fun y hy => hn y (List.mem_cons_of_mem _ hy)) hc
      refine ⟨cl, ?_, h1, fun x h => h2 x (h.imp (fun h => h) fun h => ?_)⟩
      · have : (k == NameKind.free) = false := by cases k <;> first | rfl | exact absurd rfl hk
        simp only [this, Bool.false_eq_true, if_false]
        exact e
      · rcases List.mem_cons.mp h with h | h
        · cases h; exact absurd rfl hk
        · exact h
theorem clos_of {scope : Scope} {env : Env} (hn : ∀ y ∈ scope.names, y.2 = .free → ∃ c, env.cells.lookup y.1 = some c) :
    ∃ cl, closureFor scope env = pure cl ∧ (∀ x c, cl.lookup x = some c → env.cells.lookup x = some c) ∧ ∀ x, (x, NameKind.free) ∈ scope.names → ∃ c, cl.lookup x = some c := by
  obtain ⟨cl, e, h1, h2⟩ := clos_go scope.names [] hn (fun x c h => nomatch h)
  refine ⟨cl, ?_, h1, fun x h => h2 x (.inr h)⟩
  unfold closureFor
  have : ∀ (l : List (Str × NameKind)) (cs : List (Str × Addr)), (forIn l cs fun (x : Str × NameKind) (r : List (Str × Addr)) => (match x with | (name, kind) => do
      if (kind == .free) = true then
        let c ← cellOf env name
        pure (ForInStep.yield ((name, c) :: r))
      else pure (ForInStep.yield r) : Sem (ForInStep (List (Str × Addr))))) = forIn l cs fun (x : Str × NameKind) r => (if (x.2 == .free) = true then do let c ← cellOf env x.1; pure (ForInStep.yield ((x.1, c) :: r)) else pure (ForInStep.yield r) : Sem (ForInStep (List (Str × Addr)))) := fun _ _ => rfl
  show (forIn scope.names [] _ >>= fun r => pure r) = _
  first
    | (rw [show (forIn scope.names ([] : List (Str × Addr)) _ : Sem (List (Str × Addr))) = pure cl from e]; rfl)
    | (erw [e]; rfl)
end PL
set_option Elab.async false
set_option linter.all false
set_option maxRecDepth 100000
set_option maxHeartbeats 1000000
namespace PL
open PySem PySem.Spec
open L2 (V Hp HO Cx PE PT PW PA PS PSs PG PGs VK TE TT TA TS TI TG Inv RelV Vals Rd SqL SqT upd Same Key XK Ends OpR UnR CallR R2 EP It Turn FpOk Un)
section
variable {X : Cx} {M : Md} {G H H' : Hp} {F0 F F' : Addr → Prop} {σ : L2.St} {ρ : En} {pos : Pos}
/-- a target that leaves the names behind the first n as they are -/
def Low (n : Nat) (tg : Tgt) : Prop := ∀ d ρ ρ', tg d ρ = .ok ρ' → ρ'.length = ρ.length ∧ ∀ j : Nat, n ≤ j → ρ'[j]? = ρ[j]?
theorem low_name {n i : Nat} (h : i < n) : Low n (gName i) := fun d ρ ρ' e => by
  cases e
  exact ⟨by simp, fun j hj => List.getElem?_set_ne (by omega)⟩
theorem low_names {n : Nat} : ∀ {is : List Nat} {ds : List D} {ρ ρ' : En}, is.all (· < n) = true → gNames is ds ρ = .ok ρ' → ρ'.length = ρ.length ∧ ∀ j : Nat, n ≤ j → ρ'[j]? = ρ[j]?
  | [], [], _, _, _, e => by cases e; exact ⟨rfl, fun _ _ => rfl⟩
  | i :: is, d :: ds, ρ, ρ', h, e => by
    rw [List.all_cons, Bool.and_eq_true, decide_eq_true_eq] at h
    simp only [gNames] at e
    obtain ⟨h1, h2⟩ := low_names h.2 e
    exact ⟨by rw [h1]; simp, fun j hj => by rw [h2 j hj]; exact List.getElem?_set_ne (by omega)⟩
  | [], _ :: _, _, _, _, e => by cases e
  | _ :: _, [], _, _, _, e => by cases e
theorem low_tup {n : Nat} {is : List Nat} (h : is.all (· < n) = true) : Low n (gTup is) := fun d ρ ρ' e => by
  unfold gTup at e
  split at e
  · exact low_names h e
  · cases e
/-- names of which less is said -/
theorem RepS.less {ρ' : En} (r : RepS M H F σ ρ) (hl : ρ'.length = ρ.length) (h : ∀ (j : Nat) s, ρ'[j]? = some s → s = .un ∨ ((∃ d, s = .sh d) ∧ ρ[j]? = some s)) : RepS M H F σ ρ' where
  len := by rw [hl, r.len]
  trk := r.trk
  sh i d e := by
    rcases h i _ e with z | ⟨_, z⟩
    · cases z
    · exact r.sh i d z
  ol i d e := by
    rcases h i _ e with z | ⟨⟨_, z⟩, _⟩ <;> cases z
  od i k d e := by
    rcases h i _ e with z | ⟨⟨_, z⟩, _⟩ <;> cases z
  dis i j a oi := by
    rcases oi with ⟨_, e⟩ | ⟨_, _, e⟩
    · rcases h i _ e with z | ⟨⟨_, z⟩, _⟩ <;> cases z
    · rcases h i _ e with z | ⟨⟨_, z⟩, _⟩ <;> cases z
  on := .no fun i xss e => by rcases h i _ e with z | ⟨⟨_, z⟩, _⟩ <;> cases z
theorem no_own {ρ : En} (h : ∀ (j : Nat) s, ρ[j]? = some s → s = .un ∨ ∃ d, s = .sh d) {i : Nat} (o : Owned ρ i) : False := by
  rcases o with ⟨_, e⟩ | ⟨_, _, e⟩
  · rcases h i _ e with z | ⟨_, z⟩ <;> cases z
  · rcases h i _ e with z | ⟨_, z⟩ <;> cases z
/-- the names at a block's start -/
def ent (n : Nat) (ρ : En) (fv : List Nat) : En := List.replicate n .un ++ frees ρ fv
theorem ent_get {n : Nat} {fv : List Nat} {j : Nat} {s : Slot} (h : (ent n ρ fv)[j]? = some s) : s = .un ∨ ((∃ d, s = .sh d) ∧ n ≤ j ∧ ∃ i, fv[j - n]? = some i ∧ ρ[i]? = some s) := by
  unfold ent at h
  rw [List.getElem?_append, List.length_replicate] at h
  split at h
  · rename_i hn
    rw [List.getElem?_replicate, if_pos hn] at h
    cases h
    exact .inl rfl
  · rename_i hn
    unfold frees at h
    rw [List.getElem?_map] at h
    cases e : fv[j - n]? with
    | none => rw [e] at h; cases h
    | some i =>
      rw [e] at h
      have hs : shOnly ρ[i]? = s := by simpa using h
      subst hs
      cases hρ : ρ[i]? with
      | none => exact .inl rfl
      | some z =>
        cases z with
        | sh d => exact .inr ⟨⟨d, rfl⟩, by omega, i, rfl, hρ⟩
        | _ => exact .inl rfl
def stC (n : Nat) (σ : L2.St) (fv : List Nat) : L2.St := List.replicate n none ++ fv.map fun i => (σ[i]?).getD none
theorem ent_rep {n : Nat} {fv : List Nat} (r : RepS M H F σ ρ) : RepS M H F (stC n σ fv) (ent n ρ fv) where
  len := by unfold stC ent frees; simp
  trk := r.trk
  sh j d e := by
    rcases ent_get e with z | ⟨_, hn, i, hi, z⟩
    · cases z
    · obtain ⟨v, ev, rv⟩ := r.sh i d z
      refine ⟨v, ?_, rv⟩
      unfold stC
      rw [List.getElem?_append_right (by simpa using hn), List.length_replicate, List.getElem?_map, hi]
      simp [ev]
  ol j d e := by rcases ent_get e with z | ⟨⟨_, z⟩, _⟩ <;> cases z
  od j k d e := by rcases ent_get e with z | ⟨⟨_, z⟩, _⟩ <;> cases z
  dis j k a oj := by
    exact (no_own (fun j s e => (ent_get e).imp (fun h => h) fun h => h.1) oj).elim
  on := .no fun j xss e => by rcases ent_get e with z | ⟨⟨_, z⟩, _⟩ <;> cases z
theorem relabel_get {scope : Scope} {env : Env} : ∀ {names : List (Str × NameKind)} {x : Str} {k : NameKind}, (names.map fun (n, k) => if (k == NameKind.free && env.scope.kind == .function && env.kindOf n == some .cell) then (n, NameKind.cell) else (n, k)).lookup x = some k →
    (k = .cell ∨ k = .free) → (∀ y ∈ names, y.2 ≠ .cell) → (x, NameKind.free) ∈ names
  | [], _, _, h, _, _ => by simp at h
  | (n, q) :: r, x, k, h, hk, hc => by
    have ih := @relabel_get scope env r x k
    have hcr : ∀ y ∈ r, y.2 ≠ .cell := fun y hy => hc y (List.mem_cons_of_mem _ hy)
    have hq : q ≠ .cell := hc _ List.mem_cons_self
    have h' : List.lookup x ((if (q == NameKind.free && env.scope.kind == .function && env.kindOf n == some .cell) = true then (n, NameKind.cell) else (n, q)) :: r.map fun (n, k) => if (k == NameKind.free && env.scope.kind == .function && env.kindOf n == some .cell) then (n, NameKind.cell) else (n, k)) = some k := h
    cases hx : x == n with
    | true =>
      have := beq_iff_eq.mp hx
      subst this
      by_cases hcnd : (q == NameKind.free && env.scope.kind == .function && env.kindOf x == some .cell) = true
      · have : q = .free := by
          rw [Bool.and_eq_true, Bool.and_eq_true] at hcnd
          have := hcnd.1.1
          cases q <;> first | rfl | cases this
        subst this
        exact List.mem_cons_self
      · rw [if_neg hcnd, List.lookup_cons, beq_self_eq_true] at h'
        cases h'
        rcases hk with rfl | rfl
        · exact absurd rfl hq
        · exact List.mem_cons_self
    | false =>
      refine List.mem_cons_of_mem _ (ih ?_ hk hcr)
      by_cases hcnd : (q == NameKind.free && env.scope.kind == .function && env.kindOf n == some .cell) = true
      · rw [if_pos hcnd, List.lookup_cons, hx] at h'; exact h'
      · rw [if_neg hcnd, List.lookup_cons, hx] at h'; exact h'
theorem relabel_free {env : Env} : ∀ {names : List (Str × NameKind)} {x : Str}, names.lookup x = some .free → (names.map fun (n, k) => if (k == NameKind.free && env.scope.kind == .function && env.kindOf n == some .cell) then (n, NameKind.cell) else (n, k)).lookup x = some .cell ∨
    (names.map fun (n, k) => if (k == NameKind.free && env.scope.kind == .function && env.kindOf n == some .cell) then (n, NameKind.cell) else (n, k)).lookup x = some .free
  | [], _, h => by simp at h
  | (n, q) :: r, x, h => by
    show List.lookup x ((if (q == NameKind.free && env.scope.kind == .function && env.kindOf n == some .cell) = true then (n, NameKind.cell) else (n, q)) :: r.map fun (n, k) => if (k == NameKind.free && env.scope.kind == .function && env.kindOf n == some .cell) then (n, NameKind.cell) else (n, k)) = _ ∨
      List.lookup x ((if (q == NameKind.free && env.scope.kind == .function && env.kindOf n == some .cell) = true then (n, NameKind.cell) else (n, q)) :: r.map fun (n, k) => if (k == NameKind.free && env.scope.kind == .function && env.kindOf n == some .cell) then (n, NameKind.cell) else (n, k)) = _
    rw [List.lookup_cons] at h
    by_cases hcnd : (q == NameKind.free && env.scope.kind == .function && env.kindOf n == some .cell) = true
    · rw [if_pos hcnd, List.lookup_cons]
      cases hx : x == n with
      | true => exact .inl rfl
      | false => rw [hx] at h; exact relabel_free h
    · rw [if_neg hcnd, List.lookup_cons]
      cases hx : x == n with
      | true => rw [hx] at h; exact .inr h
      | false => rw [hx] at h; exact relabel_free h
/-- the block's names: the target's, then those that it reads; its scope -/
structure CompOk (X : Cx) (scope : Scope) (tn fv : List Str) (fvi : List Nat) : Prop where
  kind : scope.kind = .function
  nocell : ∀ y ∈ scope.names, y.2 ≠ .cell
  names : ∀ y ∈ scope.names, y.2 = .local → scope.names.lookup y.1 = some .local
  free : ∀ y ∈ scope.names, y.2 = .free → X.env.scope.names.lookup y.1 = some .cell
  frl : ∀ y ∈ scope.names, y.2 = .free → scope.names.lookup y.1 = some .free
  fvs : ∀ (j : Nat) i, fvi[j]? = some i → ∃ x, fv[j]? = some x ∧ X.N[i]? = some x ∧ (x, NameKind.free) ∈ scope.names
  len : fv.length = fvi.length
/-- a comprehension, whatever is done with its list -/
theorem comp_core (tn fv : List Str) (fvi : List Nat) {elt iter target : Expr} {ifs : List Expr} {scope : Scope} {it : Itr} {tg : Tgt} {cs : List Tst} {el : Ex} (hxe : ∀ e s, ¬ X.xe e s) (hc : X.calm = true) (ok : CompOk X scope tn fv fvi) (hi : JI X target iter it) (low : Low tn.length tg)
    (ht : ∀ cl C s H fp, JG (cxC X scope cl C (tn ++ fv) s H fp) target tg) (hcs : ∀ cl C s H fp, JCs (cxC X scope cl C (tn ++ fv) s H fp) ifs cs) (hel : ∀ cl C s H fp, JE (cxC X scope cl C (tn ++ fv) s H fp) elt el)
    (hs : ∀ x, foldedSetIterable iter X.env x = pure x) {use : Option (Value → Sem Unit)} {Qc : Value → Shared → Prop} {pins : List (Addr × Obj)} {s : Shared} {all : List D} {p1 : Pos} (I : Inv X pins σ H s) (hr : RepS (mdOf X) H F σ ρ) (e : eComp it tn.length fvi tg cs el ρ = .ok (.lst all))
    (hend : ∀ D C s4 H' vs Hq f, (∃ m, s4.heap.Ns C m) → Inv X pins σ H' s4 → FpOk X pins H' C → Same H Hq → Hq D = none → Reps (mdOf X) Hq F all vs → upd Hq D (.lst vs) = H' → compPost (model X.prog X.w) X.A X.xe use Qc (.ref D) C (.ok f) s4) :
    wpAny (model X.prog X.w) X.A (comprehension (.ListComp elt [⟨target, iter, ifs, 0⟩] scope pos) scope X.env p1 (newList []) false (eval iter X.env) use) Qc X.xe s := by
  obtain ⟨ds, ed, e⟩ := bind_ok_iff.mp e
  have hlen : ds.length ≤ sizeLine := by
    by_cases h : ds.length ≤ szL
    · exact h
    · rw [if_neg h] at e; cases e
  rw [if_pos (show ds.length ≤ szL from hlen)] at e
  obtain ⟨ys, ey, e⟩ := bind_ok_iff.mp e
  have ey : compL tg cs el (ent tn.length ρ fvi) ds = .ok ys := ey
  cases e
  obtain ⟨cl, hclos, hsub, hhas⟩ := clos_of (scope := scope) (env := X.env) (fun y hy hf => I.ok.has y.1 (.inl (ok.free y hy hf)))
  refine wpAny_comprehension_free (gs := []) rfl hs hclos ok.kind ok.names ?_
  refine L2.thn (hi pins s σ H _ I ⟨ρ, F, ds, hr, ed, fun J H' sm gv => (⟨sm, gv⟩ : Same H H' ∧ Gives (mdOf X) J H' F ds)⟩) fun v s1 h1 => L2.thn h1 fun itv s2 h2 => ?_
  obtain ⟨ita, fp, tn', J, H2, rfl, I2, T, st2, f2, sm2, gv⟩ := h2
  have r2 := hr.same sm2
  -- the new list, the block's names
  refine wpAny_newObj_type (wpAny_newFunctionEnv ok.nocell (by intro y hy; simp at hy) (fun h₁ hns₁ hsb₁ => ?_) ok.kind)
  dsimp only at hns₁ hsb₁ ⊢
  generalize hD : s2.heap.objs.size = D at hns₁ hsb₁ ⊢
  generalize hP : s2.heap.push { cls := .type "list", dict := none, data := .seq ([] : List Value).toArray } = HP at hns₁ hsb₁ ⊢
  have hC : HP.objs.size = D + 1 := by rw [← hP, Heap.size_push, hD]
  generalize hCC : HP.objs.size = C at hns₁ hsb₁ hC ⊢
  have lt2 : ∀ b, b < s2.heap.objs.size → b ≠ C ∧ b ≠ D := fun b hb => by rw [hD] at hb; exact ⟨by omega, by omega⟩
  have old : ∀ b o, s2.heap.get? b = some o → h₁.get? b = some o := fun b o e => hsb₁.extBut b o (lt2 b (Heap.lt_size e)).1 (Heap.get?_push_of_some _ (hP ▸ Heap.get?_push_of_some _ e))
  have hDC : D ≠ C := by omega
  have hacc : h₁.get? D = some { cls := .type "list", data := .seq ([] : List Value).toArray } := hsb₁.extBut _ _ hDC (Heap.get?_push_of_some _ (hP ▸ (by rw [← hD]; exact Heap.get?_push_size _ rfl)))
  have nD : H2 D = none := I2.hok.fresh (Nat.le_of_eq hD)
  have nC : H2 C = none := I2.hok.fresh (by omega)
  have sub1 : Same H2 (upd H2 D (.lst [])) := Same.upd_new nD _
  let X' : Cx := cxC X scope cl C (tn ++ fv) s2 H2 fp
  have e1 : newEnv scope C X.env.globals cl X.env.qual none Value.none (some X.env) X.env.builtins = newEnv scope C X.env.globals cl X.env.qual none Value.none (some X.env) X.env.builtins := rfl
  have okX : X'.Ok := by
    have hmod := I2.ok.mod
    refine ⟨hmod, ok.kind, I2.ok.glob, I2.ok.blt, (show s2.heap.objs.size ≤ C by rw [hD]; omega), fun x y c hx hy => I2.ok.inj x y c (hsub x c hx) (hsub y c hy), fun x hx => ?_, fun x c hf => (nomatch hf), fun h => I2.ok.hd h, I2.ok.frames, .inl rfl, fun b hb => ?_, fun b o hb => I2.bs b o hb, Nat.le_trans I2.ok.bsz I2.sz, fun b o hb hx => ?_, fun b hb hf => ?_, I2.stack, I2.stkFree⟩
    · have hx' : (relabel scope X.env).names.lookup x = some .cell ∨ (relabel scope X.env).names.lookup x = some .free := hx
      refine hhas x ?_
      rcases hx' with h | h
      · exact relabel_get (scope := scope) h (.inl rfl) ok.nocell
      · exact relabel_get (scope := scope) h (.inr rfl) ok.nocell
    · obtain ⟨o, ho, _⟩ := T.obj _ _ st2 b hb
      exact ⟨(lt2 b (Heap.lt_size ho)).1, fun x c hx => (f2 b hb).2.2.2.2.1 x c (hsub x c hx)⟩
    · obtain ⟨_, _, _, h4, _⟩ := f2 b hx
      rcases h4 with h4 | h4
      · exact I2.ok.noex b o hb h4
      · exact absurd (Nat.lt_of_lt_of_le (Heap.lt_size hb) (Nat.le_trans I2.ok.bsz h4)) (Nat.lt_irrefl _)
    · obtain ⟨_, h1, h2, _⟩ := f2 b hb
      exact (List.mem_cons.mp (I2.stkSub b hf)).elim h1 h2
  have fpX : ∀ {H' : Hp}, (∀ b ∈ fp, H' b = none) → ∀ b ∈ fp, FpOk X' [] H' b := fun hn b hb => by
    obtain ⟨o, ho, _⟩ := T.obj _ _ st2 b hb
    refine ⟨hn b hb, (lt2 b (Heap.lt_size ho)).1, fun hf => ?_, .inl hb, fun x c hx => (f2 b hb).2.2.2.2.1 x c (hsub x c hx), fun p hp => nomatch hp⟩
    obtain ⟨_, h1, h2, _⟩ := f2 b hb
    exact (List.mem_cons.mp (I2.stkSub b hf)).elim h1 h2
  -- the start
  have I3 : Inv X' [] (stC tn.length σ fvi) (upd H2 D (.lst [])) { s2 with heap := h₁, toks := s2.toks + ([] : List (Str × Value)).length } := by
    refine ⟨okX, rfl, I2.bare, Un.laid old (Nat.le_of_eq hD) nD, ⟨_, hns₁, fun i x v hx hv vis => ?_⟩, fun x c hx => ?_, ?_, fun x c hx => ?_, fun p hp => (nomatch hp), I2.hok.laid old (Nat.le_of_eq hD) ⟨Nat.zero_le _, [], 0, .nil, hacc⟩, ?_⟩
    · have hx : (tn ++ fv)[i]? = some x := hx
      by_cases hn : i < tn.length
      · unfold stC at hv
        rw [List.getElem?_append_left (by simpa using hn), List.getElem?_replicate, if_pos hn] at hv
        cases hv
      · have hn' : tn.length ≤ i := by omega
        rw [List.getElem?_append_right hn'] at hx
        unfold stC at hv
        rw [List.getElem?_append_right (by simpa using hn'), List.length_replicate, List.getElem?_map] at hv
        cases ei : fvi[i - tn.length]? with
        | none => rw [ei] at hv; cases hv
        | some k =>
          rw [ei] at hv
          obtain ⟨x', hx', hN, hf⟩ := ok.fvs _ _ ei
          rw [hx] at hx'
          cases hx'
          have hv' : σ[k]? = some (some v) := by
            have hv2 : (σ[k]?).getD none = some v := by simpa using hv
            cases ek : σ[k]? with
            | none => rw [ek] at hv2; cases hv2
            | some z => rw [ek] at hv2; exact congrArg some hv2
          obtain ⟨m, hm, hl⟩ := I2.loc
          have hcell : X.env.scope.names.lookup x = some .cell := ok.free _ hf rfl
          obtain ⟨u, ru, lk⟩ := hl k x v hN hv' (.inr (.inl hcell))
          refine ⟨u, ru, .inr ⟨?_, ?_⟩⟩
          · exact relabel_free (env := X.env) (ok.frl _ hf rfl)
          · rcases lk with ⟨h1, _⟩ | ⟨_, c, hcc, cc⟩
            · rw [show X.env.kindOf x = X.env.scope.names.lookup x from rfl, hcell] at h1; cases h1
            · obtain ⟨c', hc'⟩ := hhas x hf
              have := hsub x c' hc'
              rw [hcc] at this
              cases this
              exact ⟨c, hc', cc.keeps old⟩
    · obtain ⟨v, cc⟩ := I2.cell x c (hsub x c hx)
      exact ⟨v, cc.keeps old⟩
    · show upd H2 D (.lst []) C = none
      rw [L2.upd_ne (Ne.symm hDC)]; exact nC
    · have h0 := I2.freeC x c (hsub x c hx)
      show upd H2 D (.lst []) c = none
      obtain ⟨v, cc⟩ := I2.cell x c (hsub x c hx)
      rw [L2.upd_ne (lt2 c cc.lt).2]; exact h0
    · show (stC tn.length σ fvi).length = (tn ++ fv).length
      unfold stC; simp [ok.len]
  have hM : mdOf X' = mdOf X := rfl
  let F' : Addr → Prop := fun b => F b ∨ b = D
  have ent_un : ∀ (j : Nat) z, (ent tn.length ρ fvi)[j]? = some z → z = .un ∨ ∃ d, z = .sh d := fun j z h => (ent_get h).imp (fun h => h) fun h => h.1
  have ent_on : ∀ (j : Nat) xss, (ent tn.length ρ fvi)[j]? ≠ some (.on xss) := fun j xss e => by rcases ent_un j _ e with z | ⟨_, z⟩ <;> cases z
  have mvD : ∀ {H'' : Hp}, Same H2 H'' → Mv F H2 F' H'' := fun sm b o n e => ⟨fun h => h.elim n (fun z => by subst z; rw [nD] at e; cases e), sm b o e⟩
  have r3 : RepS (mdOf X) (upd H2 D (.lst [])) F' (stC tn.length σ fvi) (ent tn.length ρ fvi) := by
    have r0 := (ent_rep (n := tn.length) (fv := fvi) r2)
    exact ⟨r0.len, fun b f => by
        by_cases hb : b = D
        · subst hb; exact ⟨_, L2.upd_same⟩
        · obtain ⟨o, ho⟩ := r0.trk b (f.resolve_right hb)
          exact ⟨o, sub1 _ _ ho⟩, fun i d e => let ⟨v, h1, h2⟩ := r0.sh i d e; ⟨v, h1, h2.mv (mvD sub1)⟩, fun i d e => (no_own ent_un (.inl ⟨_, e⟩)).elim, fun i k d e => (no_own ent_un (.inr ⟨_, _, e⟩)).elim, fun i j a o => (no_own ent_un o).elim, .no ent_on⟩
  -- the turns
  let R0 : Result → Shared → Prop := compPost (model X.prog X.w) X.A X.xe use Qc (.ref D) C
  have loop : codeAny (model X.prog X.w) X.A (.compLoop (.ListComp elt [⟨target, iter, ifs, 0⟩] scope pos) 0 (.ref ita) (.ref D) X'.env) R0 { s2 with heap := h₁, toks := s2.toks + ([] : List (Str × Value)).length } := by
    refine compLoop_all (fun n s' => ∃ i σ' H' vs as, n = ds.length - i ∧ i ≤ ds.length ∧ Inv X' [] σ' H' s' ∧ tn' i s'.heap ∧ (∀ b ∈ fp, H' b = none) ∧ Same H2 H' ∧ H' D = some (.lst vs) ∧ vs.length ≤ i ∧ Reps (mdOf X) H' F' as vs ∧
        RepS (mdOf X) H' F' σ' (ent tn.length ρ fvi) ∧ ∃ rest, compL tg cs el (ent tn.length ρ fvi) (ds.drop i) = .ok rest ∧ as ++ rest = all) ?_ ds.length
      ⟨0, _, _, [], [], rfl, Nat.zero_le _, I3, T.keep _ _ _ st2 fun b _ o e => old b o e, fun b hb => ?_, sub1, L2.upd_same, Nat.zero_le _, Reps.nil, r3, all, ey, rfl⟩
    · rintro n s' ⟨i, σ', H', vs, as, rfl, hi', I', st', fr', sm', eD, hvs, ras, rS, rest, erest, eall⟩
      obtain ⟨g1, g2⟩ := gv H' F' (mvD sm') rS.trk
      by_cases hlt : i < ds.length
      · obtain ⟨go, gy⟩ := g1 i ds[i] (by simp [hlt])
        refine L2.thn (T.item X' rfl rfl rfl hc i [] s' σ' H' _ I' (fpX fr') st' go) fun r s4 ⟨u, hr', h4⟩ => ?_
        subst hr'
        refine L2.thn h4 fun _ s5 ⟨x, H5, I5, r5, y5, st5, fr5⟩ => ?_
        obtain ⟨s5', rx⟩ := gy x H5 y5
        rw [List.drop_eq_getElem_cons hlt] at erest
        unfold compL at erest
        obtain ⟨ρ1, eg, erest⟩ := bind_ok_iff.mp erest
        obtain ⟨t, et, erest⟩ := bind_ok_iff.mp erest
        have rS5 := rS.same s5'
        have rG : RepG (mdOf X) H2 (fun _ => False) H5 F' σ' (ent tn.length ρ fvi) := ⟨rS5, sm'.trans s5', fun _ h => h.elim, fun _ h => h.elim, fun j a o => (no_own ent_un o).elim, fun j xss _ e => absurd e (ent_on j xss)⟩
        -- the iterator's records stay pinned through the turn
        have I5' : Inv X' ([] ++ L2.pinsAt fp s5.heap) σ' H5 s5 := I5.pinned (fpX fr5) (T.obj _ _ st5)
        refine wpAny_mono (ht cl C s2 H2 fp (fun _ => False) _ s5 σ' H5 x u (fun σ6 H6 => H6 = H5 ∧ RepG (mdOf X) H2 (fun _ => False) H5 F' σ6 ρ1) I5' r5 ⟨ent tn.length ρ fvi, F', ds[i], ρ1, rG, rx, eg, fun σ6 r6 => ⟨rfl, r6⟩⟩) (fun _ s6 ⟨σ6, H6, I6, h6, r6⟩ => ?_) (fun e s f => (hxe e s f).elim)
        subst h6
        refine wpAny_mono (tests_of (X := X') (M := mdOf X) (E := X.xe) rfl (fun _ _ h => h) (hcs cl C s2 H2 fp) (Q := fun b H7 => b = t ∧ Same H6 H7) I6 r6.rs et (fun H7 s7 => ⟨rfl, s7⟩)) (fun b s7 ⟨H7, I7, hb, s7'⟩ => ?_) (fun e s f => (hxe e s f).elim)
        subst hb
        have sm7 : Same H2 H7 := (sm'.trans s5').trans s7'
        have D7 : H7 D = some (.lst vs) := s7' _ _ (s5' _ _ eD)
        have lowr := low _ _ _ eg
        have back : ∀ {H'' : Hp}, RepS (mdOf X) H'' F' σ6 ρ1 → RepS (mdOf X) H'' F' σ6 (ent tn.length ρ fvi) := fun r => r.less lowr.1.symm fun j z hz => by
          rcases ent_get hz with h | ⟨h, hn, _⟩
          · exact .inl h
          · exact .inr ⟨h, by rw [lowr.2 j hn]; exact hz⟩
        have again : ∀ {s8 : Shared} {H8 : Hp}, Inv X' ([] ++ L2.pinsAt fp s5.heap) σ6 H8 s8 → Inv X' [] σ6 H8 s8 ∧ tn' (i + 1) s8.heap ∧ ∀ b ∈ fp, H8 b = none := fun {s8 H8} I8 => by
          refine ⟨I8.unpinned, T.keep _ _ _ st5 fun b hb o e => (I8.pin (b, o) (List.mem_append_right _ (List.mem_append_right _ (L2.mem_pinsAt hb e)))).1, fun b hb => ?_⟩
          obtain ⟨o, e, d⟩ := T.obj _ _ st5 b hb
          exact (I8.pin (b, o) (List.mem_append_right _ (List.mem_append_right _ (L2.mem_pinsAt hb e)))).2.1
        cases b with
        | false =>
          rw [if_neg (by decide)] at erest
          rw [if_neg (by decide)]
          obtain ⟨a1, a2, a3⟩ := again I7
          exact ⟨ds.length - (i + 1), by omega, i + 1, σ6, H7, vs, as, rfl, hlt, a1, a2, a3, sm7, D7, by omega, ras.mv (.same (s5'.trans s7')), back (r6.rs.same s7'), rest, erest, eall⟩
        | true =>
          rw [if_pos rfl] at erest
          rw [if_pos rfl]
          obtain ⟨y, ey1, erest⟩ := bind_ok_iff.mp erest
          obtain ⟨ys1, ey2, erest⟩ := bind_ok_iff.mp erest
          cases erest
          refine wpAny_mono (hel cl C s2 H2 fp _ s7 σ6 H7 (fun v H8 => Same H7 H8 ∧ Rep (mdOf X) H8 F' y v) I7 ⟨ρ1, F', y, r6.rs.same s7', ey1, fun v H8 s8 rv => ⟨s8, rv⟩⟩) (fun u2 s8 ⟨v, H8, I8, rv8, s8', rep8⟩ => ?_) (fun e s f => (hxe e s f).elim)
          have D8 : H8 D = some (.lst vs) := s8' _ _ D7
          refine wpAny_mono (L2.mt_append (X := X') _ s8 σ6 H8 (.ref D) [v] (.ref D) [u2] (fun _ H9 => H9 = upd H8 D (.lst (vs ++ [v]))) I8 rfl (.cons rv8 .nil) ⟨D, vs, v, rfl, rfl, D8, by omega, rfl⟩) (fun _ s9 ⟨_, H9, I9, _, h9⟩ => ?_) (fun e s f => (hxe e s f).elim)
          subst h9
          obtain ⟨a1, a2, a3⟩ := again I9
          have mv9 : Mv F' H8 F' (upd H8 D (.lst (vs ++ [v]))) := fun b o n e => ⟨n, by rw [L2.upd_ne (fun z => n (.inr z))]; exact e⟩
          have mvA : Mv F' H' F' (upd H8 D (.lst (vs ++ [v]))) := Mv.trans (.same (s5'.trans (s7'.trans s8'))) mv9
          have r8 := back ((r6.rs.same s7').same s8')
          refine ⟨ds.length - (i + 1), by omega, i + 1, σ6, _, vs ++ [v], as ++ [y], rfl, hlt, a1, a2, a3, fun b o e => ?_, L2.upd_same, by simp; omega, (ras.mv mvA).append (Reps.cons (rep8.mv mv9) Reps.nil), ?_, ys1, ey2, by rw [List.append_assoc]; exact eall⟩
          · rw [L2.upd_ne (fun z => by subst z; rw [nD] at e; cases e)]; exact s8' _ _ (sm7 _ _ e)
          · exact ⟨r8.len, fun b f => by
              by_cases hb : b = D
              · subst hb; exact ⟨_, L2.upd_same⟩
              · obtain ⟨o, ho⟩ := r8.trk b f
                exact ⟨o, by rw [L2.upd_ne hb]; exact ho⟩, fun i d e => let ⟨v, h1, h2⟩ := r8.sh i d e; ⟨v, h1, h2.mv mv9⟩, fun i d e => (no_own ent_un (.inl ⟨_, e⟩)).elim, fun i k d e => (no_own ent_un (.inr ⟨_, _, e⟩)).elim, fun i j a o => (no_own ent_un o).elim, .no ent_on⟩
      · have ei : i = ds.length := by omega
        subst ei
        rw [List.drop_length] at erest
        cases erest
        rw [List.append_nil] at eall
        subst eall
        refine L2.thn (T.done X' rfl rfl rfl hc _ [] s' σ' H' _ I' (fpX fr') st' g2) fun r s4 ⟨hr', I4⟩ => ?_
        subst hr'
        obtain ⟨m, hm, _⟩ := I4.loc
        have C4 : H' C = none := I4.free
        have u4 : Un (L2.frs X.stack) fp H2 H' s2.heap s4.heap := I4.base
        have I5 : Inv X pins σ H' s4 := I2.call' (s' := s4) (ch := fp) I4.os u4 I4.hok I4.bare fun b hb => by
          obtain ⟨_, a1, a2, a3, a4, a5⟩ := f2 b hb
          exact ⟨a3, a1, a4, a5⟩
        have fC : FpOk X pins H' C := I2.fpOk (by omega) C4
        -- the list as a new thing
        have hH : ∃ Hq : Hp, Same H Hq ∧ Hq D = none ∧ Reps (mdOf X) Hq F as vs ∧ upd Hq D (.lst vs) = H' := by
          refine ⟨fun b => if b = D then none else H' b, fun b o e => ?_, by simp, ?_, ?_⟩
          · have hb : b ≠ D := fun z => by subst z; have := sm2 _ _ e; rw [nD] at this; cases this
            simp only [if_neg hb]
            exact sm' _ _ (sm2 _ _ e)
          · refine ras.mv fun b o n e => ⟨fun f => n (.inl f), ?_⟩
            have hb : b ≠ D := fun z => n (.inr z)
            simp only [if_neg hb]
            exact e
          · funext b
            unfold upd
            by_cases hb : b = D
            · simp only [if_pos hb]; rw [hb]; exact eD.symm
            · simp only [if_neg hb]
        obtain ⟨Hq, q1, q2, q3, q4⟩ := hH
        exact hend D C s4 H' vs Hq _ ⟨m, hm⟩ I5 fC q1 q2 q3 q4
    · show upd H2 D (.lst []) b = none
      obtain ⟨o, ho, _⟩ := T.obj _ _ st2 b hb
      rw [L2.upd_ne (lt2 b (Heap.lt_size ho)).2]
      exact (f2 b hb).1
  exact codeAny_compStart_list loop (T.self _ 0 _ _ _ (T.keep _ _ _ st2 fun b _ o e => old b o e) loop)
theorem je_comp (tn fv : List Str) (fvi : List Nat) {elt iter target : Expr} {ifs : List Expr} {scope : Scope} {it : Itr} {tg : Tgt} {cs : List Tst} {el : Ex} (hxe : ∀ e s, ¬ X.xe e s) (hc : X.calm = true) (ok : CompOk X scope tn fv fvi) (hi : JI X target iter it) (low : Low tn.length tg)
    (ht : ∀ cl C s H fp, JG (cxC X scope cl C (tn ++ fv) s H fp) target tg) (hcs : ∀ cl C s H fp, JCs (cxC X scope cl C (tn ++ fv) s H fp) ifs cs) (hel : ∀ cl C s H fp, JE (cxC X scope cl C (tn ++ fv) s H fp) elt el)
    (hs : ∀ x, foldedSetIterable iter X.env x = pure x) : JF X (.ListComp elt [⟨target, iter, ifs, 0⟩] scope pos) (eComp it tn.length fvi tg cs el) := by
  intro pins s σ H Q I ⟨ρ, F, all, hr, e, q⟩
  show wpAny _ _ (comprehension (.ListComp elt [⟨target, iter, ifs, 0⟩] scope pos) scope X.env _ (newList []) false (eval iter X.env) none) _ _ s
  refine comp_core tn fv fvi hxe hc ok hi low ht hcs hel hs I hr e fun D C s4 H' vs Hq f hm I5 fC q1 q2 q3 q4 => ?_
  obtain ⟨m, hm⟩ := hm
  refine ⟨m, hm, fun h' hsb => ⟨.ref D, H', I5.turned (t' := s4.toks) (fun b o n e => by rw [hsb.2 b n]; exact e) fC.1 fC.2.1 fC.2.2.2.1 fC.2.2.2.2.1 fC.2.2.2.2.2, rfl, ?_⟩⟩
  rw [← q4]
  exact q D Hq vs q1 q2 q3
/-- name = [..] -/
theorem ps_comp (i : Nat) {y : Str} {py spos : Pos} (tn fv : List Str) (fvi : List Nat) {elt iter target : Expr} {ifs : List Expr} {scope : Scope} {it : Itr} {tg : Tgt} {cs : List Tst} {el : Ex} (hxe : ∀ e s, ¬ X.xe e s) (hc : X.calm = true) (ok : CompOk X scope tn fv fvi) (hi : JI X target iter it) (low : Low tn.length tg)
    (ht : ∀ cl C s H fp, JG (cxC X scope cl C (tn ++ fv) s H fp) target tg) (hcs : ∀ cl C s H fp, JCs (cxC X scope cl C (tn ++ fv) s H fp) ifs cs) (hel : ∀ cl C s H fp, JE (cxC X scope cl C (tn ++ fv) s H fp) elt el)
    (hs : ∀ x, foldedSetIterable iter X.env x = pure x) (hN : X.N.Nodup) (hy : X.N[i]? = some y) (hx : L2.Loc X.env.scope y) (hf : X.fn y = true ∨ X.env.scope.names.lookup y = some .local)
    (hsw : swapsWith (.ListComp elt [⟨target, iter, ifs, 0⟩] scope pos) (some (.Name y py)) spos.line X.env = pure true) : PS X (.Assign [.Name y py] (.ListComp elt [⟨target, iter, ifs, 0⟩] scope pos) spos) (L2.tAsg (tPF (mdOf X) (eComp it tn.length fvi tg cs el)) (L2.gName i)) := by
  intro pins s σ H D I ⟨ρ, F, all, hr, e, q⟩
  rw [exec_Assign_Name_used _ _ _ _ hsw]
  refine wpAny_bind (wpAny_standAt (wpAny_bind ?_))
  show wpAny _ _ (do let _ ← comprehension (.ListComp elt [⟨target, iter, ifs, 0⟩] scope pos) scope X.env _ (newList []) false (eval iter X.env) (some (assign (.Name y py) X.env))) _ _ s
  refine wpAny_bind (L2.thn (comp_core (Qc := fun _ s' => L2.SP X pins D .next s') tn fv fvi hxe hc ok hi low ht hcs hel hs I hr e fun D1 C s4 H' vs Hq f hm I5 fC q1 q2 q3 q4 => ?_) fun _ s' hq => wpAny_pure (wpAny_pure hq))
  obtain ⟨m, hm⟩ := hm
  show wpAny _ _ (assign (.Name y py) X.env (.ref D1)) _ _ _
  refine wpAny_assign_Name (L2.store_ok2 (v := .ref D1) I5 hN hy hx rfl (fun s5 I6 hsb => ?_) hf)
  obtain ⟨a, hsb, ha⟩ := hsb
  have hCa : C ≠ a := by
    rcases ha with z | z
    · rw [z]; exact fC.2.1
    · exact fun e => fC.2.2.2.2.1 _ _ z e.symm
  refine ⟨m, hm.sameBut hsb hCa, fun h' hsb2 => ⟨_, H', I6.turned (t' := s5.toks) (fun b o n e => by rw [hsb2.2 b n]; exact e) fC.1 fC.2.1 fC.2.2.2.1 fC.2.2.2.2.1 fC.2.2.2.2.2, ?_⟩⟩
  rw [← q4]
  exact q D1 Hq vs q1 q2 q3
end
end PL
set_option Elab.async false
set_option linter.all false
set_option maxRecDepth 100000
namespace PL
open PySem PySem.Spec
open L2 (V Hp HO Cx PE PT PW PA PS PSs PG PGs VK TE TT TA TS TI TG Inv RelV Vals Rd SqL SqT upd Same Key XK Ends OpR UnR CallR R2 EP It Turn FpOk Un)
section
variable {X : Cx} {M : Md} {G H H' : Hp} {F0 F F' : Addr → Prop} {σ : L2.St} {ρ : En} {pos : Pos} {pins : List (Addr × Obj)} {s : Shared}
/-! ### a comprehension as a value -/
theorem je_of_jf {e : Expr} {f : Ex} (h : JF X e f) (hl : ∀ ρ d, f ρ = .ok d → ∃ ds, d = .lst ds) : JE X e f :=
  PE_imp h fun σ H Q ⟨ρ, F, d, hr, e, q⟩ => by
    obtain ⟨ds, rfl⟩ := hl _ _ e
    exact ⟨ρ, F, ds, hr, e, fun p H' xs sm hp rs => q _ _ (sm.trans (Same.upd_new hp _)) (rep_lst_new (hr.same sm).trk hp rs)⟩
theorem comp_lst {it : Itr} {n : Nat} {fv : List Nat} {tg : Tgt} {cs : List Tst} {el : Ex} (ρ : En) (d : D) (h : eComp it n fv tg cs el ρ = .ok d) : ∃ ds, d = .lst ds := by
  obtain ⟨ds, _, h⟩ := bind_ok_iff.mp h
  split at h
  · obtain ⟨ys, _, h⟩ := bind_ok_iff.mp h
    cases h
    exact ⟨_, rfl⟩
  · cases h
/-- what a block's scope must be, told by the enclosing scope and its names -/
def compChk (sc0 : Scope) (N0 : List Str) (scope : Scope) (fv : List Str) (fvi : List Nat) : Bool :=
  decide (scope.kind = .function) && scope.names.all (fun y => decide (y.2 ≠ .cell) && (decide (y.2 ≠ .local) || decide (scope.names.lookup y.1 = some .local)) && (decide (y.2 ≠ .free) || (decide (sc0.names.lookup y.1 = some .cell) && decide (scope.names.lookup y.1 = some .free))))
    && decide (fv.length = fvi.length) && (fvi.zip fv).all (fun p => decide (N0[p.1]? = some p.2) && decide ((p.2, NameKind.free) ∈ scope.names))
theorem compOk_mk {scope : Scope} {tn fv : List Str} {fvi : List Nat} (sc0 : Scope) (N0 : List Str) (h1 : X.env.scope = sc0) (h2 : X.N = N0) (h : compChk sc0 N0 scope fv fvi = true) : CompOk X scope tn fv fvi := by
  subst h1 h2
  unfold compChk at h
  rw [Bool.and_eq_true, Bool.and_eq_true, Bool.and_eq_true, decide_eq_true_eq, decide_eq_true_eq, List.all_eq_true, List.all_eq_true] at h
  obtain ⟨⟨⟨hk, hn⟩, hl⟩, hf⟩ := h
  have hn' : ∀ y ∈ scope.names, y.2 ≠ .cell ∧ (y.2 ≠ .local ∨ scope.names.lookup y.1 = some .local) ∧ (y.2 ≠ .free ∨ (X.env.scope.names.lookup y.1 = some .cell ∧ scope.names.lookup y.1 = some .free)) := fun y hy => by
    have := hn y hy
    simp only [Bool.and_eq_true, Bool.or_eq_true, decide_eq_true_eq] at this
    exact ⟨this.1.1, this.1.2, this.2⟩
  refine ⟨hk, fun y hy => (hn' y hy).1, fun y hy hl => (hn' y hy).2.1.resolve_left (fun h => h hl), fun y hy hl => ((hn' y hy).2.2.resolve_left (fun h => h hl)).1, fun y hy hl => ((hn' y hy).2.2.resolve_left (fun h => h hl)).2, fun j i hj => ?_, hl⟩
  obtain ⟨hjl, _⟩ := List.getElem?_eq_some_iff.mp hj
  have hx : fv[j]? = some (fv[j]'(by omega)) := List.getElem?_eq_getElem (by omega)
  have hm : (i, fv[j]'(by omega)) ∈ fvi.zip fv := by
    refine List.mem_iff_getElem?.mpr ⟨j, ?_⟩
    rw [List.getElem?_zip_eq_some]
    exact ⟨hj, hx⟩
  have := hf _ hm
  simp only [Bool.and_eq_true, decide_eq_true_eq] at this
  exact ⟨_, hx, this.1, this.2⟩
/-! ### in, not in: flat things in lists and tuples -/
/-- the dicts: a key that is an int or a text -/
theorem findK_val {ks : List Ky} {xs : List V} {ds : List D} : ∀ (k : Ky), ks.length = xs.length → Reps M H F ds xs → (findK k ks ds = none → L2.valV (ks.zip xs) k = none) ∧ ∀ d, findK k ks ds = some d → ∃ v, L2.valV (ks.zip xs) k = some v ∧ Rep M H F d v := by
  induction ks generalizing xs ds with
  | nil =>
    intro k hl r
    cases xs with
    | nil => exact ⟨fun _ => rfl, fun d h => by simp [findK] at h⟩
    | cons _ _ => simp at hl
  | cons a ks ih =>
    intro k hl r
    cases xs with
    | nil => simp at hl
    | cons x xs =>
      cases ds with
      | nil => simp only [Reps] at r; cases r
      | cons d0 ds =>
        simp only [Reps] at r
        obtain ⟨x', t, e, r1, r2⟩ := r
        cases e
        have ih := ih (xs := xs) (ds := ds) k (by simpa using hl) r2
        have hz : (a :: ks).zip (x :: xs) = (a, x) :: ks.zip xs := rfl
        rw [hz]
        by_cases hk : a = k
        · subst hk
          have h1 : L2.valV ((a, x) :: ks.zip xs) a = some x := by simp [L2.valV]
          refine ⟨fun h => by simp [findK] at h, fun d h => ⟨x, h1, ?_⟩⟩
          simp [findK] at h
          subst h
          exact r1
        · have h1 : L2.valV ((a, x) :: ks.zip xs) k = L2.valV (ks.zip xs) k := by simp [L2.valV, hk]
          rw [h1]
          refine ⟨fun h => ih.1 (by simpa [findK, hk] using h), fun d h => ih.2 d (by simpa [findK, hk] using h)⟩
theorem key_rep {d : D} {k : Ky} {v : V} (h : keyOf d = some k) (r : Rep M H F d v) : v = L2.kV k := by
  cases d with
  | int i => cases h; exact rep_int r
  | str x => cases h; exact rep_str r
  | _ => cases h
theorem dc_val {a : Addr} {ks : List Ky} {ds : List D} {xs : List V} (I : Inv X pins σ H s) (h : DcR (mdOf X) H F a (ks.zip xs)) (hl : ks.length = xs.length) (rs : Reps (mdOf X) H F ds xs) (k : Ky) :
    ∃ vs, s.heap.DictOf (L2.mixKind X.prog X.w) a vs ∧ (a == sysModules) = false ∧ (findK k ks ds = none → valueAt vs k = none) ∧ ∀ d, findK k ks ds = some d → ∃ v u, valueAt vs k = some u ∧ RelV v u ∧ Rep (mdOf X) H F d v := by
  obtain ⟨z, hd, vs, rel, dd⟩ := dc_at I h
  obtain ⟨f1, f2⟩ := findK_val (M := mdOf X) (H := H) (F := F) k hl rs
  refine ⟨vs, dd, hd, fun hn => ?_, fun d hdd => ?_⟩
  · exact L2.RelO.none_of (by rw [← f1 hn]; exact L2.KV.val rel k)
  · obtain ⟨v, hv, rv⟩ := f2 d hdd
    obtain ⟨u, hu, ru⟩ := L2.RelO.some_of (v := v) (o := valueAt vs k) (by rw [← hv]; exact L2.KV.val rel k)
    exact ⟨v, u, hu, ru, rv⟩
/-! ### x[i] -/
def rIxD (M : Md) : R2 := fun x y H Q => L2.rIx M.K x y H Q ∨ ∃ F a b d, Rep M H F a x ∧ Rep M H F b y ∧ oIxD a b = .ok d ∧ ∀ v, Rep M H F d v → Q v H
theorem ix_dict : L2.IxR X (rIxD (mdOf X)) := by
  refine L2.IxR.or L2.ix_seq ?_
  intro value slice pins s σ H x y v u Q I rx ry h hs
  obtain ⟨F, a, b, d, ra, rb, e, q⟩ := h
  unfold oIxD at e
  split at e
  · rename_i ks vs
    split at e
    · rename_i k hk
      split at e
      · rename_i d' hf
        cases e
        simp only [Rep] at ra
        obtain ⟨p, xs, rfl, h1, hl, rs⟩ := ra
        cases rx
        cases key_rep hk rb
        obtain ⟨ws, dd, hd, f1, f2⟩ := dc_val I h1 hl rs k
        obtain ⟨w, w', hw, rw', rd⟩ := f2 _ hf
        exact PyProof.Rows.tail_any dd.typeIs PySem.F.slot_dict_getitem.lookup (wpAny_getItem_of (L2.kV_is ry) dd.mapOf hw ⟨w, H, I.tok _, rw', q w rd⟩) hs
      · cases e
    · cases e
  · cases e
theorem l_ix : OpL M oIx (rIxD M) := by
  intro F H x y a b d Q tr ra rb e q
  cases a with
  | lst xs => exact .inl (l_ixQ F H x y _ b d Q tr ra rb e q)
  | tup xs => exact .inl (l_ixQ F H x y _ b d Q tr ra rb e q)
  | str z => exact .inl (l_ixQ F H x y _ b d Q tr ra rb e q)
  | dct ks vs => exact .inr ⟨F, _, b, d, ra, rb, e, fun v rv => q v H (Same.refl H) rv⟩
  | _ => cases e
theorem je_ix {a b : Expr} {fa fb : Ex} (ha : JE X a fa) (hb : JE X b fb) (hs : L2.PlainIx b := by exact fun _ _ => rfl) : JE X (.Subscript a b pos) (e2 oIx fa fb) :=
  PE_imp (L2.pe_ix ix_dict ha hb hs) fun σ H Q h => tOp_of l_ix h
def rInD (M : Md) (neg : Bool) : R2 := fun x y H Q => ∃ F a b k, Rep M H F a x ∧ Rep M H F b y ∧ oIn a b = .ok (.bl k) ∧ Q (.bl (if neg then !k else k)) H
end
end PL
set_option Elab.async false
set_option linter.all false
set_option maxRecDepth 100000
set_option maxHeartbeats 1000000
namespace PL
open PySem PySem.Spec
open L2 (V Hp HO Cx PE PT PW PA PS PSs PG PGs VK TE TT TA TS TI TG Inv RelV Vals Rd SqL SqT upd Same Key XK Ends OpR UnR CallR R2 EP It Turn FpOk Un)
section
variable {X : Cx} {M : Md} {G H H' : Hp} {F0 F F' : Addr → Prop} {σ : L2.St} {ρ : En} {pos : Pos} {pins : List (Addr × Obj)} {s : Shared}
/-! ### all(..) of a list of truths -/
/-! ### d.get(k) -/
end
end PL
set_option Elab.async false
set_option linter.all false
set_option maxRecDepth 100000
set_option maxHeartbeats 1000000
namespace PL
open PySem PySem.Spec
open L2 (V Hp HO Cx PE PT PW PA PS PSs PG PGs VK TE TT TA TS TI TG Inv RelV Vals Rd SqL SqT upd Same Key XK Ends OpR UnR CallR R2 EP It Turn FpOk Un)
/-! ### drawing from a tuple -/
section
variable {prog : Program} {w : World} {A : Around} {E : Value → Shared → Prop} {s : Shared}
theorem drawT_item {it t : Addr} {i : Nat} {items : Array Value} {x : Value} {Q : Value → Shared → Prop} (hit : s.heap.IsTupleIter it t i) (ht : s.heap.IsTuple t items) (hx : items[i]? = some x)
    (hQ : ∀ h', h'.IsTupleIter it t (i + 1) → Heap.SameBut it s.heap h' → Q x { s with heap := h' }) : wpAny (model prog w) A (Builtin.SmallTypes.nextOf (.ref it)) Q E s := by
  obtain ⟨oi, hoi, hci, hdi⟩ := id hit
  obtain ⟨ot, hot, _, nt, hdt⟩ := ht
  unfold Builtin.SmallTypes.nextOf
  refine wpAny_bind (wpAny_callSpecial?_slot (name := Str.ofString "__next__") hit.typeIs PySem.F.slot_tuple_iterator_next (wpAny_call_entry PySem.F.slot_tuple_iterator_next hit.typeIs PySem.F.entry_tuple_iterator_next ?_ (PySem.F.args_tuple_iterator_next_1 _)))
  show wpAny _ _ (PySem.field (.ref it) 0 >>= _) _ _ s; refine wpAny_bind (wpAny_field hoi hdi (x := .ref t) rfl ?_)
  show wpAny _ _ (if (Value.ref t == Value.none) = true then _ else _) _ _ s; rw [if_neg (show ¬ ((Value.ref t == Value.none) = true) from Bool.false_ne_true)]
  show wpAny _ _ (PySem.field (.ref it) 1 >>= _) _ _ s; refine wpAny_bind (wpAny_field hoi hdi (x := .int i 0) rfl ?_)
  show wpAny _ _ (seqItems? (.ref t) >>= _) _ _ s; refine wpAny_bind (wpAny_seqItems hot hdt ?_)
  simp only [Int.toNat_natCast, hx]
  exact wpAny_bind (wpAny_setField hoi hdi (by simp) (wpAny_pure ⟨x, rfl, wpAny_pure (hQ _ ⟨_, Heap.get?_update_self _ hoi (Obj.isFreed_of_fields (Obj.data_mapFields hdi _)), (Obj.cls_mapFields ..).trans hci, by rw [Obj.data_mapFields hdi]; simp [rawInt]⟩ (Heap.SameBut.update ..))⟩))
theorem drawT_end {it t : Addr} {i : Nat} {items : Array Value} {Q : Value → Shared → Prop} (hh : A.handled = none) (hit : s.heap.IsTupleIter it t i) (ht : s.heap.IsTuple t items) (hx : items[i]? = none)
    (hE : ∀ h' e, Heap.ExtBut it s.heap h' → (∃ o, h'.get? e = some o ∧ o.cls = .type "StopIteration") → E (.ref e) { s with heap := h' }) : wpAny (model prog w) A (Builtin.SmallTypes.nextOf (.ref it)) Q E s := by
  obtain ⟨oi, hoi, hci, hdi⟩ := id hit
  obtain ⟨ot, hot, _, nt, hdt⟩ := ht
  unfold Builtin.SmallTypes.nextOf
  refine wpAny_bind (wpAny_callSpecial?_slot (name := Str.ofString "__next__") hit.typeIs PySem.F.slot_tuple_iterator_next (wpAny_call_entry PySem.F.slot_tuple_iterator_next hit.typeIs PySem.F.entry_tuple_iterator_next ?_ (PySem.F.args_tuple_iterator_next_1 _)))
  show wpAny _ _ (PySem.field (.ref it) 0 >>= _) _ _ s; refine wpAny_bind (wpAny_field hoi hdi (x := .ref t) rfl ?_)
  show wpAny _ _ (if (Value.ref t == Value.none) = true then _ else _) _ _ s; rw [if_neg (show ¬ ((Value.ref t == Value.none) = true) from Bool.false_ne_true)]
  show wpAny _ _ (PySem.field (.ref it) 1 >>= _) _ _ s; refine wpAny_bind (wpAny_field hoi hdi (x := .int i 0) rfl ?_)
  show wpAny _ _ (seqItems? (.ref t) >>= _) _ _ s; refine wpAny_bind (wpAny_seqItems hot hdt ?_)
  simp only [Int.toNat_natCast, hx]
  refine wpAny_bind (wpAny_rule (wpAny_bind (wpAny_setField hoi hdi (by simp) ?_)))
  show wpAny _ _ (newExc (.type "StopIteration") [] >>= _) _ _ _; refine wpAny_bind ?_
  simp only [newExc, newTuple]
  refine wpAny_bind (wpAny_newObj_type (wpAny_bind (m := firstArgMember _ _) (wpAny_of_eq (a := Value.none) (by first | rfl | (simp only [firstArgMember]; rfl)) (wpAny_newObj_type ?_ (by size_fits)))) (by size_fits))
  simp only [raiseNew]
  refine wpAny_bind (wpAny_handled ?_)
  first | rw [show A.in1.handled = none from hh] | rw [hh]
  exact wpAny_bind (wpAny_pure (wpAny_throw (hE _ _ (((Heap.SameBut.update ..).extBut.push _).push _) ⟨_, Heap.get?_push_size _ rfl, rfl⟩)))
end
theorem drawT {prog : Program} {w : World} {A : Around} (hh : A.handled = none) (it l : Addr) (hne : l ≠ it) (items : Array Value) :
    Draws prog w A it [it, l] items.size (fun i v => items[i]? = some v) (fun i h => h.IsTupleIter it l i ∧ h.IsTuple l items) where
  live _ _ st := let ⟨o, ho, _⟩ := st.1; ⟨o, ho⟩
  frame _ _ _ st hk := ⟨let ⟨o, ho, r⟩ := st.1; ⟨o, hk it (by simp) o ho, r⟩, let ⟨o, ho, r⟩ := st.2; ⟨o, hk l (by simp) o ho, r⟩⟩
  item i s Q E hi st hQ := drawT_item st.1 st.2 (x := items[i]) (by simp [hi]) fun h' hit' hs' => hQ _ h' s.toks (by simp [hi]) ⟨hit', let ⟨o, ho, r⟩ := st.2; ⟨o, hs'.extBut l o hne ho, r⟩⟩ hs'
  done s Q E st hE := drawT_end hh st.1 st.2 (by simp) hE
/-! ### zip of any two -/
structure ZAp (z TI TO i1 i2 : Addr) (f1 f2 : List Addr) : Prop where
  TIz : TI ≠ z
  TOz : TO ≠ z
  i1z : i1 ≠ z
  i2z : i2 ≠ z
  TITO : TI ≠ TO
  TIi1 : TI ≠ i1
  TIi2 : TI ≠ i2
  TOi1 : TO ≠ i1
  TOi2 : TO ≠ i2
  i12 : i1 ≠ i2
  f1z : z ∉ f1
  f1TO : TO ∉ f1
  f1i2 : i2 ∉ f1
  f2z : z ∉ f2
  f2TO : TO ∉ f2
  f2i1 : i1 ∉ f2
section
variable {prog : Program} {w : World} {A : Around} {E : Value → Shared → Prop} {s : Shared} {z TI TO i1 i2 : Addr} {f1 f2 : List Addr} {n1 n2 k : Nat} {P1 P2 : Nat → Value → Prop} {S1 S2 : Nat → Heap → Prop} {a b : Value}
end
end PL
set_option Elab.async false
set_option linter.all false
set_option maxRecDepth 100000
set_option maxHeartbeats 1000000
namespace PL
open PySem PySem.Spec
open L2 (V Hp HO Cx PE PT PW PA PS PSs PG PGs VK TE TT TA TS TI TG Inv RelV Vals Rd SqL SqT upd Same Key XK Ends OpR UnR CallR R2 EP It Turn FpOk Un)
/-! ### what a thing gives, and its iterator -/
inductive Sd where
  | l (a : Addr) | t (a : Addr) | s (z : Str)
/-- its values now -/
def Sd.at (K : PySem.W.Frag) (H : Hp) : Sd → List V → Prop
  | .l a, xs => SqL K H a xs
  | .t a, xs => SqT K H a xs
  | .s z, xs => xs = z.cps.toList.map fun c => .str ⟨#[c]⟩
def Sd.val : Sd → Tok → Value
  | .l a, _ => .ref a
  | .t a, _ => .ref a
  | .s z, tk => .str z tk
def Sd.obj : Sd → Tok → Obj
  | .l a, _ => { cls := .type "list_iterator", data := .fields #[.ref a, .int 0 0] }
  | .t a, _ => { cls := .type "tuple_iterator", data := .fields #[.ref a, .int 0 0] }
  | .s z, tk => { cls := .type (if z.cps.all (· < 128) then "str_ascii_iterator" else "str_iterator"), data := .fields #[.str z tk, .int 0 0] }
def Sd.itr (it : Addr) (i : Nat) (h : Heap) (tk : Tok) : Sd → Prop
  | .l a => h.IsListIter it a i
  | .t a => h.IsTupleIter it a i
  | .s z => h.IsStrIter it (if z.cps.all (· < 128) then "str_ascii_iterator" else "str_iterator") z tk i
section
variable {X : Cx} {pins : List (Addr × Obj)} {σ : L2.St} {H : Hp} {s : Shared} {d : Sd} {xs : List V}
theorem Sd.inj (I : Inv X pins σ H s) {ys : List V} (h : d.at X.K H xs) (h' : d.at X.K H ys) : xs = ys := by
  cases d with
  | l a => exact I.list_inj h h'
  | t a => exact I.tuple_inj h h'
  | s z => exact h.trans h'.symm
/-- drawing from it, as it stands -/
theorem Sd.draws {it : Addr} {tk : Tok} {A : Around} (I : Inv X pins σ H s) (hh : A.handled = none) (h : d.at X.K H xs) (hn : H it = none) (hK : X.K.lookup it = none) :
    ∃ (fp : List Addr) (P : Nat → Value → Prop) (St : Nat → Heap → Prop), Draws X.prog X.w A it fp xs.length P St ∧ (∀ i x, P i x → ∃ v, xs[i]? = some v ∧ RelV v x) ∧ (∀ i h', St i h' → d.itr it i h' tk) ∧ (∀ i, d.itr it i s.heap tk → St i s.heap) ∧
      (∀ c ∈ fp, c = it ∨ (H c ≠ none ∨ ∃ o, X.K.lookup c = some o)) := by
  have nl : ∀ a : Addr, (H a ≠ none ∨ ∃ o, X.K.lookup a = some o) → a ≠ it := fun a h z => by
    subst z
    rcases h with h | ⟨o, h⟩
    · exact h hn
    · rw [hK] at h; cases h
  cases d with
  | l a =>
    obtain ⟨its, rv, pl, hz⟩ := I.list h
    have tr : H a ≠ none ∨ ∃ o, X.K.lookup a = some o := by
      rcases h with (h | ⟨o, h⟩) | ⟨o, _, _, h, _⟩
      · exact .inl (by rw [h]; simp)
      · exact .inl (by rw [h]; simp)
      · exact .inr ⟨o, h⟩
    have D := Draws.list (prog := X.prog) (w := X.w) (A := A) hh it a (nl a tr) its.toArray
    rw [List.size_toArray, ← rv.length] at D
    refine ⟨_, _, _, D, fun i x hx => ?_, fun i h' st => st.1, fun i st => ⟨st, pl.isList⟩, fun c hc => ?_⟩
    · have hx : its[i]? = some x := by simpa using hx
      have hi : i < xs.length := by rw [rv.length]; exact (List.getElem?_eq_some_iff.mp hx).1
      obtain ⟨u, hu, ru⟩ := rv.get (List.getElem?_eq_getElem hi)
      rw [hx] at hu; cases hu
      exact ⟨_, List.getElem?_eq_getElem hi, ru⟩
    · simp only [List.mem_cons, List.not_mem_nil, or_false] at hc
      rcases hc with rfl | rfl
      · exact .inl rfl
      · exact .inr tr
  | t a =>
    obtain ⟨its, rv, pl, hz⟩ := I.tuple h
    have tr : H a ≠ none ∨ ∃ o, X.K.lookup a = some o := by
      rcases h with (h | ⟨o, h⟩) | ⟨o, _, _, h, _⟩
      · exact .inl (by rw [h]; simp)
      · exact .inl (by rw [h]; simp)
      · exact .inr ⟨o, h⟩
    have D := drawT (prog := X.prog) (w := X.w) (A := A) hh it a (nl a tr) its.toArray
    rw [List.size_toArray, ← rv.length] at D
    refine ⟨_, _, _, D, fun i x hx => ?_, fun i h' st => st.1, fun i st => ⟨st, pl⟩, fun c hc => ?_⟩
    · have hx : its[i]? = some x := by simpa using hx
      have hi : i < xs.length := by rw [rv.length]; exact (List.getElem?_eq_some_iff.mp hx).1
      obtain ⟨u, hu, ru⟩ := rv.get (List.getElem?_eq_getElem hi)
      rw [hx] at hu; cases hu
      exact ⟨_, List.getElem?_eq_getElem hi, ru⟩
    · simp only [List.mem_cons, List.not_mem_nil, or_false] at hc
      rcases hc with rfl | rfl
      · exact .inl rfl
      · exact .inr tr
  | s z =>
    have h : xs = z.cps.toList.map fun c => .str ⟨#[c]⟩ := h
    subst h
    have key : ∀ (i : Nat) (x : Value), (∃ c u, z.cps[i]? = some c ∧ x = .str ⟨#[c]⟩ u) → ∃ v, (z.cps.toList.map fun c => V.str ⟨#[c]⟩)[i]? = some v ∧ RelV v x := by
      rintro i x ⟨c, u, hc, rfl⟩
      exact ⟨.str ⟨#[c]⟩, by simp [hc], ⟨u, rfl⟩⟩
    cases ha : z.cps.all (· < 128) with
    | true =>
      have D := Draws.strAscii (prog := X.prog) (w := X.w) (A := A) hh it z tk
      refine ⟨_, _, _, by simpa using D, key, fun i h' st => ?_, fun i st => ?_, fun c hc => .inl (by simpa using hc)⟩
      · show h'.IsStrIter it (if z.cps.all (· < 128) then "str_ascii_iterator" else "str_iterator") z tk i
        rw [ha]; exact st
      · have st : s.heap.IsStrIter it (if z.cps.all (· < 128) then "str_ascii_iterator" else "str_iterator") z tk i := st
        rw [ha] at st; exact st
    | false =>
      have D := Draws.strWide (prog := X.prog) (w := X.w) (A := A) hh it z tk
      refine ⟨_, _, _, by simpa using D, key, fun i h' st => ?_, fun i st => ?_, fun c hc => .inl (by simpa using hc)⟩
      · show h'.IsStrIter it (if z.cps.all (· < 128) then "str_ascii_iterator" else "str_iterator") z tk i
        rw [ha]; exact st
      · have st : s.heap.IsStrIter it (if z.cps.all (· < 128) then "str_ascii_iterator" else "str_iterator") z tk i := st
        rw [ha] at st; exact st
end
theorem Sd.itr_keep {d : Sd} {it : Addr} {i : Nat} {h h' : Heap} {t : Tok} (st : d.itr it i h t) (k : ∀ o, h.get? it = some o → h'.get? it = some o) : d.itr it i h' t := by
  cases d with
  | l a => obtain ⟨o, e, r⟩ := st; exact ⟨o, k o e, r⟩
  | t a => obtain ⟨o, e, r⟩ := st; exact ⟨o, k o e, r⟩
  | s z => obtain ⟨o, e, r⟩ := st; exact ⟨o, k o e, r⟩
theorem Sd.itr_obj {d : Sd} {it : Addr} {i : Nat} {h : Heap} {t : Tok} (st : d.itr it i h t) : ∃ o, h.get? it = some o ∧ ∀ v, o.data ≠ .cell v := by
  cases d with
  | l a => obtain ⟨o, e, c, r⟩ := st; exact ⟨o, e, fun v z => by rw [r] at z; cases z⟩
  | t a => obtain ⟨o, e, c, r⟩ := st; exact ⟨o, e, fun v z => by rw [r] at z; cases z⟩
  | s z => obtain ⟨o, e, c, r⟩ := st; exact ⟨o, e, fun v z => by rw [r] at z; cases z⟩
/-! ### zip as an iterator -/
def Itz (K : PySem.W.Frag) (d e : Sd) : It where
  go i H := ∃ xs ys, d.at K H xs ∧ e.at K H ys ∧ i < xs.length ∧ i < ys.length
  yld i H v H' := ∃ t x y, v = .ref t ∧ H t = none ∧ (∀ xs, d.at K H xs → xs[i]? = some x) ∧ (∀ ys, e.at K H ys → ys[i]? = some y) ∧ H' = upd H t (.tup [x, y])
  stop i H := ∃ xs ys, d.at K H xs ∧ e.at K H ys ∧ (i = xs.length ∨ (i < xs.length ∧ i = ys.length))
def tnz (d e : Sd) (td te : Tok) (z TI TO i1 i2 : Addr) (i : Nat) (h : Heap) : Prop :=
  IsZip h z TI TO .none ∧ IsPair h TI (.ref i1) (.ref i2) ∧ (∃ a b, IsPair h TO a b) ∧ d.itr i1 i h td ∧ e.itr i2 i h te
end PL
set_option Elab.async false
set_option linter.all false
set_option maxRecDepth 100000
set_option maxHeartbeats 1000000
namespace PL
open PySem PySem.Spec
open L2 (V Hp HO Cx PE PT PW PA PS PSs PG PGs VK TE TT TA TS TI TG Inv RelV Vals Rd SqL SqT upd Same Key XK Ends OpR UnR CallR R2 EP It Turn FpOk Un)
/-- it is there -/
def Sd.is (h : Heap) : Sd → Prop
  | .l a => ∃ xs, h.IsList a xs
  | .t a => ∃ xs, h.IsTuple a xs
  | .s _ => True
theorem Sd.iter {prog : Program} {w : World} {A : Around} {E : Value → Shared → Prop} {s : Shared} {d : Sd} {tk : Tok} {Q : Value → Shared → Prop} (x : d.is s.heap) (h : Q (.ref s.heap.objs.size) { s with heap := s.heap.push (d.obj tk) }) :
    wpAny (model prog w) A (pyIter (d.val tk)) Q E s := by
  cases d with
  | l a => obtain ⟨xs, x⟩ := x; exact wpAny_pyIter_list x h
  | t a => obtain ⟨xs, x⟩ := x; exact wpAny_pyIter_tuple x h
  | s z =>
    have h : Q (.ref s.heap.objs.size) { s with heap := s.heap.push { cls := .type (if z.cps.all (· < 128) then "str_ascii_iterator" else "str_iterator"), data := .fields #[.str z tk, .int 0 0] } } := h
    cases ha : z.cps.all (· < 128) with
    | true => rw [ha] at h; exact wpAny_pyIter_ascii ha h
    | false => rw [ha] at h; exact wpAny_pyIter_wide ha h
abbrev zP1 (h : Heap) (d : Sd) (td : Tok) : Heap := h.push (d.obj td)
abbrev zP2 (h : Heap) (d e : Sd) (td te : Tok) : Heap := (zP1 h d td).push (e.obj te)
abbrev zP3 (h : Heap) (d e : Sd) (td te : Tok) : Heap := (zP2 h d e td te).push { cls := .type "tuple", data := .seq #[.ref h.objs.size, .ref (zP1 h d td).objs.size] }
abbrev zP4 (h : Heap) (d e : Sd) (td te : Tok) : Heap := (zP3 h d e td te).push { cls := .type "tuple", data := .seq #[.none, .none] }
abbrev zP5 (h : Heap) (d e : Sd) (td te : Tok) : Heap := (zP4 h d e td te).push { cls := .type "zip", data := .fields #[.none, .bool false, .bool false, .ref (zP2 h d e td te).objs.size, .ref (zP3 h d e td te).objs.size] }
section
variable {X : Cx} {M : Md} {G H H' : Hp} {F0 F F' : Addr → Prop} {σ : L2.St} {ρ : En} {pos : Pos} {pins : List (Addr × Obj)} {s : Shared}
theorem Sd.at_is {d : Sd} {xs : List V} (I : Inv X pins σ H s) (h : d.at X.K H xs) : d.is s.heap := by
  cases d with
  | l a => obtain ⟨its, _, pl, _⟩ := I.list h; exact ⟨_, pl.isList⟩
  | t a => obtain ⟨its, _, pl, _⟩ := I.tuple h; exact ⟨_, pl⟩
  | s z => trivial
def iZp (K : PySem.W.Frag) (ta : TA) : TI := fun σ H R => ta σ H fun vs H1 => ∃ (x y : V) (d e : Sd) (xs ys : List V), vs = [x, y] ∧ (∀ u, RelV x u → ∃ tk, u = d.val tk) ∧ (∀ u, RelV y u → ∃ tk, u = e.val tk) ∧ d.at K H1 xs ∧ e.at K H1 ys ∧ R (Itz K d e) H1
/-- the data of a thing that is walked -/
theorem sd_of {d : D} {ds : List D} {x : V} (e : items d = .ok ds) (r : Rep M H F d x) : ∃ (q : Sd) (xs : List V), (∀ u, RelV x u → ∃ tk, u = q.val tk) ∧ Reps M H F ds xs ∧ ∀ H' F', Mv F H F' H' → q.at M.K H' xs := by
  unfold items at e
  split at e
  · cases e
    simp only [Rep] at r
    obtain ⟨a, xs, rfl, h, rs⟩ := r
    exact ⟨.l a, xs, fun u ru => ⟨0, ru⟩, rs, fun H' F' m => (h.mv m).sq⟩
  · cases e
    simp only [Rep] at r
    obtain ⟨a, xs, rfl, h, rs⟩ := r
    exact ⟨.t a, xs, fun u ru => ⟨0, ru⟩, rs, fun H' F' m => (h.mv m).sq⟩
  · rename_i z
    cases e
    cases rep_str r
    refine ⟨.s z, z.cps.toList.map fun c => .str ⟨#[c]⟩, fun u ⟨tk, ru⟩ => ⟨tk, ru⟩, ?_, fun _ _ _ => rfl⟩
    generalize z.cps.toList = l
    induction l with
    | nil => exact Reps.nil
    | cons c l ih => exact Reps.cons rep_str_mk ih
  · cases e
end
end PL
set_option Elab.async false
set_option linter.all false
set_option maxRecDepth 100000
namespace PL
open PySem PySem.Spec
open L2 (V Hp HO Cx Inv RelV Vals Rd SqL SqT upd Same Key)
/-! ### the module's constants -/
/-- a flat value as it stands in the heap -/
def FlatD : D → Value → Prop
  | .non, u => u = .none
  | .bl b, u => u = .bool b
  | .int i, u => ∃ t, u = .int i t
  | .str x, u => ∃ t, u = .str x t
  | _, _ => False
theorem flatD_rel {d : D} {u : Value} (h : FlatD d u) : ∃ v, RelV v u ∧ ∀ (M : Md) H F, Rep M H F d v := by
  cases d with
  | non => exact ⟨.non, h, fun _ _ _ => rep_non_mk⟩
  | bl b => exact ⟨.bl b, h, fun _ _ _ => rep_bl_mk⟩
  | int i => exact ⟨.int i, h, fun _ _ _ => rep_int_mk⟩
  | str x => exact ⟨.str x, h, fun _ _ _ => rep_str_mk⟩
  | _ => exact h.elim
def FlatDs : List D → List Value → Prop
  | [], us => us = []
  | d :: ds, us => ∃ u r, us = u :: r ∧ FlatD d u ∧ FlatDs ds r
def DM (w : World) : List DictEntry → List Ky → List D → Prop
  | [], ks, ds => ks = [] ∧ ds = []
  | e :: es, ks, ds => ∃ s t k' d ds', e.key = .str s t ∧ ks = .inr s :: k' ∧ ds = d :: ds' ∧ e.hash = PyData.keyHash w.params s ∧ FlatD d e.val ∧ DM w es k' ds'
section
variable {P : Program} {w : World} {K : PySem.W.Frag} {h : Heap} {mg : Str → Option Value} {x : Str}
theorem gl_flat {u : Value} {d : D} (X : K.In h) (G : h.Ns mainGlobals mg) (e1 : PySem.W.nsIn K mainGlobals x = some (some u)) (hm : FlatD d u) : GlD P w K mg x d := by
  obtain ⟨v, rv, hv⟩ := flatD_rel hm
  exact ⟨v, u, PySem.W.mg_of X G e1, rv, fun H F => hv _ H F⟩
end
end PL
set_option linter.all false
namespace PL
open PySem
/-- s.find(x), by the library's own word for it -/
@[simp] def oFindT : D → D → R D
  | .str y, .str x => .ok (.int (Txt.find y x))
  | _, _ => .bad
/-- t.index(x), of a tuple -/
@[simp] def oIndexT : D → D → R D
  | .tup ys, x => if flat x = true ∧ ys.all flat = true then indexD x 0 ys else .bad
  | _, _ => .bad
end PL
set_option Elab.async false
set_option linter.all false
set_option maxRecDepth 100000
set_option maxHeartbeats 1000000
namespace PL
open PySem PySem.Spec
open L2 (V Hp HO Cx PE PT PW PA PS PSs PG PGs VK TE TT TA TS TI TG Inv RelV Vals Rd SqL SqT upd Same Key XK Ends OpR UnR CallR R2 EP It Turn FpOk Un)
section
variable {X : Cx} {M : Md} {G H H' : Hp} {F0 F F' : Addr → Prop} {σ : L2.St} {ρ : En} {pos : Pos} {pins : List (Addr × Obj)} {s : Shared}
/-! ### s.find(x) -/
/-! ### {"a": .., ..} -/
theorem RepS.fresh {p : Addr} {o : HO} (r : RepS M H F σ ρ) (hp : H p = none) : RepS M (upd H p o) (fun b => F b ∨ b = p) σ ρ := by
  have ne : ∀ b u, H b = some u → b ≠ p := fun b u e z => by subst z; rw [hp] at e; cases e
  have mv : Mv F H (fun b => F b ∨ b = p) (upd H p o) := fun b u n e => ⟨fun h => h.elim n (ne b u e), by rw [L2.upd_ne (ne b u e)]; exact e⟩
  have sm : Same H (upd H p o) := Same.upd_new hp _
  exact ⟨r.len, fun b f => by
    by_cases hb : b = p
    · subst hb; exact ⟨_, L2.upd_same⟩
    · obtain ⟨u, hu⟩ := r.trk b (f.resolve_right hb); exact ⟨u, sm _ _ hu⟩,
    fun i d e => let ⟨v, h1, h2⟩ := r.sh i d e; ⟨v, h1, h2.mv mv⟩,
    fun i ds e => let ⟨a, xs, e1, f, e2, q⟩ := r.ol i ds e; ⟨a, xs, e1, .inl f, sm _ _ e2, q.mv mv⟩,
    fun i ks ds e => let ⟨a, xs, e1, f, e2, l, q⟩ := r.od i ks ds e; ⟨a, xs, e1, .inl f, sm _ _ e2, l, q.mv mv⟩,
    r.dis, r.on.mv mv (fun j xss e => ⟨e, rfl⟩) (fun j xss b u e hb f hu => ⟨.inl f, sm _ _ hu⟩) fun j xss b e hb k ok => (r.on j xss e).2.1 b hb k ok⟩
/-- the pairs of a display whose keys are texts -/
def JP (X : Cx) (pos : Pos) (keys : List (Option Expr)) (values : List Expr) (ks : List Ky) (fs : List Ex) : Prop :=
  ∃ trs, L2.PPs X pos keys values trs ∧ ∀ (F : Addr → Prop) (σ : L2.St) (H : Hp) (ρ : En) (ds : List D) (Q : List (V × V) → Hp → Prop), RepS (mdOf X) H F σ ρ → eList fs ρ = .ok ds →
    (∀ xs H', Same H H' → Reps (mdOf X) H' F ds xs → Q ((ks.zip xs).map fun kv => (L2.kV kv.1, kv.2)) H') → L2.tPairs trs σ H Q
end
end PL
set_option Elab.async false
set_option linter.all false
set_option maxRecDepth 100000
set_option maxHeartbeats 1000000
namespace PL
open PySem PySem.Spec
open L2 (V Hp HO Cx PE PT PW PA PS PSs PG PGs VK TE TT TA TS TI TG Inv RelV Vals Rd SqL SqT upd Same Key XK Ends OpR UnR CallR R2 EP It Turn FpOk Un)
section
variable {X : Cx} {M : Md} {G H H' : Hp} {F0 F F' : Addr → Prop} {σ : L2.St} {ρ : En} {pos : Pos} {pins : List (Addr × Obj)} {s : Shared}
/-- a tuple among the module's constants -/
structure GlT (P : Program) (w : World) (K : PySem.W.Frag) (mg : Str → Option Value) (x : Str) (d : D) : Prop where
  gl : GlD P w K mg x d
  pl : ∃ a o, mg x = some (.ref a) ∧ K.lookup a = some o ∧ o.cls = .type "tuple" ∧ o.dict = none
end
end PL
set_option Elab.async false
set_option linter.all false
set_option maxRecDepth 100000
set_option maxHeartbeats 1000000
namespace PL
open PySem PySem.Spec
open L2 (V Hp HO Cx PE PT PW PA PS PSs PG PGs VK TE TT TA TS TI TG Inv RelV Vals Rd SqL SqT upd Same Key XK Ends OpR UnR CallR R2 EP It Turn FpOk Un)
/-- s.join(xs), by the library's own words for it -/
@[simp] def oJoinT : D → D → R D
  | .str x, .lst ys => match strsOf ys with
    | some zs => if JoinOk x zs = true then .ok (.str (Txt.join x zs)) else .bad
    | none => .bad
  | _, _ => .bad
/-- f"pre{e}" of a whole number -/
@[simp] def eFmt (pre : Str) (e : Ex) : Ex := fun ρ => (e ρ).bind fun d => match d with
  | .int i => if i.natAbs.log2 < 1920 ∧ (Str.empty ++ pre).length ≤ sizeLine ∧ (Str.empty ++ pre ++ Str.ofString (toString i)).length ≤ sizeLine then .ok (.str (Str.empty ++ pre ++ Str.ofString (toString i))) else .bad
  | _ => .bad
section
variable {X : Cx} {M : Md} {G H H' : Hp} {F0 F F' : Addr → Prop} {σ : L2.St} {ρ : En} {pos : Pos} {pins : List (Addr × Obj)} {s : Shared}
end
end PL
set_option Elab.async false
set_option linter.all false
set_option maxRecDepth 100000
set_option maxHeartbeats 1000000
namespace PL
open PySem PySem.Spec
open L2 (V Hp HO Cx PE PT PW PA PS PSs PG PGs VK TE TT TA TS TI TG Inv RelV Vals Rd SqL SqT upd Same Key XK Ends OpR UnR CallR R2 EP It Turn FpOk Un)
section
variable {X : Cx} {M : Md} {G H H' : Hp} {F0 F F' : Addr → Prop} {σ : L2.St} {ρ : En} {pos : Pos} {pins : List (Addr × Obj)} {s : Shared}
/-- name = [..], shared -/
theorem sm_compS (i : Nat) {st : Stmt} {f : Ex} (h : PS X st (L2.tAsg (tPF (mdOf X) f) (L2.gName i))) (hl : ∀ ρ d, f ρ = .ok d → ∃ ds, d = .lst ds) : JS X st (sAsg (gName i) f) := fun F0 =>
  PS_imp h fun D σ H ⟨ρ, F, fl, r, e, q⟩ => by
    obtain ⟨d, ed, e⟩ := bind_ok_iff.mp e
    obtain ⟨ds, rfl⟩ := hl _ _ ed
    cases e
    refine ⟨ρ, F, ds, r.rs, ed, fun p H1 xs s1 hp rs => ?_⟩
    have s2 : Same H1 (upd H1 p (.lst xs)) := Same.upd_new hp _
    refine q _ _ F (.same (s1.trans s2)) (((r.same s1).same s2).setSh ?_)
    simp only [Rep]
    refine ⟨p, xs, rfl, .inl ⟨fun f => ?_, .inl L2.upd_same⟩, rs.mv (.same s2)⟩
    obtain ⟨o, e⟩ := (r.same s1).rs.trk p f
    rw [hp] at e; cases e
end
end PL
set_option Elab.async false
set_option linter.all false
set_option maxRecDepth 100000
set_option maxHeartbeats 1000000
namespace PL
open PySem PySem.Spec
open L2 (V Hp HO Cx PE PT PW PA PS PSs PG PGs VK TE TT TA TS TI TG Inv RelV Vals Rd SqL SqT upd Same Key XK Ends OpR UnR CallR R2 EP It Turn FpOk Un)
/-! ### wide numbers, max, lists many times over -/
def wid (i : Int) : Bool := decide (i.natAbs.log2 < 100000)
@[simp] def oMulW : D → D → R D
  | .int i, .int j => if (wid i && wid j) = true then .ok (.int (i * j)) else .bad
  | _, _ => .bad
@[simp] def oDivW : D → D → R D
  | .int i, .int j => if 0 < j ∧ j.natAbs.log2 < 9000 then .ok (.int (i / j)) else .bad
  | _, _ => .bad
@[simp] def oPowW : D → D → R D
  | .int i, .int j => if 0 ≤ j ∧ j ≤ 1000 ∧ wid i = true then .ok (.int (i ^ j.toNat)) else .bad
  | _, _ => .bad
@[simp] def oMax : D → D → R D
  | .int i, .int j => .ok (.int (if j > i then j else i))
  | _, _ => .bad
/-- the owned thing in slot i, seen as shared -/
def frz (i : Nat) (ρ : En) : En := match ρ[i]? with
  | some (.ol xs) => ρ.set i (.sh (.lst xs))
  | some (.od ks vs) => ρ.set i (.sh (.dct ks vs))
  | _ => ρ
mutual
/-- no list and no dict within -/
def noL : D → Bool
  | .non => true
  | .bl _ => true
  | .int _ => true
  | .str _ => true
  | .tup xs => noLs xs
  | _ => false
def noLs : List D → Bool
  | [] => true
  | x :: xs => noL x && noLs xs
end
@[simp] def ePeek (i : Nat) (f : Ex) : Ex := fun ρ => (f (frz i ρ)).bind fun d => if noL d = true then .ok d else .bad
/-- a new list, made with the owned thing seen as shared -/
@[simp] def eFPeek (i : Nat) (f : Ex) : Ex := fun ρ => (f (frz i ρ)).bind fun d => match d with
  | .lst ds => if noLs ds = true then .ok (.lst ds) else .bad
  | _ => .bad
@[simp] def tPeek (i : Nat) (f : Tst) : Tst := fun ρ => f (frz i ρ)
/-- o.extend(e), e new -/
@[simp] def sExtend (i : Nat) (e : Ex) : Sm := fun ρ => (e ρ).bind fun d => match d, ρ[i]? with
  | .lst ys, some (.ol xs) => if xs.length + ys.length ≤ szL then .ok (.next (ρ.set i (.ol (xs ++ ys)))) else .bad
  | _, _ => .bad
/-- x = o.pop(e) -/
@[simp] def sPop (j i : Nat) (e : Ex) : Sm := fun ρ => (e ρ).bind fun d => match d, ρ[i]? with
  | .int k, some (.ol xs) => match ixN xs.length k with
    | some m => match xs[m]? with
      | some y => if inR k = true then .ok (.next ((ρ.set i (.ol (xs.eraseIdx m))).set j (.sh y))) else .bad
      | none => .bad
    | none => .bad
  | _, _ => .bad
/-- o2.append(o.pop(e)) -/
@[simp] def sAppPop (j i : Nat) (e : Ex) : Sm := fun ρ => (e ρ).bind fun d => match d, ρ[i]?, ρ[j]? with
  | .int k, some (.ol xs), some (.ol zs) => match ixN xs.length k with
    | some m => match xs[m]? with
      | some y => if inR k = true ∧ zs.length < szL ∧ i ≠ j then .ok (.next ((ρ.set i (.ol (xs.eraseIdx m))).set j (.ol (zs ++ [y])))) else .bad
      | none => .bad
    | none => .bad
  | _, _, _ => .bad
section
variable {X : Cx} {M : Md} {G H H' : Hp} {F0 F F' : Addr → Prop} {σ : L2.St} {ρ : En} {pos : Pos} {pins : List (Addr × Obj)} {s : Shared}
theorem wid_bits {i : Int} (h : wid i = true) : Builtin.Int.intBits i ≤ 100000 := by
  unfold wid at h
  rw [decide_eq_true_eq] at h
  unfold Builtin.Int.intBits
  split <;> omega
theorem op_mulW : OpR X (binaryOp .Mult) (L2.rI (fun i j => wid i = true ∧ wid j = true) fun i j => .int (i * j)) := L2.opI fun i j t u s Q E c q => PyProof.Rows.mul_int q (IntMulOk.of_bits (Nat.le_trans (wid_bits c.1) (by decide)) (Nat.le_trans (wid_bits c.2) (by decide)))
theorem l_mulW : OpL M oMulW (L2.rI (fun i j => wid i = true ∧ wid j = true) fun i j => .int (i * j)) := by
  intro F H x y a b d Q tr ra rb e q
  unfold oMulW at e
  split at e
  · split at e
    · rename_i h
      cases e
      rw [Bool.and_eq_true] at h
      exact ⟨_, _, rep_int ra, rep_int rb, h, q _ _ (Same.refl _) rep_int_mk⟩
    · cases e
  · cases e
theorem op_divW : OpR X (binaryOp .FloorDiv) (L2.rI (fun i j => 0 < j ∧ j.natAbs.log2 < 9000) fun i j => .int (i / j)) := by
  refine L2.opI fun i j t u s Q E c h => ?_
  have e : i / j = i.fdiv j := (Int.fdiv_eq_ediv_of_nonneg _ (Int.le_of_lt c.1)).symm
  rw [e] at h
  exact PyProof.Rows.floordiv_int (by have := c.1; omega) h (Or.inl (PyProof.noPylong_of_log2 c.2))
theorem l_divW : OpL M oDivW (L2.rI (fun i j => 0 < j ∧ j.natAbs.log2 < 9000) fun i j => .int (i / j)) := by
  intro F H x y a b d Q tr ra rb e q
  unfold oDivW at e
  split at e
  · split at e
    · rename_i h
      cases e
      exact ⟨_, _, rep_int ra, rep_int rb, h, q _ _ (Same.refl _) rep_int_mk⟩
    · cases e
  · cases e
theorem op_powW : OpR X (binaryOp .Pow) (L2.rI (fun i j => 0 ≤ j ∧ j ≤ 1000 ∧ wid i = true) fun i j => .int (i ^ j.toNat)) := by
  refine L2.opI fun i j t u s Q E c q => PyProof.Rows.pow_int c.1 ?_ q
  have h := wid_bits c.2.2
  have h2 : (Builtin.Int.intBits i : Int) * j ≤ 100000 * 1000 := Int.mul_le_mul (by omega) c.2.1 c.1 (by omega)
  have h3 : (2 : Int) ^ 27 = 134217728 := by decide
  omega
theorem l_powW : OpL M oPowW (L2.rI (fun i j => 0 ≤ j ∧ j ≤ 1000 ∧ wid i = true) fun i j => .int (i ^ j.toNat)) := by
  intro F H x y a b d Q tr ra rb e q
  unfold oPowW at e
  split at e
  · split at e
    · rename_i h
      cases e
      exact ⟨_, _, rep_int ra, rep_int rb, h, q _ _ (Same.refl _) rep_int_mk⟩
    · cases e
  · cases e
theorem l_max : CaL M (g2 oMax) (fun xs H Q => ∃ i j, xs = [.int i, .int j] ∧ Q (.int (if j > i then j else i)) H) := by
  intro F H xs as d Q tr rs e q
  unfold g2 at e
  split at e
  · obtain ⟨x, y, rfl, r, r2⟩ := rs.two
    unfold oMax at e
    split at e
    · cases e; exact ⟨_, _, by rw [rep_int r, rep_int r2], q _ _ (Same.refl _) rep_int_mk⟩
    · cases e
  · cases e
theorem bt_max : bootBuiltins "max" = some (.builtin "max") := by with_unfolding_all rfl
/-- list * number -/
def rRepM (M : Md) : R2 := fun x y H Q => ∃ F l k xs, x = .ref l ∧ y = .int k ∧ LsR M H F l xs ∧ 0 ≤ k ∧ k < 1000 ∧ xs.length ≤ 1000 ∧ ∀ p, H p = none → Q (.ref p) (upd H p (.lst (List.replicate k.toNat xs).flatten))
/-! ### owned things that are read -/
theorem RepS.frz (r : RepS M H F σ ρ) (i : Nat) : ∃ F', (∀ b, F b → F' b ∨ ∃ u, H b = some u ∧ ((∃ xs, u = .lst xs) ∨ ∃ kvs, u = .dK kvs)) ∧ RepS M H F' σ (frz i ρ) := by
  by_cases oi : Owned ρ i
  · obtain ⟨a, s, u, es, ei, fa, e2, ow⟩ := r.ownAt oi
    have mv : Mv F H (fun b => F b ∧ b ≠ a) H := fun b v n e => ⟨fun h => n h.1, e⟩
    have main : ∀ d, (∃ ds, s = .ol ds ∧ d = .lst ds) ∨ (∃ ks ds, s = .od ks ds ∧ d = .dct ks ds) → RepS M H (fun b => F b ∧ b ≠ a) σ (ρ.set i (.sh d)) := fun d hd => by
      have hrep : Rep M H (fun b => F b ∧ b ≠ a) d (.ref a) := by
        rcases hd with ⟨ds, rfl, rfl⟩ | ⟨ks, ds, rfl, rfl⟩
        · rcases ow with ⟨ds', xs, h1, rfl, rs⟩ | ⟨ks, ds, xs, h1, _⟩
          · cases h1
            simp only [Rep]
            exact ⟨a, xs, rfl, .inl ⟨fun h => h.2 rfl, .inl e2⟩, rs.mv mv⟩
          · cases h1
        · rcases ow with ⟨ds', xs, h1, _⟩ | ⟨ks', ds', xs, h1, rfl, l, rs⟩
          · cases h1
          · cases h1
            simp only [Rep]
            exact ⟨a, xs, rfl, .inl ⟨fun h => h.2 rfl, .inl e2⟩, l, rs.mv mv⟩
      refine ⟨by simp [r.len], fun b h => r.trk b h.1, ?_, ?_, ?_, ?_, on_frz r.on oi ei mv (fun b f n => ⟨f, n⟩)⟩
      · intro j e q
        rcases get_set q with ⟨rfl, hx, hl⟩ | ⟨hne, q⟩
        · cases hx
          exact ⟨_, ei, hrep⟩
        · obtain ⟨w, e1, g⟩ := r.sh j e q
          exact ⟨w, e1, g.mv mv⟩
      · intro j e q
        rcases get_set q with ⟨rfl, x, hl⟩ | ⟨hne, q⟩
        · cases x
        · obtain ⟨b, xs, e1, f, e3, g⟩ := r.ol j e q
          exact ⟨b, xs, e1, ⟨f, fun z => by subst z; exact hne (r.dis i j _ oi (.inl ⟨_, q⟩) ei e1)⟩, e3, g.mv mv⟩
      · intro j k e q
        rcases get_set q with ⟨rfl, x, hl⟩ | ⟨hne, q⟩
        · cases x
        · obtain ⟨b, xs, e1, f, e3, l, g⟩ := r.od j k e q
          exact ⟨b, xs, e1, ⟨f, fun z => by subst z; exact hne (r.dis i j _ oi (.inr ⟨_, _, q⟩) ei e1)⟩, e3, l, g.mv mv⟩
      · intro j k b oj ok ej ek
        exact r.dis j k b oj.set_ne.2 ok.set_ne.2 ej ek
    refine ⟨fun b => F b ∧ b ≠ a, fun b h => ?_, ?_⟩
    · by_cases hb : b = a
      · subst hb
        refine .inr ⟨u, e2, ?_⟩
        rcases ow with ⟨_, xs, _, rfl, _⟩ | ⟨_, _, xs, _, rfl, _⟩
        · exact .inl ⟨_, rfl⟩
        · exact .inr ⟨_, rfl⟩
      · exact .inl ⟨h, hb⟩
    unfold PL.frz
    rcases oi with ⟨ds, q⟩ | ⟨ks, ds, q⟩
    · rw [q]
      rw [q] at es; cases es
      exact main _ (.inl ⟨_, rfl, rfl⟩)
    · rw [q]
      rw [q] at es; cases es
      exact main _ (.inr ⟨_, _, rfl, rfl⟩)
  · refine ⟨F, fun _ h => .inl h, ?_⟩
    unfold PL.frz
    cases q : ρ[i]? with
    | none => exact r
    | some s =>
      cases s with
      | ol xs => exact absurd (.inl ⟨_, q⟩) oi
      | od ks vs => exact absurd (.inr ⟨_, _, q⟩) oi
      | _ => exact r
/-- what has no list within is at no address that was taken out -/
def Out (F F' : Addr → Prop) (H : Hp) : Prop := ∀ b, F b → F' b ∨ ∃ u, H b = some u ∧ ((∃ xs, u = .lst xs) ∨ ∃ kvs, u = .dK kvs)
theorem Out.tup {a : Addr} {xs : List V} (o : Out F F' H) (h : TpR M H F' a xs) : TpR M H F a xs := by
  rcases h with ⟨n, h⟩ | h
  · refine .inl ⟨fun f => ?_, h⟩
    rcases o a f with f' | ⟨u, hu, z⟩
    · exact n f'
    · rcases h with h | ⟨ob, h⟩
      · rw [hu] at h; cases h; rcases z with ⟨_, z⟩ | ⟨_, z⟩ <;> cases z
      · rw [hu] at h; cases h; rcases z with ⟨_, z⟩ | ⟨_, z⟩ <;> cases z
  · exact .inr h
mutual
theorem Rep.noL (o : Out F F' H) : ∀ {d : D} {v : V}, noL d = true → Rep M H F' d v → Rep M H F d v
  | .non, _, _, h => by simp only [Rep] at h ⊢; exact h
  | .bl _, _, _, h => by simp only [Rep] at h ⊢; exact h
  | .int _, _, _, h => by simp only [Rep] at h ⊢; exact h
  | .str _, _, _, h => by simp only [Rep] at h ⊢; exact h
  | .tup ds, _, n, h => by
    simp only [Rep] at h ⊢
    obtain ⟨a, xs, e, t, r⟩ := h
    exact ⟨a, xs, e, o.tup t, Reps.noL o (by unfold PL.noL at n; exact n) r⟩
  | .lst _, _, n, _ => by unfold PL.noL at n; cases n
  | .dct _ _, _, n, _ => by unfold PL.noL at n; cases n
  | .exn _ _ _, _, n, _ => by unfold PL.noL at n; cases n
theorem Reps.noL (o : Out F F' H) : ∀ {ds : List D} {xs : List V}, noLs ds = true → Reps M H F' ds xs → Reps M H F ds xs
  | [], _, _, h => by simp only [Reps] at h ⊢; exact h
  | d :: ds, _, n, h => by
    unfold noLs at n
    rw [Bool.and_eq_true] at n
    simp only [Reps] at h ⊢
    obtain ⟨x, r, e, h1, h2⟩ := h
    exact ⟨x, r, e, Rep.noL o n.1 h1, Reps.noL o n.2 h2⟩
end
theorem Out.same (o : Out F F' H) (s : Same H H') : Out F F' H' := fun b f => (o b f).imp (fun h => h) fun ⟨u, hu, z⟩ => ⟨u, s _ _ hu, z⟩
/-! ### owned things that are changed -/
def SetAsn (env : Env) (o k : Expr) (p3 : Pos) : Prop := ∀ v, assign (.Subscript o k p3) env v = (do
      let ov ← holding [v] (eval o env)
      let iv ← holding [v, ov] (eval k env)
      standAt p3
      holding [v, ov, iv] (setItem ov iv v)
      release [v, ov, iv] [])
theorem js_setO (i : Nat) {x : Str} {e k : Expr} {f g : Ex} {p2 p3 : Pos} (he : JE X e f) (hk : JE X k g) (hN : X.N[i]? = some x := by rfl) (hv : L2.Vis X.env.scope x := by first | exact Or.inl rfl | exact Or.inr (Or.inl rfl) | exact Or.inr (Or.inr rfl)) (hd : (x == ("__debug__" : Str)) = false := by decide)
    (hcd : (x == ("__classdict__" : Str)) = false := by decide)
    (ha : SetAsn X.env (.Name x p2) k p3)
    (hs : swapsWithSole [.Subscript (.Name x p2) k p3] e pos.line X.env = pure false := by rfl) (hw : swappedStores [.Subscript (.Name x p2) k p3] e X.env = pure none := by rfl) (h1 : (assignEach [.Subscript (.Name x p2) k p3] X.env).map (·.2) = [assign (.Subscript (.Name x p2) k p3) X.env] := by rfl) :
    JS X (.Assign [.Subscript (.Name x p2) k p3] e pos) (sSetO i g f) := fun F0 =>
  PS_imp (L2.ps_asg he (L2.pg_sub (L2.pv i hN hv hd hcd) hk L2.set_list ha) hs hw h1) fun D σ H ⟨ρ, F, fl, r, e, q⟩ => by
    obtain ⟨d, ed, e⟩ := bind_ok_iff.mp e
    obtain ⟨y, ey, e⟩ := bind_ok_iff.mp e
    split at e
    · rename_i xs j q1
      split at e
      · rename_i m hm
        cases e
        have oi : Owned ρ i := .inl ⟨_, q1⟩
        obtain ⟨a, ys, ea, fa, haa, rs⟩ := r.rs.ol i _ q1
        refine ⟨ρ, F, d, r.rs, ed, fun v H1 s1 rv => ⟨_, ea, ρ, F, _, (r.same s1).rs, ey, fun z H2 s2 rz => ?_⟩⟩
        have r2 := (r.same s1).same s2
        refine ⟨a, ys, j, m, rfl, rep_int rz, s2 _ _ (s1 _ _ haa), by rw [← rs.length]; exact hm, ?_⟩
        obtain ⟨mv, r'⟩ := r2.chg (s := .ol (xs.set m d)) oi ea (.inl ⟨_, ys.set m v, rfl, rfl, Reps.set m (rv.mv (.same s2)) (rs.mv (.same (s1.trans s2)))⟩)
        exact q _ _ _ (Mv.trans (.same (s1.trans s2)) mv) r'
      · cases e
    · cases e
theorem js_extend (i : Nat) {x : Str} {e : Expr} {f : Ex} {p2 apos cpos : Pos} (he : JF X e f) (hN : X.N[i]? = some x := by rfl) (hv : L2.Vis X.env.scope x := by first | exact Or.inl rfl | exact Or.inr (Or.inl rfl) | exact Or.inr (Or.inr rfl)) (hd : (x == ("__debug__" : Str)) = false := by decide)
    (hcd : (x == ("__classdict__" : Str)) = false := by decide) (hbase : attributeBase (.Name x p2) "extend" X.env (eval (.Name x p2) X.env) = eval (.Name x p2) X.env := by rfl)
    (hfew : ((backTo cpos (starEach [e] X.env)).all (fun x => !x.1) && (backToKw cpos (keywordEach [] X.env)).all (fun x => x.1.isSome)
      && decide (([e] : List Expr).length + ([] : List Keyword).length + (if ([] : List Keyword).isEmpty then 0 else 1) < 30)) = true := by rfl)
    (hline : (apos.endLine == cpos.line) = true := by rfl) (hs : starEach [e] X.env = (false, eval e X.env) :: starEach [] X.env := by rfl)
    (hsw : swapsWith (.Call (.Attribute (.Name x p2) "extend" apos) [e] [] cpos) none pos.line X.env = pure false := by rfl) :
    JS X (.Expr (.Call (.Attribute (.Name x p2) "extend" apos) [e] [] cpos) pos) (sExtend i f) := fun F0 =>
  PS_imp (L2.ps_expr (L2.pe_bm PySem.F.plainAttrs_list PySem.F.slot_list_extend PySem.F.type_list_extend L2.mt_extend (L2.pv i hN hv hd hcd) (L2.pa_cons he L2.pa_nil hs) hbase hfew hline hs) hsw) fun D σ H ⟨ρ, F, fl, r, e, q⟩ => by
    obtain ⟨d, ed, e⟩ := bind_ok_iff.mp e
    split at e
    · rename_i ds xs q1
      split at e
      · rename_i hlt
        cases e
        have oi : Owned ρ i := .inl ⟨_, q1⟩
        obtain ⟨a, ys, ea, fa, ha, rs⟩ := r.rs.ol i _ q1
        refine ⟨_, ea, .inl ⟨rfl, ys, SqL.of ha⟩, ρ, F, ds, r.rs, ed, fun p H1 zs s1 hp rz => ?_⟩
        have s2 : Same H1 (upd H1 p (.lst zs)) := Same.upd_new hp _
        have r1 := (r.same s1).same s2
        have ha2 := s2 _ _ (s1 _ _ ha)
        refine ⟨a, p, ys, zs, rfl, rfl, ha2, L2.upd_same, by rw [← rs.length, ← rz.length]; exact hlt, ?_⟩
        obtain ⟨mv, r'⟩ := r1.chg (s := .ol (xs ++ ds)) oi ea (.inl ⟨_, ys ++ zs, rfl, rfl, (rs.mv (.same (s1.trans s2))).append (rz.mv (.same s2))⟩)
        exact q _ _ _ (Mv.trans (.same (s1.trans s2)) mv) r'
      · cases e
    · cases e
end
end PL
set_option Elab.async false
set_option linter.all false
set_option maxRecDepth 100000
set_option maxHeartbeats 1000000
namespace PL
open PySem PySem.Spec
open L2 (V Hp HO Cx PE PT PW PA PS PSs PG PGs VK TE TT TA TS TI TG Inv RelV Vals Rd SqL SqT upd Same Key XK Ends OpR UnR CallR R2 EP It Turn FpOk Un)
section
variable {X : Cx} {M : Md} {G H H' : Hp} {F0 F F' : Addr → Prop} {σ : L2.St} {ρ : En} {pos : Pos} {pins : List (Addr × Obj)} {s : Shared}
/-! ### new lists -/
theorem jf_list {a : Expr} {fa : Ex} {p : Pos} (hgl : L2.Gl X "list") (hm : X.mg "list" = none) (ha : JE X a fa) (hs : starEach [a] X.env = (false, eval a X.env) :: starEach [] X.env := by rfl) : JF X (.Call (.Name "list" p) [a] [] pos) (e1 oList fa) :=
  PE_imp (L2.pe_callTy L2.call_list_of hgl hm bt_list (ja_cons ha ja_nil hs) (by decide) (by decide) hs) fun σ H Q ⟨ρ, F, ds, hr, e, q⟩ => by
    obtain ⟨d, ed, e⟩ := bind_ok_iff.mp e
    refine ⟨ρ, F, [d], hr, by show (fa ρ).bind _ = _; rw [ed]; rfl, fun vs H1 s1 rv => ?_⟩
    obtain ⟨y, rfl, ry⟩ := rv.one
    unfold oList at e
    split at e
    · cases e
      simp only [Rep] at ry
      obtain ⟨p, ys, rfl, h, rs⟩ := ry
      exact ⟨p, ys, rfl, .inl h.sq, fun l hl => q l H1 ys s1 hl rs⟩
    · cases e
      simp only [Rep] at ry
      obtain ⟨p, ys, rfl, h, rs⟩ := ry
      exact ⟨p, ys, rfl, .inr h.sq, fun l hl => q l H1 ys s1 hl rs⟩
    · cases e
/-! ### defs that return a list of their own -/
structure DfN (P : Program) (w : World) (K : PySem.W.Frag) (mg : Str → Option Value) (base : Heap) (x : Str) (k n : Nat) (m : List D → R D) : Prop where
  ex : ∃ f fd ps, L2.FnOk P w K mg base L2.CX0 k f fd ps (spN ⟨K, P, w⟩ m n) ∧ L2.Binds K fd ps [] ∧ PySem.W.keepIn K (.ref f) = true ∧ mg x = some (.ref f)
theorem tCall_ofN {m : List D → R D} {n : Nat} {fs : List Ex} {Q : VK} {E : XK} (hn : fs.length = n) (h : tPF M (eCall m fs) σ H Q) : L2.tCall (spN M m n) [] E (tPA M (eList fs)) σ H Q := by
  obtain ⟨ρ, F, d, hr, e, q⟩ := h
  obtain ⟨ds, eds, e⟩ := bind_ok_iff.mp e
  refine ⟨ρ, F, ds, hr, eds, fun vs H1 s1 rs => ?_⟩
  show spN M m n (vs ++ []) H1 Q E
  rw [List.append_nil]
  exact ⟨F, ds, d, (hr.same s1).trk, rs, by rw [eList_len eds]; exact hn, e, fun p H2 xs s2 hp rv => q p H2 xs (s1.trans s2) hp rv⟩
theorem jf_call {x : Str} {k j n : Nat} {m : List D → R D} {e : Expr} {es : List Expr} {fs : List Ex} {p : Pos} (d : DfN X.prog X.w X.K X.mg X.base x k n m) (hr : L2.Room j X.A) (hg : L2.Gl X x) (ha : JA X (e :: es) (eList fs)) (hk : k ≤ j := by decide) (hn : fs.length = n := by rfl)
    (hdb : (x == ("__debug__" : Str)) = false := by decide) (he : starEach (e :: es) X.env = (false, eval e X.env) :: starEach es X.env := by rfl) (hpl : (backTo pos (starEach es X.env)).any (·.1) = false := by rfl) : JF X (.Call (.Name x p) (e :: es) [] pos) (eCall m fs) := by
  obtain ⟨f, fd, ps, h1, h2, h3, h4⟩ := d.ex
  exact PE_imp (L2.pe_call h1 (hr.mono hk) hg h4 h3 h2 .nil L2.pass0 ha hdb he hpl) fun σ H Q h => tCall_ofN hn h
theorem fnN_lst {n : Nat} {body : Sm} {ds : List D} {d : D} (h : fnN n body ds = .ok d) : ∃ xs, d = .lst xs := by
  obtain ⟨f, _, e⟩ := bind_ok_iff.mp h
  split at e
  · cases e; exact ⟨_, rfl⟩
  · cases e
theorem je_callN {x : Str} {k j n N : Nat} {body : Sm} {m : List D → R D} {e : Expr} {es : List Expr} {fs : List Ex} {p : Pos} (d : DfN X.prog X.w X.K X.mg X.base x k n m) (hm : m = fnN N body) (hr : L2.Room j X.A) (hg : L2.Gl X x) (ha : JA X (e :: es) (eList fs)) (hk : k ≤ j := by decide) (hn : fs.length = n := by rfl)
    (hdb : (x == ("__debug__" : Str)) = false := by decide) (he : starEach (e :: es) X.env = (false, eval e X.env) :: starEach es X.env := by rfl) (hpl : (backTo pos (starEach es X.env)).any (·.1) = false := by rfl) : JE X (.Call (.Name x p) (e :: es) [] pos) (eCall m fs) :=
  je_of_jf (jf_call d hr hg ha hk hn hdb he hpl) fun ρ d h => by
    obtain ⟨ds, _, e⟩ := bind_ok_iff.mp h
    rw [hm] at e
    exact fnN_lst e
theorem fnok_ofN {P : Program} {w : World} {K : PySem.W.Frag} {mg : Str → Option Value} {base : Heap} {x qual : Str} {st : Stmt} {f : Addr} {fd : FuncData} {N ps : List Str} {k n : Nat} {body : Sm} (Fu : L2.Fun K x qual st f fd) (S : L2.FnScope N ps (L2.defScope st))
    (h : ∀ (cdv : Value) (A : Around) (outer : List Env) (s : Shared) (H : Hp) (E : XK), L2.Room k (A.deeper (PyProof.Rows.envOfC qual (L2.defScope st) s.heap.objs.size f cdv)) → JSs (L2.cxOf L2.CX0 P w K mg base N qual (L2.defScope st) f cdv A outer s H E).nox (L2.defBody st) body)
    (hn : ps.length = n := by rfl) : L2.FnOk P w K mg base L2.CX0 (k + 1) f fd ps (spN ⟨K, P, w⟩ (fnN N.length body) n) := by
  refine Fu.ok S (fun vs H Q E h => ?_) (fun cdv A outer s H vs Q E hr hsp => ?_)
  · obtain ⟨F, ds, d, _, rs, hl, _⟩ := h
    rw [← rs.length, hl, hn]
  · refine ⟨fun D σ H' => ∃ F0, tPS ⟨K, P, w⟩ H F0 body D σ H', fun pins s' σ H' D I ⟨F0, q⟩ => h cdv A outer s H E hr F0 pins s' σ H' D I q, ?_⟩
    refine body_ofN (G := H) (t := fun D σ H' => ∃ F0, tPS ⟨K, P, w⟩ H F0 body D σ H') (fun F0 D σ H' h => ⟨F0, h⟩) hsp ?_
    have := congrArg List.length S.pre
    rw [List.length_take] at this
    omega
theorem df_ofN {P : Program} {w : World} {K : PySem.W.Frag} {mg : Str → Option Value} {base : Heap} {x qual : Str} {st : Stmt} {f : Addr} {fd : FuncData} {N ps : List Str} {k n : Nat} {body : Sm} (Fu : L2.Fun K x qual st f fd) (hm : mg x = some (.ref f)) (S : L2.FnScope N ps (L2.defScope st)) (hb : L2.Binds K fd ps [])
    (h : ∀ (cdv : Value) (A : Around) (outer : List Env) (s : Shared) (H : Hp) (E : XK), L2.Room k (A.deeper (PyProof.Rows.envOfC qual (L2.defScope st) s.heap.objs.size f cdv)) → JSs (L2.cxOf L2.CX0 P w K mg base N qual (L2.defScope st) f cdv A outer s H E).nox (L2.defBody st) body)
    (hn : ps.length = n := by rfl) : DfN P w K mg base x (k + 1) n (fnN N.length body) := ⟨f, fd, ps, fnok_ofN Fu S h hn, hb, Fu.kp, hm⟩
end
end PL
set_option Elab.async false
set_option linter.all false
set_option maxRecDepth 100000
set_option maxHeartbeats 1000000
namespace PL
open PySem PySem.Spec
open L2 (V Hp HO Cx PE PT PW PA PS PSs PG PGs VK TE TT TA TS TI TG Inv RelV Vals Rd SqL SqT upd Same Key XK Ends OpR UnR CallR R2 EP It Turn FpOk Un)
/-! ### sum, any, len(set(..)), tuples many times over -/
def intsOf : List D → Option (List Int)
  | [] => some []
  | .int i :: r => (intsOf r).map (i :: ·)
  | _ => none
@[simp] def oSum : D → R D
  | .lst xs => match intsOf xs with
    | some ns => .ok (.int ns.sum)
    | none => .bad
  | .tup xs => match intsOf xs with
    | some ns => .ok (.int ns.sum)
    | none => .bad
  | _ => .bad
def bolsOf : List D → Option (List Bool)
  | [] => some []
  | .bl i :: r => (bolsOf r).map (i :: ·)
  | _ => none
@[simp] def oAny : D → R D
  | .lst xs => match bolsOf xs with
    | some ns => .ok (.bl (ns.any id))
    | none => .bad
  | _ => .bad
/-- how many unlike ones -/
def unlike (ns : List Int) : Nat := (PyProof.Rows.firstMet (fun i => ns.getD i 0) ns.length).length
@[simp] def oLenSet : D → R D
  | .lst xs => match intsOf xs with
    | some ns => if ns.length ≤ 4000 then .ok (.int (unlike ns)) else .bad
    | none => .bad
  | _ => .bad
@[simp] def oRepT : D → D → R D
  | .tup x, .int j => if 1 < j ∧ j < 1000 ∧ x.length ≤ 1000 ∧ x.isEmpty = false then .ok (.tup (List.replicate j.toNat x).flatten) else .bad
  | _, _ => .bad
@[simp] def oListRng : D → D → R D
  | .int i, .int j => if inR i = true ∧ inR j = true ∧ j - i ≤ 16777216 then .ok (.lst (rangeL i j)) else .bad
  | _, _ => .bad
section
variable {X : Cx} {M : Md} {G H H' : Hp} {F0 F F' : Addr → Prop} {σ : L2.St} {ρ : En} {pos : Pos} {pins : List (Addr × Obj)} {s : Shared}
/-- a list or a tuple of whole numbers -/
def SqI (K : PySem.W.Frag) (H : Hp) (p : Addr) (ns : List Int) : Prop := SqL K H p (ns.map V.int) ∨ SqT K H p (ns.map V.int)
/-! ### len(set(..)) -/
end
end PL
set_option Elab.async false
set_option linter.all false
set_option maxRecDepth 100000
set_option maxHeartbeats 1000000
namespace PL
open PySem PySem.Spec
open L2 (V Hp HO Cx PE PT PW PA PS PSs PG PGs VK TE TT TA TS TI TG Inv RelV Vals Rd SqL SqT upd Same Key XK Ends OpR UnR CallR R2 EP It Turn FpOk Un)
/-- return of a new list -/
@[simp] def sRetF (e : Ex) : Sm := fun ρ => (e ρ).bind fun d => .ok (.retN d)
section
variable {X : Cx} {M : Md} {G H H' : Hp} {F0 F F' : Addr → Prop} {σ : L2.St} {ρ : En} {pos : Pos} {pins : List (Addr × Obj)} {s : Shared}
theorem js_retF {a : Expr} {fa : Ex} (ha : JF X a fa) (hl : ∀ ρ d, fa ρ = .ok d → ∃ ds, d = .lst ds) : JS X (.Return (some a) pos) (sRetF fa) := fun F0 =>
  PS_imp (L2.ps_ret ha) fun D σ H ⟨ρ, F, fl, r, e, q⟩ => by
    obtain ⟨d, ed, e⟩ := bind_ok_iff.mp e
    cases e
    obtain ⟨ds, rfl⟩ := hl _ _ ed
    exact ⟨ρ, F, ds, r.rs, ed, fun p H1 xs s1 hp rv => q p H1 F xs ds rfl (.same s1) (r.sm.trans s1) r.sub hp rv⟩
theorem add_lst {fa fb : Ex} (h : ∀ ρ d, fa ρ = .ok d → ∃ ds, d = .lst ds) (ρ : En) (d : D) (e : e2 oAdd fa fb ρ = .ok d) : ∃ ds, d = .lst ds := by
  obtain ⟨x, ex, e⟩ := bind_ok_iff.mp e
  obtain ⟨y, ey, e⟩ := bind_ok_iff.mp e
  obtain ⟨xs, rfl⟩ := h _ _ ex
  unfold oAdd at e
  split at e
  · rename_i h; cases h
  · rename_i h; cases h
  · split at e
    · cases e; exact ⟨_, rfl⟩
    · cases e
  · rename_i h; cases h
  · cases e
/-! ### list(range(a, b)) -/
theorem rng_vals {i : Int} {n : Nat} {acc : Array Value} (h : ItemsOf (fun k v => ∃ t, v = .int (i + k * 1) t) acc n) : Vals ((List.range n).map fun (k : Nat) => V.int (i + (k : Int))) acc.toList := by
  obtain ⟨hn, hg⟩ := h
  have key : ∀ (l : List Value) (m : Nat) (j : Int), l.length = m → (∀ (k : Nat) v, l[k]? = some v → ∃ t, v = .int (j + k) t) → Vals ((List.range m).map fun (k : Nat) => V.int (j + (k : Int))) l := by
    intro l
    induction l with
    | nil => intro m j hm _; cases hm; exact .nil
    | cons v l ih =>
      intro m j hm hg
      cases hm
      rw [List.length_cons, List.range_succ_eq_map, List.map_cons, List.map_map]
      obtain ⟨t, ht⟩ := hg 0 v rfl
      refine .cons ⟨t, by rw [ht]⟩ ?_
      have := ih l.length (j + 1) rfl (fun k w hk => by
        obtain ⟨t, e⟩ := hg (k + 1) w (by simpa using hk)
        exact ⟨t, by rw [e]; congr 1; omega⟩)
      refine (Eq.mp (congrArg (fun z => Vals z l) ?_) this)
      apply List.map_congr_left
      intro k _
      show V.int (j + 1 + (k : Int)) = V.int (j + ((k + 1 : Nat) : Int))
      congr 1; omega
  refine key acc.toList n i (by simpa using hn) fun k v hk => ?_
  have hk' : acc[k]? = some v := by simpa using hk
  obtain ⟨t, e⟩ := hg k v hk'
  exact ⟨t, by rw [e]; congr 1; omega⟩
theorem reps_rng (i : Int) : ∀ l : List Nat, Reps M H F (l.map fun (k : Nat) => D.int (i + (k : Int))) (l.map fun (k : Nat) => V.int (i + (k : Int)))
  | [] => Reps.nil
  | k :: l => Reps.cons rep_int_mk (reps_rng i l)
theorem jf_listRng {a b : Expr} {fa fb : Ex} {p p2 pos2 : Pos} (hc : X.calm = true) (hg : L2.Gl X "list") (hm : X.mg "list" = none) (hg2 : L2.Gl X "range") (hm2 : X.mg "range" = none) (ha : JE X a fa) (hb : JE X b fb)
    (hs0 : starEach [.Call (.Name "range" p2) [a, b] [] pos2] X.env = (false, eval (.Call (.Name "range" p2) [a, b] [] pos2) X.env) :: starEach [] X.env := by rfl) (hs : starEach [a, b] X.env = (false, eval a X.env) :: starEach [b] X.env := by rfl) (hs2 : starEach [b] X.env = (false, eval b X.env) :: starEach [] X.env := by rfl) :
    JF X (.Call (.Name "list" p) [.Call (.Name "range" p2) [a, b] [] pos2] [] pos) (e2 oListRng fa fb) := by
  intro pins s σ H Q I ⟨ρ, F, ds, hr, e, q⟩
  obtain ⟨x, ex, e⟩ := bind_ok_iff.mp e
  obtain ⟨y, ey, e⟩ := bind_ok_iff.mp e
  cases x with
  | int i =>
   cases y with
   | int j =>
    replace e : (if inR i = true ∧ inR j = true ∧ j - i ≤ 16777216 then R.ok (D.lst (rangeL i j)) else R.bad) = R.ok (D.lst ds) := e
    by_cases h : inR i = true ∧ inR j = true ∧ j - i ≤ 16777216
    · rw [if_pos h] at e
      cases e
      obtain ⟨hi, hj, hd⟩ := h
      unfold inR at hi hj
      rw [Bool.and_eq_true, decide_eq_true_eq, decide_eq_true_eq] at hi hj
      refine wpAny_Call_Name_kw (L2.ld_blt I hg hm bt_list ?_ (by decide) (by decide))
      refine PyProof.Rows.callWith_type1 ?_ hs0 (by rfl)
      rw [hs0]
      show wpAny _ _ (spliced ((false, eval (.Call (.Name "range" p2) [a, b] [] pos2) X.env) :: backTo pos (starEach [] X.env))) _ _ s
      refine Calls.spliced_cons (wpAny_Call_Name_kw (L2.ld_blt I hg2 hm2 PyProof.Rows.boot_range (PyProof.Rows.callWith_type1 (L2.thn ((ja_cons ha (ja_cons hb ja_nil hs2) hs) pos2 pins s σ H _ I ⟨ρ, F, [.int i, .int j], hr, by show (fa ρ).bind _ = _; rw [ex]; show ((fb ρ).bind _).bind _ = _; rw [ey]; rfl, fun vs H1 s1 rv => (⟨s1, rv⟩ : Same H H1 ∧ Reps (mdOf X) H1 F [.int i, .int j] vs)⟩) fun us s1 ⟨vs, H1, I1, r1, sm1, rv⟩ => ?_) hs (by rw [hs2]; rfl)) (by decide) (by decide)))
      obtain ⟨v1, v2, rfl, rx, ry⟩ := rv.two
      cases rep_int rx
      cases rep_int ry
      obtain ⟨u1, u2, rfl, ru1, ru2⟩ := L2.vals2 r1
      obtain ⟨t1, rfl⟩ := ru1
      obtain ⟨t2, rfl⟩ := ru2
      refine call_range_2 (Calls.spliced_nil ?_)
      have hh : X.A.handled = none := I.ok.hd hc
      have hsz : Builtin.Range.rangeSize i j 1 = (((j - i).toNat : Nat) : Int) := by rw [PySem.rangeSize_one]; split <;> omega
      have I2 : Inv X pins σ H1 { s1 with heap := s1.heap.push { cls := .type "range", data := .fields #[.int i t1, .int j t2, .int 1 s1.toks] }, toks := s1.toks + 1 } := I1.kept (t' := s1.toks + 1) fun b o e => Heap.get?_push_of_some _ e
      refine call_list_range hh (IsRange.new ..) (small_one (by omega) (by omega) (by omega) (by omega)) hsz (by omega) fun h' tk acc c' hk hS' hacc => ?_
      have hv := rng_vals hacc
      have hlen : ((List.range (j - i).toNat).map fun (k : Nat) => V.int (i + (k : Int))).length ≤ sizeLine := by rw [List.length_map, List.length_range, sizeLine_eq]; omega
      have I3 := I2.laid (o := .lst ((List.range (j - i).toNat).map fun (k : Nat) => V.int (i + (k : Int)))) (h' := h') (t' := tk) hk (Nat.le_refl _) ⟨hlen, acc.toList, c', hv, by simpa using hS'⟩
      exact ⟨.ref _, _, I3, rfl, q _ H1 _ sm1 (I2.fresh) (reps_rng i _)⟩
    · rw [if_neg h] at e; cases e
   | _ => cases e
  | _ => cases e
/-! ### x = o.pop(e), o2.append(o.pop(e)) -/
theorem Reps.erase : ∀ {ds : List D} {xs : List V} (k : Nat), Reps M H F ds xs → Reps M H F (ds.eraseIdx k) (xs.eraseIdx k)
  | [], _, k, h => by simp only [Reps] at h; subst h; exact Reps.nil
  | d :: ds, _, 0, h => by
    simp only [Reps] at h
    obtain ⟨y, r, rfl, _, h2⟩ := h
    exact h2
  | d :: ds, _, k + 1, h => by
    simp only [Reps] at h
    obtain ⟨y, r, rfl, h1, h2⟩ := h
    exact Reps.cons h1 (Reps.erase k h2)
theorem seq_ixN {n m : Nat} {k : Int} (h : ixN n k = some m) : seqIndex? k n = some m := (L2.ixN_seq h).1
theorem js_pop (j i : Nat) {x y : Str} {e : Expr} {f : Ex} {p2 p3 apos cpos : Pos} (nd : X.N.Nodup) (he : JE X e f) (hj : X.N[j]? = some y) (hN : X.N[i]? = some x) (hx : L2.Loc X.env.scope y) (hv : L2.Vis X.env.scope x) (hf : X.fn y = true ∨ X.env.scope.names.lookup y = some .local) (hd : (x == ("__debug__" : Str)) = false)
    (hcd : (x == ("__classdict__" : Str)) = false) (hbase : attributeBase (.Name x p2) "pop" X.env (eval (.Name x p2) X.env) = eval (.Name x p2) X.env)
    (hfew : ((backTo cpos (starEach [e] X.env)).all (fun x => !x.1) && (backToKw cpos (keywordEach [] X.env)).all (fun x => x.1.isSome)
      && decide (([e] : List Expr).length + ([] : List Keyword).length + (if ([] : List Keyword).isEmpty then 0 else 1) < 30)) = true)
    (hline : (apos.endLine == cpos.line) = true) (hs : starEach [e] X.env = (false, eval e X.env) :: starEach [] X.env)
    (hsw : swapsWith (.Call (.Attribute (.Name x p2) "pop" apos) [e] [] cpos) (some (.Name y p3)) pos.line X.env = pure false) :
    JS X (.Assign [.Name y p3] (.Call (.Attribute (.Name x p2) "pop" apos) [e] [] cpos) pos) (sPop j i f) := fun F0 =>
  PS_imp (L2.ps_set nd hj hx (L2.pe_bm PySem.F.plainAttrs_list PySem.F.slot_list_pop PySem.F.type_list_pop L2.mt_popAt (L2.pv i hN hv hd hcd) (ja_cons he ja_nil hs) hbase hfew hline hs) hsw hf) fun D σ H ⟨ρ, F, fl, r, e, q⟩ => by
    obtain ⟨d, ed, e⟩ := bind_ok_iff.mp e
    split at e
    · rename_i k xs q1
      split at e
      · rename_i m hm
        split at e
        · rename_i y hy
          split at e
          · rename_i hk
            cases e
            have oi : Owned ρ i := .inl ⟨_, q1⟩
            obtain ⟨a, ys, ea, fa, ha, rs⟩ := r.rs.ol i _ q1
            unfold inR at hk
            rw [Bool.and_eq_true, decide_eq_true_eq, decide_eq_true_eq] at hk
            refine ⟨_, ea, .inl ⟨rfl, ys, SqL.of ha⟩, ρ, F, [.int k], r.rs, by show (f ρ).bind _ = _; rw [ed]; rfl, fun vs H1 s1 rv => ?_⟩
            obtain ⟨z, rfl, rz⟩ := rv.one
            have r1 := r.same s1
            have rs1 := rs.mv (M := mdOf X) (F' := F) (.same s1)
            obtain ⟨v, ev, rv'⟩ := rs1.get hy
            refine ⟨a, ys, k, m, v, rfl, by rw [rep_int rz], s1 _ _ ha, by omega, by omega, by rw [← rs.length]; exact seq_ixN hm, ev, ?_⟩
            obtain ⟨mv, r'⟩ := r1.chg (s := .ol (xs.eraseIdx m)) oi ea (.inl ⟨_, ys.eraseIdx m, rfl, rfl, rs1.erase m⟩)
            exact q _ _ _ (Mv.trans (.same s1) mv) (r'.setSh (rv'.mv mv))
          · cases e
        · cases e
      · cases e
    · cases e
end
end PL
set_option Elab.async false
set_option linter.all false
set_option maxRecDepth 100000
set_option maxHeartbeats 1000000
namespace PL
open PySem PySem.Spec
open L2 (V Hp HO Cx PE PT PW PA PS PSs PG PGs VK TE TT TA TS TI TG Inv RelV Vals Rd SqL SqT upd Same Key XK Ends OpR UnR CallR R2 EP It Turn FpOk Un)
/-! ### enumerate of anything that is drawn from, from any number on -/
section
variable {prog : Program} {w : World} {A : Around} {E : Value → Shared → Prop} {s : Shared} {e it : Addr} {fp : List Addr} {n i : Nat} {c : Int} {P : Nat → Value → Prop} {St : Nat → Heap → Prop} {old : Value}
theorem enumC_item (D : Draws prog w A it fp n P St) (he : IsEnum s.heap e it c old) (hst : St i s.heap) (hlt : i < n) (hne : e ≠ it) (hef : e ∉ fp) {Q : Value → Shared → Prop}
    (hQ : ∀ x h' tk, P i x → IsEnumOut h' e it (c + 1) x s.heap.objs.size → St (i + 1) h' → h'.get? s.heap.objs.size = some { cls := .type "tuple", data := .seq #[.int c tk, x] } →
      (∀ b o, b ≠ e → b ≠ it → s.heap.get? b = some o → h'.get? b = some o) → Q (.ref s.heap.objs.size) { s with heap := h', toks := tk + 1 }) :
    wpAny (model prog w) A (Builtin.«enumerate.__next__» ⟨[.ref e], []⟩) (fun fin s' => ∃ v, fin = .done (.ret v) ∧ Q v s') E s := by
  obtain ⟨hp, g, dd, tk₀, os⟩ := s
  show wpAny _ _ (PySem.field (.ref e) 2 >>= _) _ _ _; refine wpAny_bind (wpAny_field he rfl (x := .ref it) rfl (wpAny_bind (D.item i _ _ _ hlt hst fun x h1 tk px st1 hs1 => ?_)))
  replace hs1 : Heap.SameBut it hp h1 := hs1
  have a1 : IsEnum h1 e it c old := (hs1.2 e hne).trans he
  show wpAny _ _ (PySem.field (.ref e) 3 >>= _) _ _ ⟨h1, g, dd, tk, os⟩; refine wpAny_bind (wpAny_field a1 rfl (x := rawInt c) rfl ?_)
  show wpAny _ _ (PySem.field (.ref e) 4 >>= _) _ _ ⟨h1, g, dd, tk, os⟩; refine wpAny_bind (wpAny_field a1 rfl (x := .none) rfl ?_)
  show wpAny _ _ (mkInt c >>= _) _ _ ⟨h1, g, dd, tk, os⟩; refine wpAny_bind (wpAny_mkInt ?_)
  show wpAny _ _ (setField (.ref e) 3 (rawInt (c + 1)) >>= _) _ _ ⟨h1, g, dd, tk + 1, os⟩; refine wpAny_bind (wpAny_setField_rec a1 (by simp) fun h2 a2 hs2 => ?_)
  replace hs2 : Heap.SameBut e h1 h2 := hs2; replace a2 : IsEnum h2 e it (c + 1) old := a2
  show wpAny _ _ (setField (.ref e) 4 .none >>= _) _ _ ⟨h2, g, dd, tk + 1, os⟩; refine wpAny_bind (wpAny_setField_rec a2 (by simp) fun h3 a3 hs3 => ?_)
  replace hs3 : Heap.SameBut e h2 h3 := hs3; replace a3 : IsEnum h3 e it (c + 1) old := a3
  show wpAny _ _ (newTuple [.int c tk, x] >>= _) _ _ ⟨h3, g, dd, tk + 1, os⟩; refine wpAny_bind (wpAny_newTuple ?_)
  have a4 : IsEnum (h3.push { cls := .type "tuple", data := .seq #[.int c tk, x] }) e it (c + 1) old := Heap.get?_push_of_some _ a3
  generalize hh4 : h3.push { cls := .type "tuple", data := .seq #[.int c tk, x] } = h4 at a4
  have hsz : h3.objs.size = hp.objs.size := by rw [hs3.1, hs2.1, hs1.1]
  have hel : e < hp.objs.size := Heap.lt_size he
  have t4 : h4.get? hp.objs.size = some { cls := .type "tuple", data := .seq #[.int c tk, x] } := by rw [← hh4, ← hsz]; exact Heap.get?_push_size _ rfl
  have k4 : ∀ b o, b ≠ e → b ≠ it → hp.get? b = some o → h4.get? b = some o := fun b o hbe hbi q => by rw [← hh4]; exact Heap.get?_push_of_some _ (hs3.extBut b o hbe (hs2.extBut b o hbe (hs1.extBut b o hbi q)))
  have ne_e : ∀ b ∈ fp, b ≠ e := fun b hb q => hef (q ▸ hb)
  have st4 : St (i + 1) h4 := D.frame _ _ _ st1 fun b hb o y => by rw [← hh4]; exact Heap.get?_push_of_some _ (hs3.extBut b o (ne_e b hb) (hs2.extBut b o (ne_e b hb) y))
  rw [hsz]
  show wpAny _ _ (Builtin.SmallTypes.ownedTupleIsFree (.ref e) >>= _) _ _ ⟨h4, g, dd, tk + 1, os⟩
  refine wpAny_bind ?_
  unfold Builtin.SmallTypes.ownedTupleIsFree
  refine wpAny_bind (wpAny_field a4 rfl (x := .none) rfl (wpAny_pure ?_)); simp only [if_true]
  refine wpAny_bind (wpAny_rule (wpAny_bind (wpAny_field a4 rfl (x := old) rfl (wpAny_bind (wpAny_setField_rec a4 (by simp) fun h5 a5 hs5 => ?_)))))
  replace hs5 : Heap.SameBut e h4 h5 := hs5; replace a5 : IsEnum h5 e it (c + 1) x := a5
  show wpAny _ _ (Builtin.SmallTypes.ownedTupleHandOut (.ref e) (.ref hp.objs.size) >>= _) _ _ ⟨h5, g, dd, tk + 1, os⟩
  refine wpAny_bind ?_
  unfold Builtin.SmallTypes.ownedTupleHandOut
  refine wpAny_bind (wpAny_setField_rec a5 (by simp) fun h6 a6 hs6 => ?_)
  replace hs6 : Heap.SameBut e h5 h6 := hs6; replace a6 : IsEnumOut h6 e it (c + 1) x hp.objs.size := a6
  refine wpAny_setField_rec a6 (by simp) fun h7 a7 hs7 => ?_
  replace hs7 : Heap.SameBut e h6 h7 := hs7; replace a7 : IsEnumOut h7 e it (c + 1) x hp.objs.size := a7
  have up : ∀ b o, b ≠ e → h4.get? b = some o → h7.get? b = some o := fun b o hb y => hs7.extBut b o hb (hs6.extBut b o hb (hs5.extBut b o hb y))
  exact wpAny_bind (wpAny_letGo (wpAny_pure ⟨_, rfl, hQ x h7 tk px a7 (D.frame _ _ _ st4 fun b hb o y => up b o (ne_e b hb) y) (up _ _ (Nat.ne_of_gt hel) t4) fun b o hbe hbi q => up b o hbe (k4 b o hbe hbi q)⟩))
end
def Ite (K : PySem.W.Frag) (c0 : Int) (d : Sd) : It where
  go i H := ∃ xs, d.at K H xs ∧ i < xs.length
  yld i H v H' := ∃ t x, v = .ref t ∧ H t = none ∧ (∀ xs, d.at K H xs → xs[i]? = some x) ∧ H' = upd H t (.tup [.int (c0 + (i : Int)), x])
  stop i H := ∃ xs, d.at K H xs ∧ i = xs.length
def tne (c0 : Int) (d : Sd) (td : Tok) (e it : Addr) (i : Nat) (h : Heap) : Prop := (∃ old, IsEnum h e it (c0 + (i : Int)) old) ∧ d.itr it i h td
theorem turn_enum {P : Program} {w : World} {K : PySem.W.Frag} {elts : List Expr} {k : Nat} {tp : Pos} (c0 : Int) (d : Sd) (td : Tok) (e it : Addr) (ne : e ≠ it) (hK : ∀ b ∈ [e, it], K.lookup b = none) :
    Turn P w K (.Tuple elts k tp) (Ite K c0 d) [e, it] e (tne c0 d td e it) where
  mem := by simp
  obj i h st b hb := by
    obtain ⟨⟨old, he⟩, h1⟩ := st
    simp only [List.mem_cons, List.not_mem_nil, or_false] at hb
    rcases hb with rfl | rfl
    · exact ⟨_, he, fun v q => by cases q⟩
    · exact Sd.itr_obj h1
  keep i h h' st kk := by
    obtain ⟨⟨old, he⟩, h1⟩ := st
    exact ⟨⟨old, kk e (by simp) _ he⟩, Sd.itr_keep h1 fun o q => kk it (by simp) o q⟩
  item := by
    intro X hP hw hKX hc i pins s σ H E I hf st hg
    subst hP hw hKX
    obtain ⟨xs, ax, hx⟩ := hg
    obtain ⟨⟨old, he⟩, h1⟩ := st
    have hh : X.A.in1.handled = none := I.ok.hd hc
    have un : ∀ b ∈ [e, it], H b = none := fun b hb => (hf b hb).1
    obtain ⟨f1, P1, S1, D1, p1, s1, s1', q1⟩ := Sd.draws (it := it) (tk := td) (A := X.A.in1) I hh ax (un it (by simp)) (hK it (by simp))
    have hef : e ∉ f1 := fun hm => by
      rcases q1 e hm with h | h | ⟨o, h⟩
      · exact ne h
      · exact h (un e (by simp))
      · rw [hK e (by simp)] at h; cases h
    have hT : s.TypeIs (.ref e) "enumerate" := ⟨_, he, rfl⟩
    unfold pyNext
    refine wpAny_bind (wpAny_attempt (wpAny_callSpecial?_slot (name := Str.ofString "__next__") hT PySem.F.slot_enumerate_next (wpAny_call_entry PySem.F.slot_enumerate_next hT PySem.F.entry_enumerate_next (enumC_item D1 he (s1' i h1) hx ne hef fun x h' tk px ho st1 hp hk => wpAny_pure ?_) (PySem.F.args_enumerate_next_1 _))))
    obtain ⟨v1, e1, r1⟩ := p1 i x px
    refine ⟨_, rfl, wpAny_letOwnedTupleGo_enum ho fun h2 he2 hs2 => ?_⟩
    have helt : e < s.heap.objs.size := Heap.lt_size he
    have Te : s.heap.objs.size ≠ e := Nat.ne_of_gt helt
    have hk2 : ∀ b o, b ≠ e → b ≠ it → s.heap.get? b = some o → h2.get? b = some o := fun b o c1 c2 q => hs2.extBut _ _ c1 (hk b o c1 c2 q)
    have hp2 : h2.get? s.heap.objs.size = some { cls := .type "tuple", data := .seq #[.int (c0 + (i : Int)) tk, x] } := hs2.extBut _ _ Te hp
    have nT : H s.heap.objs.size = none := I.hok.fresh (Nat.le_refl _)
    have trk : ∀ c u, H c = some u → c ≠ e ∧ c ≠ it := fun c u q => by refine ⟨?_, ?_⟩ <;> (intro w; rw [w, un _ (by simp)] at q; cases q)
    have nch : ∀ c, c ∉ [e, it] → c ≠ e ∧ c ≠ it := fun c hc' => by simpa [not_or] using hc'
    have u : Un (L2.frs X.stack) [e, it] H (upd H s.heap.objs.size (.tup [.int (c0 + (i : Int)), v1])) s.heap h2 :=
      ⟨fun b o q n hf' hx' => let m := nch b hx'; hk2 b o m.1 m.2 q, fun b o q n hf' hx' => let m := nch b hx'; ⟨o.slots, hk2 b o m.1 m.2 q⟩, fun b o q n hx' => by rw [L2.upd_ne (Nat.ne_of_lt (Heap.lt_size q))]; exact n,
        fun b o q hx' => let m := nch b hx'; ⟨o, hk2 b o m.1 m.2 q⟩, fun b zs q => by rw [L2.upd_ne (L2.ne_of_none q nT)]; exact q, fun b o zs q => by rw [L2.upd_ne (L2.ne_of_none q nT)]; exact q, fun b ps q => ⟨#[], by rw [L2.upd_ne (L2.ne_of_none q nT), q]; simp⟩⟩
    have hok : L2.HOk X.prog X.w (upd H s.heap.objs.size (.tup [.int (c0 + (i : Int)), v1])) h2 := fun b ob q => by
      by_cases hb : b = s.heap.objs.size
      · subst hb
        rw [L2.upd_same] at q
        cases q
        exact ⟨show 2 ≤ sizeLine by decide, [.int (c0 + (i : Int)) tk, x], .cons ⟨_, rfl⟩ (.cons r1 .nil), ⟨_, hp2, rfl, _, rfl⟩⟩
      · rw [L2.upd_ne hb] at q
        refine (I.hok b ob q).stay (fun c v hcv w => ?_) (fun c w => by rw [L2.upd_ne (L2.ne_of_none w nT)]; exact w) fun c zs w => by rw [L2.upd_ne (L2.ne_of_none w nT)]; exact w
        have tc : ∃ u, H c = some u := by
          rcases hcv with rfl | hcv
          · exact ⟨_, q⟩
          · exact ⟨_, hcv⟩
        obtain ⟨u', hu'⟩ := tc
        have m := trk c u' hu'
        exact hk2 c v m.1 m.2 w
    have I2 : Inv X pins σ (upd H s.heap.objs.size (.tup [.int (c0 + (i : Int)), v1])) { s with heap := h2, toks := tk + 1 } := I.call' (s' := { s with heap := h2, toks := tk + 1 }) (ch := [e, it]) rfl u hok I.bare fun b hb => by
      obtain ⟨_, a1, a2, a3, a4, a5⟩ := hf b hb
      exact ⟨a3, a1, a4, a5⟩
    have ltb : ∀ b ∈ [e, it], b ≠ s.heap.objs.size := fun b hb => by
      have : ∃ o, s.heap.get? b = some o := by
        simp only [List.mem_cons, List.not_mem_nil, or_false] at hb
        rcases hb with rfl | rfl
        · exact ⟨_, he⟩
        · exact let ⟨o, q, _⟩ := Sd.itr_obj h1; ⟨o, q⟩
      obtain ⟨o, q⟩ := this
      exact Nat.ne_of_lt (Heap.lt_size q)
    have cn : c0 + (i : Int) + 1 = c0 + ((i + 1 : Nat) : Int) := by omega
    rw [cn] at he2
    refine ⟨.ref s.heap.objs.size, _, I2, rfl, ⟨_, v1, rfl, nT, fun xs' hx' => by rw [Sd.inj I hx' ax]; exact e1, rfl⟩, ⟨⟨_, he2⟩, Sd.itr_keep (s1 _ _ st1) fun o q => hs2.extBut _ _ (Ne.symm ne) q⟩, fun b hb => ?_⟩
    show upd H _ _ b = none
    rw [L2.upd_ne (ltb b hb)]; exact un b hb
  done := by
    intro X hP hw hKX hc i pins s σ H E I hf st hg
    subst hP hw hKX
    obtain ⟨xs, ax, hend⟩ := hg
    obtain ⟨⟨old, he⟩, h1⟩ := st
    have hh : X.A.in1.handled = none := I.ok.hd hc
    have un : ∀ b ∈ [e, it], H b = none := fun b hb => (hf b hb).1
    obtain ⟨f1, P1, S1, D1, p1, s1, s1', q1⟩ := Sd.draws (it := it) (tk := td) (A := X.A.in1) I hh ax (un it (by simp)) (hK it (by simp))
    refine wpAny_pyNext_enum_endD D1 he (by rw [← hend]; exact s1' i h1) fun h' hk => ⟨rfl, ?_⟩
    have fpi := hf it (by simp)
    obtain ⟨b0, b1, b2, b3, b4, b5⟩ := fpi
    exact I.turned (it := it) (t' := s.toks) (fun b o hb q => hk b o hb q) b0 b1 b3 b4 b5
  self _ _ _ _ _ st h := let ⟨old, he⟩ := st.1; wpAny_pyIter_enum he h
abbrev eP1 (h : Heap) (d : Sd) (td : Tok) : Heap := h.push (d.obj td)
abbrev eP2 (h : Heap) (d : Sd) (td : Tok) (c : Int) : Heap := (eP1 h d td).push { cls := .type "enumerate", data := .fields #[.none, .bool false, .ref h.objs.size, rawInt c, .none, .none] }
theorem enum_new_any (d : Sd) (td : Tok) : Meets (Builtin.«enumerate.__new__» ⟨[.type "enumerate", d.val td], []⟩) (fun _ R s => d.is s.heap ∧ R (.ok (.ret (.ref (eP1 s.heap d td).objs.size))) { s with heap := eP2 s.heap d td 0 }) :=
  .of_wp fun prog w A R s h => by
    obtain ⟨hp, g, dr, tk, os⟩ := s; obtain ⟨h1, h⟩ := h
    have hsub := sub_enumerate
    have a1 : d.is (Shared.heap ⟨hp, g, dr, tk, os⟩) := h1
    wp_walk
    refine wpAny_stack_any fun st => wpAny_pure ?_
    split
    · rename_i c _ _ _ _ _
      cases (c == Value.type "enumerate")
      · wp_walk using Sd.iter a1; exact ⟨_, rfl, h⟩
      · wp_walk using Sd.iter a1; exact ⟨_, rfl, h⟩
    · wp_walk using Sd.iter a1; exact ⟨_, rfl, h⟩
section
variable {X : Cx} {M : Md} {G H H' : Hp} {F0 F F' : Addr → Prop} {σ : L2.St} {ρ : En} {pos : Pos} {pins : List (Addr × Obj)} {s : Shared}
/-- the walk of a new enumerate object -/
theorem enum_it {elts : List Expr} {k : Nat} {tp : Pos} {d : Sd} {td : Tok} {xs : List V} {c : Int} {R : It → Hp → Prop} (I : Inv X pins σ H s) (ax : d.at X.K H xs) (q : R (Ite X.K c d) H) :
    wpAny (model X.prog X.w) X.A (pyIter (.ref (eP1 s.heap d td).objs.size)) (L2.PIE X pins σ (.Tuple elts k tp) R) X.xe { s with heap := eP2 s.heap d td c } := by
  have z1 : (eP1 s.heap d td).objs.size = s.heap.objs.size + 1 := Heap.size_push ..
  have nf : (d.obj td).isFreed = false := by cases d <;> rfl
  have g2 : (eP2 s.heap d td c).get? (eP1 s.heap d td).objs.size = some _ := Heap.get?_push_size _ rfl
  have g1 : (eP2 s.heap d td c).get? s.heap.objs.size = some (d.obj td) := Heap.get?_push_of_some _ (Heap.get?_push_size _ nf)
  have old : ∀ b o, s.heap.get? b = some o → (eP2 s.heap d td c).get? b = some o := fun b o x => Heap.get?_push_of_some _ (Heap.get?_push_of_some _ x)
  rw [z1] at g2
  rw [z1]
  refine wpAny_pyIter_enum g2 ?_
  have I2 : Inv X pins σ H { s with heap := eP2 s.heap d td c } := I.kept (t' := s.toks) old
  have hK : ∀ b, s.heap.objs.size ≤ b → X.K.lookup b = none := fun b hb => by
    cases q : X.K.lookup b with
    | none => rfl
    | some o => exact absurd (Nat.lt_of_lt_of_le (Heap.lt_size (I.kIn b o q)) hb) (Nat.lt_irrefl _)
  have itr0 : d.itr s.heap.objs.size 0 (eP2 s.heap d td c) td := by
    cases d with
    | l a => exact ⟨_, g1, rfl, rfl⟩
    | t a => exact ⟨_, g1, rfl, rfl⟩
    | s z => exact ⟨_, g1, rfl, rfl⟩
  have ge : ∀ b ∈ [s.heap.objs.size + 1, s.heap.objs.size], s.heap.objs.size ≤ b := fun b hb => by
    simp only [List.mem_cons, List.not_mem_nil, or_false] at hb
    rcases hb with rfl | rfl
    · exact Nat.le_succ _
    · exact Nat.le_refl _
  refine ⟨s.heap.objs.size + 1, [s.heap.objs.size + 1, s.heap.objs.size], _, _, H, rfl, I2, turn_enum c d td _ _ (Nat.succ_ne_self _) (fun b hb => hK b (ge b hb)), ⟨⟨.none, ?_⟩, itr0⟩, fun b hb => I.fpOk (ge b hb) (I.hok.fresh (ge b hb)), q⟩
  have : c + ((0 : Nat) : Int) = c := by simp
  rw [this]
  exact g2
def iEn (K : PySem.W.Frag) (c : Int) (ta : TA) : TI := fun σ H R => ta σ H fun vs H1 => ∃ (x : V) (d : Sd) (xs : List V), vs = [x] ∧ (∀ u, RelV x u → ∃ tk, u = d.val tk) ∧ d.at K H1 xs ∧ R (Ite K c d) H1
theorem bt_enumerate : bootBuiltins "enumerate" = some (.type "enumerate") := by decide +kernel
theorem pi_enum {elts : List Expr} {k : Nat} {tp : Pos} {a : Expr} {ta : TA} {p : Pos} (hg : L2.Gl X "enumerate") (hm : X.mg "enumerate" = none) (ha : PA X [a] ta) (hs : starEach [a] X.env = (false, eval a X.env) :: starEach [] X.env) :
    L2.PI X (.Tuple elts k tp) (.Call (.Name "enumerate" p) [a] [] pos) (iEn X.K 0 ta) := by
  intro pins s σ H R I h
  refine PyProof.Rows.Call_ (L2.ld_blt I hg hm bt_enumerate (PyProof.Rows.callWith_type1 (L2.thn (ha pos pins s σ H _ I h) fun us s1 ⟨vs, H1, I1, r1, q1⟩ => ?_) hs (by rfl)))
  obtain ⟨x, d, xs, rfl, hx, ax, q⟩ := q1
  obtain ⟨u1, rfl, ru1⟩ := L2.vals1 r1
  obtain ⟨td, rfl⟩ := hx u1 ru1
  refine callType_new PySem.F.called_enumerate (by decide) (PySem.F.typeCall_enumerate_1 _) (PySem.F.newCall_enumerate_1 _) (fun obj => PySem.F.args_object_init_2 obj _) PySem.F.entry_enumerate_new (enum_new_any d td) ⟨Sd.at_is I1 ax, ?_⟩
  exact ⟨⟨_, Heap.get?_push_size _ rfl, rfl⟩, enum_it I1 ax q⟩
/-- its data -/
def enumC : Int → List D → List D
  | _, [] => []
  | k, x :: xs => .tup [.int k, x] :: enumC (k + 1) xs
theorem enumC_len : ∀ (k : Int) (xs : List D), (enumC k xs).length = xs.length
  | _, [] => rfl
  | k, x :: xs => by unfold enumC; simp [enumC_len (k + 1) xs]
theorem enumC_get : ∀ {k : Int} {xs : List D} {i : Nat} {d : D}, (enumC k xs)[i]? = some d → ∃ x, d = .tup [.int (k + (i : Int)), x] ∧ xs[i]? = some x
  | _, [], _, _, h => by simp [enumC] at h
  | k, x :: xs, 0, d, h => by
    unfold enumC at h
    simp at h
    exact ⟨x, by rw [← h]; simp, rfl⟩
  | k, x :: xs, i + 1, d, h => by
    unfold enumC at h
    have h : (enumC (k + 1) xs)[i]? = some d := by simpa using h
    obtain ⟨a, h1, h2⟩ := enumC_get h
    refine ⟨a, ?_, by simpa using h2⟩
    rw [h1]
    congr 2
    congr 1
    omega
@[simp] def iEnumC (c : Int) (a : Ex) : Itr := fun ρ => (a ρ).bind fun x => (items x).bind fun xs => .ok (enumC c xs)
theorem gives_enum {c : Int} {q : Sd} {xs : List V} {ds : List D} (h1 : ∀ H' F', Mv F H F' H' → q.at M.K H' xs) (rs : Reps M H F ds xs) : Gives M (Ite M.K c q) H F (enumC c ds) := by
  intro H' F' mv tr
  have a1 := h1 H' F' mv
  have rs' := rs.mv mv
  refine ⟨fun i d hd => ?_, ?_⟩
  · obtain ⟨x, rfl, hx⟩ := enumC_get hd
    obtain ⟨vx, ex, rx⟩ := rs'.get hx
    refine ⟨⟨xs, a1, (List.getElem?_eq_some_iff.mp ex).1⟩, fun v H2 hv => ?_⟩
    obtain ⟨t, wx, rfl, ht, g1, rfl⟩ := hv
    have q1 := g1 xs a1
    rw [ex] at q1
    cases q1
    exact ⟨Same.upd_new ht _, rep_tup_new tr ht (Reps.cons rep_int_mk (Reps.cons rx Reps.nil))⟩
  · exact ⟨xs, a1, by rw [enumC_len, rs.length]⟩
theorem ji_enum {elts : List Expr} {k : Nat} {tp : Pos} {a : Expr} {fa : Ex} {p : Pos} (hg : L2.Gl X "enumerate") (hm : X.mg "enumerate" = none) (ha : JE X a fa) (hs : starEach [a] X.env = (false, eval a X.env) :: starEach [] X.env) :
    JI X (.Tuple elts k tp) (.Call (.Name "enumerate" p) [a] [] pos) (iEnumC 0 fa) :=
  PI_imp (pi_enum hg hm (ja_cons ha ja_nil hs) hs) fun σ H Q ⟨ρ, F, ds, r, e, q⟩ => by
    obtain ⟨d1, ed1, e⟩ := bind_ok_iff.mp e
    obtain ⟨xs, exs, e⟩ := bind_ok_iff.mp e
    cases e
    refine ⟨ρ, F, [d1], r, by show (fa ρ).bind _ = _; rw [ed1]; rfl, fun vs H1 s1 rv => ?_⟩
    obtain ⟨x, rfl, rx⟩ := rv.one
    obtain ⟨sd1, vx, u1, rr1, at1⟩ := sd_of exs rx
    exact ⟨x, sd1, vx, rfl, u1, at1 H1 F Mv.refl, q _ H1 s1 (gives_enum (M := mdOf X) at1 rr1)⟩
end
end PL
set_option Elab.async false
set_option linter.all false
set_option maxRecDepth 100000
set_option maxHeartbeats 1000000
namespace PL
open PySem PySem.Spec
open L2 (V Hp HO Cx PE PT PW PA PS PSs PG PGs VK TE TT TA TS TI TG Inv RelV Vals Rd SqL SqT upd Same Key XK Ends OpR UnR CallR R2 EP It Turn FpOk Un)
/-! ### a type called with a keyword -/
section
variable {prog : Program} {w : World} {A : Around} {E : Value → Shared → Prop} {s : Shared}
end
section
variable {X : Cx} {M : Md} {G H H' : Hp} {F0 F F' : Addr → Prop} {σ : L2.St} {ρ : En} {pos : Pos} {pins : List (Addr × Obj)} {s : Shared}
/-! ### tuple * number -/
def rRepT (M : Md) : R2 := fun x y H Q => ∃ l k xs, x = .ref l ∧ y = .int k ∧ SqT M.K H l xs ∧ 1 < k ∧ k < 1000 ∧ xs.length ≤ 1000 ∧ xs ≠ [] ∧ ∀ p, H p = none → Q (.ref p) (upd H p (.tup (List.replicate k.toNat xs).flatten))
end
end PL
set_option Elab.async false
set_option linter.all false
set_option maxRecDepth 100000
set_option maxHeartbeats 1000000
namespace PL
open PySem PySem.Spec PySem.W
open L2 (V Hp HO Cx PE PT PW PA PS PSs PG PGs VK TE TT TA TS TI TG Inv RelV Vals Rd SqL SqT upd Same Key XK Ends OpR UnR CallR R2 EP It Turn FpOk Un HOk ObjOk frs)
/-! ### how an exception lies behind a call -/
/-- B: a part of the heap that stays as it is, with all that is tracked and all that was there, the frames aside -/
def CXR (P : Program) (w : World) (C : Addr) : L2.CXT := fun outer H s _ e s' =>
  ∃ (a t : Addr) (B : Heap) (H' : Hp), e = .ref a ∧ s'.os = s.os ∧ PyProof.Rows.AllBare s'.gens ∧ Un (frs outer) [] H H' s.heap s'.heap ∧ HOk P w H' s'.heap ∧ Same H H' ∧ H' a = none ∧ s.heap.get? a = none ∧
    Heap.FlyingW B outer a (.ref C) (.ref t) s'.heap ∧ ∀ b o, s'.heap.get? b = some o → (H' b ≠ none ∨ ((∃ o', s.heap.get? b = some o') ∧ b ∉ frs outer)) → B.get? b = some o
theorem objok_some {P : Program} {w : World} {H : Hp} {h : Heap} {a : Addr} {o : HO} (x : ObjOk P w H h a o) : ∃ ob, h.get? a = some ob := by
  cases o with
  | lst xs => obtain ⟨_, _, _, _, e⟩ := x; exact ⟨_, e⟩
  | tup xs => obtain ⟨_, _, _, ob, e, _⟩ := x; exact ⟨_, e⟩
  | dK kvs => obtain ⟨_, _, _, _, o, _, _, e, _⟩ := x; exact ⟨_, e⟩
  | dT kvs => obtain ⟨_, _, _, _, o, _, _, e, _⟩ := x; exact ⟨_, e⟩
  | set S n => obtain ⟨o, _, _, _, e, _⟩ := x; exact ⟨_, e⟩
  | ins C dx fs => obtain ⟨_, _, _, e, _⟩ := x; exact ⟨_, e⟩
  | own y => obtain ⟨_, e⟩ := x; exact ⟨_, e⟩
  | xd fs => obtain ⟨_, ⟨_, _, _, e, _⟩, _⟩ := x; exact ⟨_, e⟩
  | rng lo hi => obtain ⟨_, _, _, e⟩ := x; exact ⟨_, e⟩
  | frz ob u => obtain ⟨e, _⟩ := x; exact ⟨_, e⟩
  | tbl ps => exact ⟨_, show h.get? a = some _ from x⟩
  | met f y => exact ⟨_, show h.get? a = some _ from x⟩
  | ext φ => obtain ⟨_, ⟨_, e⟩, _⟩ := x; exact ⟨_, e⟩
/-- what is tracked is kept -/
theorem hok_stay {P : Program} {w : World} {H : Hp} {h h' : Heap} (x : HOk P w H h) (k : ∀ b o, H b ≠ none → h.get? b = some o → h'.get? b = some o) : HOk P w H h' := fun a o e =>
  (x a o e).stay (fun b u hb q => k b u (by rcases hb with rfl | hb <;> simp_all) q) (fun _ q => q) fun _ _ q => q
section
variable {P : Program} {w : World} {K : PySem.W.Frag} {mg : Str → Option Value} {base : Heap} {N : List Str} {qual : Str} {scope : Scope} {f : Addr} {cdv : Value} {A : Around} {outer : List Env} {s : Shared} {H : Hp} {E : XK}

/-- the mirror of a def that raises at once: C where the test holds -/
def rz (n : Nat) (c : Str) (t : Tst) : List D → R D := fun ds => match t (ds.map Slot.sh ++ List.replicate (n - ds.length) .un) with
  | .ok true => .exc (.exn c [] [])
  | _ => .bad
def spR (M : Md) (m : List D → R D) (n : Nat) (c : Str) : L2.Sp := fun vs H _ _ => ∃ F ds, (∀ p, F p → ∃ o, H p = some o) ∧ Reps M H F ds vs ∧ ds.length = n ∧ m ds = .exc (.exn c [] [])
/-- what is asked of the module's own exception c, at C -/
structure ExC (K : PySem.W.Frag) (c : Str) (C : Addr) : Prop extends ExK K C where
  name : nsIn K mainGlobals c = some (some (.ref C))
  exc : excIn K C [.type "ValueError", .type "Exception", .type "BaseException", .type "object"] "ValueError.__new__" = true
end
end PL
set_option Elab.async false
set_option linter.all false
set_option maxRecDepth 100000
set_option maxHeartbeats 1000000
namespace PL
open PySem PySem.Spec PySem.W
open L2 (V Hp HO Cx PE PT PW PA PS PSs PG PGs VK TE TT TA TS TI TG Inv RelV Vals Rd SqL SqT upd Same Key XK Ends OpR UnR CallR R2 EP It Turn FpOk Un HOk ObjOk frs)
/-- a def that raises c at once, where its mirror says so -/
structure Rf (P : Program) (w : World) (K : PySem.W.Frag) (mg : Str → Option Value) (base : Heap) (x : Str) (k n : Nat) (c : Str) (m : List D → R D) : Prop where
  ex : ∃ f fd ps C, L2.FnOk P w K mg base (CXR P w C) k f fd ps (spR ⟨K, P, w⟩ m n c) ∧ L2.Binds K fd ps [] ∧ PySem.W.keepIn K (.ref f) = true ∧ mg x = some (.ref f) ∧ ExC K c C
section
variable {M : Model} {A : Around} {E : Value → Shared → Prop} {K : PySem.W.Frag} {h : Heap} {g : Array GenState} {d : Drawn} {t : Nat} {os : OsState} {e C U : Addr} {oe : Obj}
/-- the exception of the class at C is caught by the class at U -/
structure Cat (K : PySem.W.Frag) (C U : Addr) : Prop where
  tyU : typeIn K (.ref U) = some (.type "type")
  bU : mroIn K U (.type "BaseException") = some true
  sub : mroIn K C (.ref U) = some true
end
section
variable {X : Cx} {pins : List (Addr × Obj)} {σ : L2.St} {H : Hp} {s : Shared}
end
end PL
set_option Elab.async false
set_option linter.all false
set_option maxRecDepth 100000
set_option maxHeartbeats 1000000
namespace PL
open PySem PySem.Spec PySem.W
open L2 (V Hp HO Cx PE PT PW PA PS PSs PG PGs VK TE TT TA TS TI TG Inv RelV Vals Rd SqL SqT upd Same Key XK Ends OpR UnR CallR R2 EP It Turn FpOk Un HOk ObjOk frs)
/-- an exception in flight, over B -/
structure Fly (P : Program) (w : World) (C : Addr) (l : List Env) (H1 H' : Hp) (h1 : Heap) (a t : Addr) (B : Heap) (h : Heap) : Prop where
  un : Un (frs l) [] H1 H' h1 h
  hok : HOk P w H' h
  fl : Heap.FlyingW B l a (.ref C) (.ref t) h
  cov : ∀ b o, h.get? b = some o → (H' b ≠ none ∨ ((∃ o', h1.get? b = some o') ∧ b ∉ frs l)) → B.get? b = some o
section
variable {P : Program} {w : World} {C : Addr} {l : List Env} {H1 H' : Hp} {h1 h h5 : Heap} {a t : Addr} {B : Heap}
theorem Fly.step (x : Fly P w C l H1 H' h1 a t B h) (st : B.StaysIn h5) (sm : h.UpToSlots h5) : Un (frs l) [] H1 H' h1 h5 ∧ HOk P w H' h5 ∧ ∀ b o, h5.get? b = some o → (H' b ≠ none ∨ ((∃ o', h1.get? b = some o') ∧ b ∉ frs l)) → B.get? b = some o := by
  have sl : ∀ b o, h.get? b = some o → b ∈ frs l → ∃ sl, h5.get? b = some { o with slots := sl } := fun b o e hb => by
    obtain ⟨_, o', ho', hnf⟩ := x.fl.2.2.1.mem hb
    rw [e] at ho'; cases ho'
    exact sm b o e hnf
  refine ⟨⟨fun b o e n hb hx' => st _ _ (x.cov b o (x.un.keep b o e n hb hx') (.inr ⟨⟨o, e⟩, hb⟩)), fun b o e n hb hx' => ?_, x.un.free, fun b o e hx' => ?_, x.un.tups, x.un.frzs, x.un.tbls⟩, hok_stay x.hok fun b o hb q => st _ _ (x.cov b o q (.inl hb)), fun b o eo hc => ?_⟩
  · obtain ⟨s2, e2⟩ := x.un.slot b o e n hb hx'
    obtain ⟨s3, e3⟩ := sl b _ e2 hb
    exact ⟨s3, e3⟩
  · obtain ⟨o', e'⟩ := x.un.there b o e hx'
    by_cases hb : b ∈ frs l
    · obtain ⟨s3, e3⟩ := sl b _ e' hb
      exact ⟨_, e3⟩
    · exact ⟨o', st _ _ (x.cov b o' e' (.inr ⟨⟨o, e⟩, hb⟩))⟩
  · rcases hc with hb | ⟨⟨o', e'⟩, hb⟩
    · cases q : H' b with
      | none => exact absurd q hb
      | some u =>
        obtain ⟨ob, z⟩ := objok_some (x.hok _ _ q)
        have z2 := x.cov b ob z (.inl hb)
        have z3 := st _ _ z2
        rw [z3] at eo; cases eo
        exact z2
    · obtain ⟨o2, e2⟩ := x.un.there b o' e' (by intro z; cases z)
      have z2 := x.cov b o2 e2 (.inr ⟨⟨o', e'⟩, hb⟩)
      have z3 := st _ _ z2
      rw [z3] at eo; cases eo
      exact z2
theorem Fly.on (x : Fly P w C l H1 H' h1 a t B h) (f5 : Heap.FlyingW B l a (.ref C) (.ref t) h5) (sm : h.UpToSlots h5) : Fly P w C l H1 H' h1 a t B h5 :=
  let ⟨u, k, c⟩ := x.step f5.1 sm
  ⟨u, k, f5, c⟩
end
/-- the context of an except suite -/
abbrev Xm (X : Cx) (a : Addr) : Cx := { X with A := X.A.mark (some (.ref a)), calm := false }
section
variable {X : Cx} {pins : List (Addr × Obj)} {σ : L2.St} {H : Hp} {s : Shared} {a : Addr}
theorem Inv.mark (I : Inv X pins σ H s) : Inv (Xm X a) pins σ H s :=
  ⟨⟨I.ok.mod, I.ok.kind, I.ok.glob, I.ok.blt, I.ok.above, I.ok.inj, I.ok.has, I.ok.cab, fun h => Bool.noConfusion h, I.ok.frames, I.ok.stk, I.ok.exf, I.ok.bs, I.ok.bsz, I.ok.noex, I.ok.exfs, I.ok.funs, I.ok.frf⟩, I.os, I.bare, I.base, I.loc, I.cell, I.free, I.freeC, I.pin, I.hok, I.len⟩
end
/-! ### try / except -/
def Fl.clr (i : Nat) : Fl → Fl
  | .next ρ => .next (ρ.set i .un)
  | .brk ρ => .brk (ρ.set i .un)
  | .cont ρ => .cont (ρ.set i .un)
  | .ret d => .ret d
  | .retN d => .retN d
def eRaise (m : List D → R D) (fs : List Ex) : En → R D := fun ρ => match eList fs ρ with
  | .ok ds => m ds
  | _ => .bad
/-- try: a call that raises; the suite runs with the exception at the name i -/
def sTry (r : En → R D) (i : Nat) (f : Sm) : Sm := fun ρ => match r ρ with
  | .exc x => (f (ρ.set i (.sh x))).bind fun fl => .ok (fl.clr i)
  | _ => .bad
section
variable {X : Cx}
end
end PL
set_option Elab.async false
set_option linter.all false
set_option maxRecDepth 100000
set_option maxHeartbeats 1000000
namespace PL
open PySem PySem.Spec PySem.W
open L2 (V Hp HO Cx PE PT PW PA PS PSs PG PGs VK TE TT TA TS TI TG Inv RelV Vals Rd SqL SqT upd Same Key XK Ends OpR UnR CallR R2 EP It Turn FpOk Un HOk ObjOk frs)
/-- isinstance of an exception of the class c -/
@[simp] def oIsX (c : Str) (b : Bool) : D → R D
  | .exn c' [] _ => if c' = c then .ok (.bl b) else .bad
  | _ => .bad
section
variable {X : Cx} {pos : Pos}
/-- names of classes of the module's -/
abbrev PCl (X : Cx) (es : List Expr) (vs : List Addr) : Prop := PA X es (fun _ H Q => Q (vs.map V.ref) H)
end
end PL
set_option Elab.async false
set_option linter.all false
set_option maxRecDepth 100000
set_option maxHeartbeats 1000000
namespace PL
open PySem PySem.Spec
open L2 (V Hp HO Cx PE PT PW PA PS PSs PG PGs VK TE TT TA TS TI TG Inv RelV Vals Rd SqL SqT upd Same Key XK Ends OpR UnR CallR R2 EP It Turn FpOk Un cutV)
/-! ### a tuple that was cut out of another: its object is known to be plain -/
/-- D.exn "" ["t"] xs: the tuple xs, plain -/
abbrev dT (xs : List D) : D := .exn ⟨#[]⟩ [⟨#[116]⟩] xs
@[simp] def oMkT : D → R D
  | .tup xs => .ok (dT xs)
  | _ => .bad
@[simp] def oTupX : D → R D
  | .exn _ (_ :: _) xs => .ok (.tup xs)
  | _ => .bad
@[simp] def oCountX : D → D → R D
  | .exn _ (_ :: _) xs, .int k => match intsOf xs with
    | some ns => .ok (.int (ns.count k : Nat))
    | none => .bad
  | _, _ => .bad
@[simp] def eSlX (a : Ex) (lo hi : Option Ex) : Ex := e1 oMkT (eSl a lo hi)
section
variable {X : Cx} {M : Md} {G H H' : Hp} {F0 F F' : Addr → Prop} {σ : L2.St} {ρ : En} {pos : Pos} {pins : List (Addr × Obj)} {s : Shared}
def rSlX (K : PySem.W.Frag) : rSl := fun x lo hi H Q => ∃ a xs, x = .ref a ∧ SqT K H a xs ∧
  ¬ (HT.sIx xs.length 0 lo = 0 ∧ HT.sIx xs.length xs.length hi = xs.length) ∧ ∀ p o, H p = none → o.dict = none → Q (.ref p) (upd H p (.frz o (.tup (cutV xs lo hi))))
end
end PL
set_option Elab.async false
set_option linter.all false
set_option maxRecDepth 100000
set_option maxHeartbeats 1000000
namespace PL
open PySem PySem.Spec
open L2 (V Hp HO Cx PE PT PW PA PS PSs PG PGs VK TE TT TA TS TI TG Inv RelV Vals Rd SqL SqT upd Same Key XK Ends OpR UnR CallR R2 EP It Turn FpOk Un cutV)
/-! ### () + t is t -/
def oAddE : D → D → R D
  | .tup [], .tup y => .ok (.tup y)
  | a, b => oAdd a b
section
variable {X : Cx} {M : Md}
def rCatT0 (K : PySem.W.Frag) : R2 := fun x y H Q => ∃ a b ys, x = .ref a ∧ y = .ref b ∧ SqT K H a [] ∧ SqT K H b ys ∧ Q (.ref b) H
theorem op_catT0 : OpR X (binaryOp .Add) (rCatT0 X.K) := by
  intro pins s σ H x y v u Q I rx ry h
  obtain ⟨a, b, ys, rfl, rfl, ha, hb, q⟩ := h
  cases rx
  cases ry
  obtain ⟨its, r1, p1, _⟩ := I.tuple ha
  obtain ⟨its2, r2, p2, _⟩ := I.tuple hb
  cases r1
  obtain ⟨⟨cls, dd, data, sl⟩, ho, hc, n, hd⟩ := id p1
  obtain ⟨⟨cls2, dd2, data2, sl2⟩, ho2, hc2, n2, hd2⟩ := id p2
  simp only at hc hd hc2 hd2
  subst hc hd hc2 hd2
  exact concat_meets ⟨_, ho, rfl⟩ ⟨_, ho2, rfl⟩ noFill_tuple_add seq_tuple_add PySem.F.slot_tuple_add PySem.F.entry_tuple_add (PySem.F.args_tuple_add_2 _ _)
    (PyProof.Rows.tuple_addW0 a b _ _ n n2 dd dd2 sl sl2 rfl) ⟨ho, ho2, ⟨.ref b, H, I, rfl, q⟩⟩
def rAddE (M : Md) : R2 := fun x y H Q => rAdd M x y H Q ∨ rCatT0 M.K x y H Q
theorem op_addE : OpR X (binaryOp .Add) (rAddE (mdOf X)) := L2.OpR.or op_add op_catT0
theorem l_addE : OpL M oAddE (rAddE M) := by
  intro F H x y a b d Q tr rx ry e q
  unfold oAddE at e
  split at e
  · cases e
    simp only [Rep] at rx
    obtain ⟨p, xs, rfl, h1, r1⟩ := rx
    have ry' := ry
    simp only [Rep] at ry
    obtain ⟨p2, ys, rfl, h2, r2⟩ := ry
    simp only [Reps] at r1
    subst r1
    exact .inr ⟨p, p2, ys, rfl, rfl, h1.sq, h2.sq, q _ _ (Same.refl _) ry'⟩
  · exact .inl (l_add F H x y _ _ d Q tr rx ry e q)
end
end PL
set_option Elab.async false
set_option linter.all false
set_option maxRecDepth 100000
set_option maxHeartbeats 1000000
namespace PL
open PySem PySem.Spec
open L2 (V Hp HO Cx PE PT PW PA PS PSs PG PGs VK TE TT TA TS TI TG Inv RelV Vals Rd SqL SqT upd Same Key XK Ends OpR UnR CallR R2 EP It Turn FpOk Un)
/-! ### reversed(list) -/
/-- the list at a of n things, from its end -/
def Itv (K : PySem.W.Frag) (a : Addr) (n : Nat) : It :=
  ⟨fun i H => ∃ xs x, SqL K H a xs ∧ xs.length = n ∧ i < n ∧ xs[n - 1 - i]? = some x, fun i H x H' => H' = H ∧ ∀ xs, SqL K H a xs → xs[n - 1 - i]? = some x, fun i _ => i = n⟩
theorem turn_rev {P : Program} {w : World} {K : PySem.W.Frag} {tg : Expr} (a it : Addr) (n : Nat) : Turn P w K tg (Itv K a n) [it] it (fun i h => h.IsRevIter it a ((n : Int) - 1 - (i : Int))) where
  mem := by simp
  obj := fun i h st b hb => by
    have e : b = it := by simpa using hb
    subst e
    obtain ⟨o, e, c, d⟩ := st
    exact ⟨o, e, fun v z => by rw [d] at z; cases z⟩
  keep := fun i h h' st k => st.at fun o e => k it (by simp) o e
  item := by
    intro X hP hw hK hc i pins s σ H E I hf st hg
    subst hP hw hK
    obtain ⟨xs, x, hq, hn, hi, hx⟩ := hg
    obtain ⟨its, rv, p, hz⟩ := I.list hq
    obtain ⟨u, hu, ru⟩ := rv.get hx
    obtain ⟨f0, f1, f2, f3, f4, f5⟩ := hf it (by simp)
    have e1 : (n : Int) - 1 - (i : Int) = ((n - 1 - i : Nat) : Int) := by omega
    rw [e1] at st
    refine wpAny_pyNext_rev_item st p.isList (x := u) (by simpa using hu) fun h' st' sb => ?_
    have I1 : Inv X pins σ H { s with heap := h' } := I.turned (t' := s.toks) (fun b o hb e => (sb.2 b hb).trans e) f0 f1 f3 f4 f5
    obtain ⟨o, e, c, d⟩ := id st'
    have e2 : ((n - 1 - i : Nat) : Int) - 1 = (n : Int) - 1 - ((i + 1 : Nat) : Int) := by omega
    rw [e2] at st'
    exact ⟨u, rfl, L2.go_of (s := { s with heap := h' }) e c d (by decide) ⟨x, H, I1, ru, ⟨rfl, fun ys hy => by rw [I.list_inj hy hq]; exact hx⟩, st', fun b hb => (hf b hb).1⟩⟩
  done := by
    intro X hP hw hK hc i pins s σ H E I hf st hg
    subst hP hw hK
    have hg : i = n := hg
    obtain ⟨f0, f1, f2, f3, f4, f5⟩ := hf it (by simp)
    have e1 : (n : Int) - 1 - (i : Int) = -1 := by omega
    rw [e1] at st
    exact wpAny_pyNext_rev_end (I.ok.hd hc) st fun h' eb => ⟨rfl, I.turned (t' := s.toks) (fun b o hb e => eb b o hb e) f0 f1 f3 f4 f5⟩
  self := fun _ _ _ _ _ st h => wpAny_pyIter_revIter st h
section
variable {X : Cx} {M : Md} {G H H' : Hp} {F0 F F' : Addr → Prop} {σ : L2.St} {ρ : En} {pos : Pos} {pins : List (Addr × Obj)} {s : Shared}
def iRv (K : PySem.W.Frag) (ta : TA) : TI := fun σ H R => ta σ H fun vs H1 => ∃ a xs, vs = [.ref a] ∧ SqL K H1 a xs ∧ R (Itv K a xs.length) H1
theorem bt_reversed : bootBuiltins "reversed" = some (.type "reversed") := by decide +kernel
@[simp] def iRev (a : Ex) : Itr := fun ρ => (a ρ).bind fun x => match x with
  | .lst xs => .ok xs.reverse
  | _ => .bad
theorem gives_rev {a : Addr} {xs : List V} {ds : List D} (h : LsR M H F a xs) (rs : Reps M H F ds xs) : Gives M (Itv M.K a xs.length) H F ds.reverse := by
  intro H' F' mv tr
  have h' := h.mv mv
  have rs' := rs.mv mv
  have hl := rs.length
  refine ⟨fun i d hd => ?_, ?_⟩
  · obtain ⟨hi, _⟩ := List.getElem?_eq_some_iff.mp hd
    rw [List.length_reverse] at hi
    rw [List.getElem?_reverse hi] at hd
    rw [hl] at hd hi
    obtain ⟨x, hx, rx⟩ := rs'.get hd
    refine ⟨⟨xs, x, h'.sq, rfl, hi, hx⟩, fun y H2 hy => ?_⟩
    obtain ⟨rfl, hy⟩ := hy
    have := hy xs h'.sq
    rw [hx] at this
    cases this
    exact ⟨Same.refl _, rx⟩
  · show _ = _
    rw [List.length_reverse, hl]
end
end PL
set_option Elab.async false
set_option linter.all false
set_option maxRecDepth 100000
set_option maxHeartbeats 2000000
namespace PL
open PySem PySem.Spec PySem.W
/-! ### reversed(tuple) -/
theorem lk_tuple_rev : typeLookup (.type "tuple") "__reversed__" = pure none := by rw [typeLookup_type, builtinLookup_eq_fast]; kernel_rfl
theorem sub_tuple_dict : isSubtype (.type "tuple") (.type "dict") = pure false := by rw [isSubtype_type]; kernel_rfl
theorem owner_rev : Manifest.owners.lookup (String.ofList ['d', 'e', 's', 'r', 'e', 'v', 'e', 'r'].reverse) = some Manifest.sig_reversed := by kernel_rfl
theorem slot_rev_next : PySem.Slot "reversed" "__next__" "reversed.__next__" :=
  .of (owner := "reversed") (n := "__next__") (by rw [typeLookup_type, builtinLookup_eq_fast]; kernel_rfl) (by decide +kernel) (by decide +kernel) (by decide +kernel)
    (by first | exact .inl (by decide +kernel) | exact .inr (by decide +kernel)) (by rw [isSubtype_type]; kernel_rfl)
theorem entry_rev_next : entryFor table "reversed.__next__" = some Builtin.«reversed.__next__» := entryFor_of_tree (by kernel_rfl)
theorem args_rev_next_1 (a : Value) : argsOk "reversed.__next__" ⟨[a], []⟩ := by
  unfold argsOk; rw [signature?_of (id := "reversed.__next__") (n := ['_', '_', 't', 'x', 'e', 'n', '_', '_']) (o := ['d', 'e', 's', 'r', 'e', 'v', 'e', 'r']) (by kernel_rfl) owner_rev]; kernel_rfl
theorem slot_rev_iter : PySem.Slot "reversed" "__iter__" "reversed.__iter__" :=
  .of (owner := "reversed") (n := "__iter__") (by rw [typeLookup_type, builtinLookup_eq_fast]; kernel_rfl) (by decide +kernel) (by decide +kernel) (by decide +kernel)
    (by first | exact .inl (by decide +kernel) | exact .inr (by decide +kernel)) (by rw [isSubtype_type]; kernel_rfl)
theorem args_rev_iter_1 (a : Value) : argsOk "reversed.__iter__" ⟨[a], []⟩ := by
  unfold argsOk; rw [signature?_of (id := "reversed.__iter__") (n := ['_', '_', 'r', 'e', 't', 'i', '_', '_']) (o := ['d', 'e', 's', 'r', 'e', 'v', 'e', 'r']) (by kernel_rfl) owner_rev]; kernel_rfl
theorem entry_rev_iter : entryFor table "reversed.__iter__" = some Builtin.«dict_keyiterator.__iter__» :=
  entryFor_alias (id' := "dict_keyiterator.__iter__") (by kernel_rfl) (by first | rfl | decide +kernel | (unfold String.splitOn; simp +decide [String.splitOnAux])) (by decide +kernel) (by kernel_rfl)
section
variable {prog : Program} {w : World} {A : Around} {E : Value → Shared → Prop} {s : Shared}
def rvObj (l : Addr) (i : Int) : Obj := { cls := .type "reversed", data := .fields #[.ref l, rawInt i] }
def IsRv (h : Heap) (a l : Addr) (i : Int) : Prop := ∃ o, h.get? a = some o ∧ o.cls = .type "reversed" ∧ o.data = .fields #[.ref l, rawInt i]
theorem IsRv.typeIs {a l : Addr} {i : Int} (x : IsRv s.heap a l i) : s.TypeIs (.ref a) "reversed" := let ⟨o, ho, hc, _⟩ := x; ⟨o, ho, hc⟩
theorem IsRv.at {h h' : Heap} {a l : Addr} {i : Int} (x : IsRv h a l i) (e : ∀ o, h.get? a = some o → h'.get? a = some o) : IsRv h' a l i := let ⟨o, ho, r⟩ := x; ⟨o, e _ ho, r⟩
theorem rev_newT (l : Addr) (items : Array Value) (hz : items.size ≤ sizeLine) :
    Meets (Builtin.«reversed.__new__» ⟨[.type "reversed", .ref l], []⟩) (fun _ R s => PyProof.Rows.IsTup s.heap l items ∧ R (.ok (.ret (Value.ref s.heap.objs.size))) { s with heap := s.heap.push (rvObj l ((items.size : Int) - 1)), toks := s.toks + 1 + 1 }) :=
  .of_wp fun prog w A R s h => by
    obtain ⟨hl, h⟩ := h
    have hT : s.TypeIs (.ref l) "tuple" := hl.typeIs
    have f1 := lk_tuple_rev
    have f2 := sub_tuple_dict
    have f3 := PyProof.Rows.slot_tuple_getitem.lookup
    unfold Builtin.«reversed.__new__»
    refine wpAny_bind (wpAny_of_eq (newClass_reversed _) ?_)
    try dsimp only
    refine wpAny_bind (wpAny_of_eq (a := ()) (by first | rfl | kernel_rfl) ?_)
    refine wpAny_bind (wpAny_of_eq (a := ()) (by first | rfl | kernel_rfl) ?_)
    try dsimp only
    refine wpAny_bind (wpAny_specialOf hT f1 ?_)
    try dsimp only
    refine wpAny_bind ?_
    k_delta "hasItemSlot"
    have hfit : (items.size : Int) < 2 ^ 63 := by
      have h1 : items.size ≤ 16777216 := hz
      show (items.size : Int) < 9223372036854775808
      omega
    repeat (any_goals (first | assumption | (with_reducible refine PyProof.Rows.len_tuple hl hfit ?_) | wp_step))
    exact ⟨_, rfl, h⟩
theorem called_rev : TypeCalled "reversed" "reversed.__new__" "object.__init__" where
  notType := by decide +kernel
  canCreate := PySem.F.create_reversed
  mro := ⟨_, _, PySem.F.mro_reversed⟩
  made := PySem.F.made_reversed
  plain := PySem.F.plain_reversed_new
  sub := PySem.F.sub_reversed_self
  init := .of (owner := "object") (n := "__init__") (by rw [typeLookup_type, builtinLookup_eq_fast]; kernel_rfl) (by decide +kernel) (by decide +kernel) (by decide +kernel)
    (by first | exact .inl (by decide +kernel) | exact .inr (by decide +kernel)) (by rw [isSubtype_type]; kernel_rfl)
theorem call_revT {l : Addr} {items : Array Value} {Q : Value → Shared → Prop} (hl : PyProof.Rows.IsTup s.heap l items) (hz : items.size ≤ sizeLine)
    (h : Q (.ref s.heap.objs.size) { s with heap := s.heap.push (rvObj l ((items.size : Int) - 1)), toks := s.toks + 1 + 1 }) : wpAny (model prog w) A (call (.type "reversed") [.ref l]) Q E s :=
  callType_new called_rev (by decide) (PySem.F.typeCall_reversed_1 _) (PySem.F.newCall_reversed_1 _) (fun obj => PySem.F.args_object_init_2 obj _) PySem.F.entry_reversed_new (rev_newT l items hz) ⟨hl, ⟨_, Heap.get?_push_size _ rfl, rfl⟩, h⟩
theorem pyIter_rv {it l : Addr} {i : Int} {Q : Value → Shared → Prop} (hit : IsRv s.heap it l i) (h : Q (.ref it) s) : wpAny (model prog w) A (pyIter (.ref it)) Q E s := by
  refine wpAny_pyIter_slot hit.typeIs slot_rev_iter (wpAny_call_entry slot_rev_iter hit.typeIs entry_rev_iter ?_ (args_rev_iter_1 _))
  show wpAny _ _ (ret (.ref it)) _ _ s
  exact wpAny_pure ⟨_, rfl, "reversed", _, hit.typeIs, slot_rev_next.lookup, h⟩
theorem pyNext_rv_item {it l : Addr} {i : Nat} {items : Array Value} {x : Value} {Q : Option Value → Shared → Prop} (hit : IsRv s.heap it l (i : Int)) (hl : PyProof.Rows.IsTup s.heap l items) (hz : items.size ≤ sizeLine) (hx : items[i]? = some x)
    (hQ : ∀ h', IsRv h' it l ((i : Int) - 1) → Heap.SameBut it s.heap h' → Q (some x) { s with heap := h', toks := s.toks + 1 }) : wpAny (model prog w) A (pyNext (.ref it)) Q E s := by
  obtain ⟨o, ho, hc, hd⟩ := id hit
  obtain ⟨hi, _⟩ := Array.getElem?_eq_some_iff.mp hx
  have hi2 : i < 16777216 := Nat.lt_of_lt_of_le hi hz
  unfold pyNext
  refine wpAny_bind (wpAny_attempt (wpAny_callSpecial?_slot (name := Str.ofString "__next__") hit.typeIs slot_rev_next
    (wpAny_call_entry slot_rev_next hit.typeIs entry_rev_next ?_ (args_rev_next_1 _))))
  unfold Builtin.«reversed.__next__»
  refine wpAny_bind (wpAny_of_eq (a := (Value.ref it, [])) rfl ?_)
  try dsimp only
  refine wpAny_bind (wpAny_field ho hd (x := .ref l) rfl ?_)
  refine wpAny_bind (wpAny_field ho hd (x := rawInt (i : Int)) rfl ?_)
  show wpAny _ _ (if (i : Int) < 0 then _ else _) _ _ s
  rw [if_neg (by omega)]
  refine wpAny_bind (wpAny_specialOf hl.typeIs PyProof.Rows.slot_tuple_getitem.lookup ?_)
  rw [if_neg (show ¬ ((some (Value.builtin "tuple.__getitem__")).isNone = true) from Bool.false_ne_true)]
  refine wpAny_bind (wpAny_mkInt ?_)
  have lo : -(2 : Int) ^ 63 ≤ (i : Int) := by show (-9223372036854775808 : Int) ≤ i; omega
  have up : (i : Int) < 2 ^ 63 := by show (i : Int) < 9223372036854775808; omega
  have sx : seqIndex? (i : Int) items.size = some i := by unfold seqIndex?; simp; omega
  refine wpAny_bind (wpAny_attempt (PyProof.Rows.getItem_tuple (s := { s with toks := s.toks + 1 }) (j := i) (x := x) hl lo up sx hx ?_))
  show wpAny _ _ (field (.ref it) 1 >>= _) _ _ { s with toks := s.toks + 1 }
  refine wpAny_bind (wpAny_field (s := { s with toks := s.toks + 1 }) ho hd (x := rawInt (i : Int)) rfl ?_)
  show wpAny _ _ (setField (.ref it) 1 (rawInt ((i : Int) - 1)) >>= _) _ _ { s with toks := s.toks + 1 }
  refine wpAny_bind (wpAny_setField (s := { s with toks := s.toks + 1 }) ho hd (by simp) ?_)
  refine wpAny_pure ⟨x, rfl, wpAny_pure (hQ _ ?_ (Heap.SameBut.update ..))⟩
  exact ⟨_, Heap.get?_update_self _ ho (Obj.isFreed_of_fields (Obj.data_mapFields hd _)), (Obj.cls_mapFields ..).trans hc, by
    rw [Obj.data_mapFields hd]; simp⟩
theorem pyNext_rv_end {it l : Addr} {Q : Option Value → Shared → Prop} (hh : A.handled = none) (hit : IsRv s.heap it l (-1))
    (hQ : ∀ h', Heap.ExtBut it s.heap h' → Q none { s with heap := h' }) : wpAny (model prog w) A (pyNext (.ref it)) Q E s := by
  obtain ⟨o, ho, hc, hd⟩ := id hit
  unfold pyNext
  refine wpAny_bind (wpAny_attempt (wpAny_callSpecial?_slot (name := Str.ofString "__next__") hit.typeIs slot_rev_next
    (wpAny_call_entry slot_rev_next hit.typeIs entry_rev_next ?_ (args_rev_next_1 _))))
  unfold Builtin.«reversed.__next__»
  refine wpAny_bind (wpAny_of_eq (a := (Value.ref it, [])) rfl ?_)
  try dsimp only
  refine wpAny_bind (wpAny_field ho hd (x := .ref l) rfl ?_)
  refine wpAny_bind (wpAny_field ho hd (x := rawInt (-1)) rfl ?_)
  show wpAny _ _ (if (-1 : Int) < 0 then _ else _) _ _ s
  rw [if_pos (by decide)]
  refine wpAny_bind (wpAny_rule ?_)
  refine wpAny_bind ?_
  k_delta "reversedEnd"
  refine wpAny_bind (wpAny_setField ho hd (by simp) ?_)
  have hd1 := Obj.data_mapFields hd (·.setIfInBounds 1 (rawInt (-1)))
  have ho1 := Heap.get?_update_self (Obj.mapFields (·.setIfInBounds 1 (rawInt (-1)))) ho (Obj.isFreed_of_fields hd1)
  have x1 : Heap.ExtBut it s.heap (s.heap.update it (Obj.mapFields (·.setIfInBounds 1 (rawInt (-1))))) := fun b o hb q => (Heap.SameBut.update ..).extBut b o hb q
  generalize s.heap.update it (Obj.mapFields (·.setIfInBounds 1 (rawInt (-1)))) = h1 at ho1 x1
  refine wpAny_setField (s := { s with heap := h1 }) ho1 hd1 (by simp) ?_
  have x2 : Heap.ExtBut it s.heap (h1.update it (Obj.mapFields (·.setIfInBounds 0 Value.none))) := fun b o hb q => (Heap.SameBut.update ..).extBut b o hb (x1 b o hb q)
  generalize h1.update it (Obj.mapFields (·.setIfInBounds 0 Value.none)) = h2 at x2
  show wpAny _ _ (Builtin.SmallTypes.stopIteration >>= _) _ _ _
  refine wpAny_bind ?_
  show wpAny _ _ (newExc (.type "StopIteration") [] >>= _) _ _ _
  refine wpAny_bind ?_
  simp only [newExc, newTuple]
  refine wpAny_bind (wpAny_newObj_type ?_ (by size_fits))
  refine wpAny_bind (m := firstArgMember _ _) (wpAny_of_eq (a := Value.none) (by first | rfl | (simp only [firstArgMember]; rfl)) ?_)
  refine wpAny_newObj_type ?_ (by size_fits)
  simp only [raiseNew]
  refine wpAny_bind (wpAny_handled ?_)
  first | rw [show A.in1.handled = none from hh] | rw [hh]
  refine wpAny_bind (wpAny_pure (wpAny_throw ?_))
  refine wpAny_bind (wpAny_isInstance (T := "StopIteration") (b := true) ⟨_, Heap.get?_push_size _ rfl, rfl⟩ isSubtype_stop ?_)
  exact wpAny_pure (hQ _ ((x2.push _).push _))
end
section
open L2 (V Hp HO Cx PE PT PW PA PS PSs PG PGs VK TE TT TA TS TI TG Inv RelV Vals Rd SqL SqT upd Same Key XK Ends OpR UnR CallR R2 EP It Turn FpOk Un)
/-- the tuple at a of n things, from its end -/
def Itw (K : PySem.W.Frag) (a : Addr) (n : Nat) : It :=
  ⟨fun i H => ∃ xs x, SqT K H a xs ∧ xs.length = n ∧ i < n ∧ xs[n - 1 - i]? = some x, fun i H x H' => H' = H ∧ ∀ xs, SqT K H a xs → xs[n - 1 - i]? = some x, fun i _ => i = n⟩
theorem turn_rvT {P : Program} {w : World} {K : PySem.W.Frag} {tg : Expr} (a it : Addr) (n : Nat) : Turn P w K tg (Itw K a n) [it] it (fun i h => IsRv h it a ((n : Int) - 1 - (i : Int))) where
  mem := by simp
  obj := fun i h st b hb => by
    have e : b = it := by simpa using hb
    subst e
    obtain ⟨o, e, c, d⟩ := st
    exact ⟨o, e, fun v z => by rw [d] at z; cases z⟩
  keep := fun i h h' st k => st.at fun o e => k it (by simp) o e
  item := by
    intro X hP hw hK hc i pins s σ H E I hf st hg
    subst hP hw hK
    obtain ⟨xs, x, hq, hn, hi, hx⟩ := hg
    obtain ⟨its, rv, p, hz⟩ := I.tuple hq
    obtain ⟨u, hu, ru⟩ := rv.get hx
    obtain ⟨f0, f1, f2, f3, f4, f5⟩ := hf it (by simp)
    have e1 : (n : Int) - 1 - (i : Int) = ((n - 1 - i : Nat) : Int) := by omega
    rw [e1] at st
    refine pyNext_rv_item st p (by rw [List.size_toArray, ← rv.length]; exact hz) (x := u) (by simpa using hu) fun h' st' sb => ?_
    have I1 : Inv X pins σ H { s with heap := h', toks := s.toks + 1 } := I.turned (t' := s.toks + 1) (fun b o hb e => (sb.2 b hb).trans e) f0 f1 f3 f4 f5
    obtain ⟨o, e, c, d⟩ := id st'
    have e2 : ((n - 1 - i : Nat) : Int) - 1 = (n : Int) - 1 - ((i + 1 : Nat) : Int) := by omega
    rw [e2] at st'
    exact ⟨u, rfl, L2.go_of (s := { s with heap := h', toks := s.toks + 1 }) e c d (by decide) ⟨x, H, I1, ru, ⟨rfl, fun ys hy => by rw [I.tuple_inj hy hq]; exact hx⟩, st', fun b hb => (hf b hb).1⟩⟩
  done := by
    intro X hP hw hK hc i pins s σ H E I hf st hg
    subst hP hw hK
    have hg : i = n := hg
    obtain ⟨f0, f1, f2, f3, f4, f5⟩ := hf it (by simp)
    have e1 : (n : Int) - 1 - (i : Int) = -1 := by omega
    rw [e1] at st
    exact pyNext_rv_end (I.ok.hd hc) st fun h' eb => ⟨rfl, I.turned (t' := s.toks) (fun b o hb e => eb b o hb e) f0 f1 f3 f4 f5⟩
  self := fun _ _ _ _ _ st h => pyIter_rv st h
variable {X : Cx} {M : Md} {G H H' : Hp} {F0 F F' : Addr → Prop} {σ : L2.St} {ρ : En} {pos : Pos} {pins : List (Addr × Obj)} {s : Shared}
def iRvA (K : PySem.W.Frag) (ta : TA) : TI := fun σ H R => ta σ H fun vs H1 => ∃ a xs, vs = [.ref a] ∧ ((SqL K H1 a xs ∧ R (Itv K a xs.length) H1) ∨ (SqT K H1 a xs ∧ R (Itw K a xs.length) H1))
theorem pi_revA {tg a : Expr} {ta : TA} {p : Pos} (hg : L2.Gl X "reversed") (hm : X.mg "reversed" = none) (ha : PA X [a] ta) (hs : starEach [a] X.env = (false, eval a X.env) :: starEach [] X.env) :
    L2.PI X tg (.Call (.Name "reversed" p) [a] [] pos) (iRvA X.K ta) := by
  intro pins s σ H R I h
  refine PyProof.Rows.Call_ (L2.ld_blt I hg hm bt_reversed (PyProof.Rows.callWith_type1 (L2.thn (ha pos pins s σ H _ I h) fun us s1 ⟨vs, H1, I1, r1, q1⟩ => ?_) hs (by rfl)))
  obtain ⟨b, xs, rfl, q⟩ := q1
  obtain ⟨u1, rfl, ru1⟩ := L2.vals1 r1
  cases (show u1 = Value.ref b from ru1)
  have fp : ∀ c ∈ [s1.heap.objs.size], FpOk X pins H1 c := fun c hc => by
    have e : c = s1.heap.objs.size := by simpa using hc
    subst e
    exact I1.fpOk (Nat.le_refl _) (I1.hok.fresh (Nat.le_refl _))
  rcases q with ⟨hq, q⟩ | ⟨hq, q⟩
  · obtain ⟨its, rv, pl, hz⟩ := I1.list hq
    have hlen : its.toArray.size = xs.length := by rw [List.size_toArray]; exact rv.length.symm
    refine call_reversed_list pl.isList ?_
    rw [hlen]
    have g : (s1.heap.push (revObj b ((xs.length : Int) - 1))).get? s1.heap.objs.size = some (revObj b ((xs.length : Int) - 1)) := Heap.get?_push_size _ rfl
    have st : (s1.heap.push (revObj b ((xs.length : Int) - 1))).IsRevIter s1.heap.objs.size b ((xs.length : Int) - 1 - ((0 : Nat) : Int)) := ⟨_, g, rfl, by show Data.fields _ = _; simp⟩
    refine wpAny_pyIter_revIter (s := { s1 with heap := s1.heap.push (revObj b ((xs.length : Int) - 1)) }) st ?_
    exact ⟨s1.heap.objs.size, [s1.heap.objs.size], _, _, H1, rfl, I1.kept (t' := s1.toks) fun b o e => Heap.get?_push_of_some _ e, turn_rev b _ xs.length, st, fp, q⟩
  · obtain ⟨its, rv, pl, hz⟩ := I1.tuple hq
    have hlen : its.toArray.size = xs.length := by rw [List.size_toArray]; exact rv.length.symm
    refine call_revT pl (by rw [hlen]; exact hz) ?_
    rw [hlen]
    have g : (s1.heap.push (rvObj b ((xs.length : Int) - 1))).get? s1.heap.objs.size = some (rvObj b ((xs.length : Int) - 1)) := Heap.get?_push_size _ rfl
    have st : IsRv (s1.heap.push (rvObj b ((xs.length : Int) - 1))) s1.heap.objs.size b ((xs.length : Int) - 1 - ((0 : Nat) : Int)) := ⟨_, g, rfl, by show Data.fields _ = _; simp⟩
    refine pyIter_rv (s := { s1 with heap := s1.heap.push (rvObj b ((xs.length : Int) - 1)), toks := s1.toks + 1 + 1 }) st ?_
    exact ⟨s1.heap.objs.size, [s1.heap.objs.size], _, _, H1, rfl, I1.kept (t' := s1.toks + 1 + 1) fun b o e => Heap.get?_push_of_some _ e, turn_rvT b _ xs.length, st, fp, q⟩
@[simp] def iRevA (a : Ex) : Itr := fun ρ => (a ρ).bind fun x => match x with
  | .lst xs => .ok xs.reverse
  | .tup xs => .ok xs.reverse
  | _ => .bad
theorem gives_revT {a : Addr} {xs : List V} {ds : List D} (h : TpR M H F a xs) (rs : Reps M H F ds xs) : Gives M (Itw M.K a xs.length) H F ds.reverse := by
  intro H' F' mv tr
  have h' := h.mv mv
  have rs' := rs.mv mv
  have hl := rs.length
  refine ⟨fun i d hd => ?_, ?_⟩
  · obtain ⟨hi, _⟩ := List.getElem?_eq_some_iff.mp hd
    rw [List.length_reverse] at hi
    rw [List.getElem?_reverse hi] at hd
    rw [hl] at hd hi
    obtain ⟨x, hx, rx⟩ := rs'.get hd
    refine ⟨⟨xs, x, h'.sq, rfl, hi, hx⟩, fun y H2 hy => ?_⟩
    obtain ⟨rfl, hy⟩ := hy
    have := hy xs h'.sq
    rw [hx] at this
    cases this
    exact ⟨Same.refl _, rx⟩
  · show _ = _
    rw [List.length_reverse, hl]
theorem ji_revA {tg a : Expr} {fa : Ex} {p : Pos} (hg : L2.Gl X "reversed") (hm : X.mg "reversed" = none) (ha : JE X a fa) (hs : starEach [a] X.env = (false, eval a X.env) :: starEach [] X.env) :
    JI X tg (.Call (.Name "reversed" p) [a] [] pos) (iRevA fa) :=
  PI_imp (pi_revA hg hm (ja_cons ha ja_nil hs) hs) fun σ H Q ⟨ρ, F, ds, r, e, q⟩ => by
    obtain ⟨d1, ed1, e⟩ := bind_ok_iff.mp e
    split at e
    · rename_i ys
      cases e
      refine ⟨ρ, F, [.lst ys], r, by show (fa ρ).bind _ = _; rw [ed1]; rfl, fun vs H1 s1 rv => ?_⟩
      obtain ⟨x, rfl, rx⟩ := rv.one
      simp only [Rep] at rx
      obtain ⟨a, xs, rfl, h, rs⟩ := rx
      exact ⟨a, xs, rfl, .inl ⟨h.sq, q _ H1 s1 (gives_rev (M := mdOf X) h rs)⟩⟩
    · rename_i ys
      cases e
      refine ⟨ρ, F, [.tup ys], r, by show (fa ρ).bind _ = _; rw [ed1]; rfl, fun vs H1 s1 rv => ?_⟩
      obtain ⟨x, rfl, rx⟩ := rv.one
      simp only [Rep] at rx
      obtain ⟨a, xs, rfl, h, rs⟩ := rx
      exact ⟨a, xs, rfl, .inr ⟨h.sq, q _ H1 s1 (gives_revT (M := mdOf X) h rs)⟩⟩
    · cases e
end
end PL
set_option Elab.async false
set_option linter.all false
set_option maxRecDepth 100000
namespace PL
open PySem PySem.Spec
open L2 (V Hp HO Cx PE PT PW PA PS PSs PG PGs VK TE TT TA TS TI TG Inv RelV Vals Rd SqL SqT upd Same Key XK Ends OpR UnR CallR R2 EP)
/-! ### a list of lists of one's own -/
def isOn : Slot → Bool
  | .on _ => true
  | _ => false
def sOwnN (i n : Nat) : Sm := fun ρ => if ρ.any isOn = true then .bad else .ok (.next (ρ.set i (.on (List.replicate n []))))
def sAppendN (i : Nat) (g f : Ex) : Sm := fun ρ => (g ρ).bind fun y => (f ρ).bind fun d => match ρ[i]?, y with
  | some (.on xss), .int k => match ixN xss.length k with
    | some m => if (xss.getD m []).length < szL then .ok (.next (ρ.set i (.on (xss.set m (xss.getD m [] ++ [d]))))) else .bad
    | none => .bad
  | _, _ => .bad
def sFreezeN (i : Nat) : Sm := fun ρ => match ρ[i]? with
  | some (.on xss) => .ok (.next (ρ.set i (.sh (.lst (xss.map .lst)))))
  | _ => .bad
section
variable {X : Cx} {M : Md} {G H H' : Hp} {F0 F F' : Addr → Prop} {σ : L2.St} {ρ : En} {pos : Pos} {DE : Ends}
theorem owned_on {i j : Nat} {xss : List (List D)} (h : Owned (ρ.set i (.on xss)) j) : i ≠ j ∧ Owned ρ j := by
  rcases h with ⟨ds, q⟩ | ⟨ks, ds, q⟩
  · rcases get_set q with ⟨_, x, _⟩ | ⟨hne, q⟩
    · cases x
    · exact ⟨hne, .inl ⟨ds, q⟩⟩
  · rcases get_set q with ⟨_, x, _⟩ | ⟨hne, q⟩
    · cases x
    · exact ⟨hne, .inr ⟨ks, ds, q⟩⟩
/-- new empty lists, one behind the other -/
def NewN (H : Hp) : List Addr → Hp → Prop
  | [], H' => H' = H
  | b :: bs, H' => H b = none ∧ NewN (upd H b (.lst [])) bs H'
theorem NewN.spec : ∀ {bs : List Addr} {H H' : Hp}, NewN H bs H' → Same H H' ∧ bs.Nodup ∧ ∀ b ∈ bs, H b = none ∧ H' b = some (.lst [])
  | [], _, _, h => by
    unfold NewN at h
    subst h
    exact ⟨Same.refl _, .nil, fun b hb => by cases hb⟩
  | b :: bs, H, H', h => by
    unfold NewN at h
    obtain ⟨hb, h⟩ := h
    obtain ⟨s, nd, q⟩ := NewN.spec h
    have s0 : Same H (upd H b (.lst [])) := Same.upd_new hb _
    refine ⟨s0.trans s, List.nodup_cons.mpr ⟨fun hm => ?_, nd⟩, fun c hc => ?_⟩
    · have := (q b hm).1
      rw [L2.upd_same] at this; cases this
    · rcases List.mem_cons.mp hc with rfl | hc
      · exact ⟨hb, s _ _ L2.upd_same⟩
      · obtain ⟨e1, e2⟩ := q c hc
        refine ⟨?_, e2⟩
        by_cases z : c = b
        · subst z; exact hb
        · rw [L2.upd_ne z] at e1; exact e1
theorem Inn.nils : ∀ {bs : List Addr}, (∀ b ∈ bs, F b ∧ H b = some (.lst [])) → Inn M H F bs (List.replicate bs.length [])
  | [], _ => by simp only [Inn, List.length_nil, List.replicate_zero]
  | b :: bs, h => by
    simp only [List.length_cons, List.replicate_succ, Inn]
    exact ⟨(h b List.mem_cons_self).1, ⟨[], (h b List.mem_cons_self).2, Reps.nil⟩, Inn.nils fun c hc => h c (List.mem_cons_of_mem _ hc)⟩
theorem no_on (h : ¬ ρ.any isOn = true) (j : Nat) (xss : List (List D)) : ρ[j]? ≠ some (.on xss) := fun e => by
  apply h
  rw [List.any_eq_true]
  exact ⟨_, List.mem_of_getElem? e, rfl⟩
theorem RepG.newN {i : Nat} {p : Addr} {bs : List Addr} {H1 : Hp} (r : RepG M G F0 H F σ ρ) (hi : i < ρ.length) (hno : ¬ ρ.any isOn = true) (hb : NewN H bs H1) (hp : H1 p = none) :
    Mv F H (fun b => F b ∨ b = p ∨ b ∈ bs) (upd H1 p (.lst (bs.map V.ref))) ∧ RepG M G F0 (upd H1 p (.lst (bs.map V.ref))) (fun b => F b ∨ b = p ∨ b ∈ bs) (σ.set i (some (.ref p))) (ρ.set i (.on (List.replicate bs.length []))) := by
  obtain ⟨s1, nd, hbs⟩ := hb.spec
  have s2 : Same H1 (upd H1 p (.lst (bs.map V.ref))) := Same.upd_new hp _
  have s12 := s1.trans s2
  have pn : p ∉ bs := fun h => by rw [(hbs p h).2] at hp; cases hp
  have nw : ∀ b, (b = p ∨ b ∈ bs) → H b = none := fun b h => by
    rcases h with rfl | h
    · cases e : H b with
      | none => rfl
      | some u => rw [s1 _ _ e] at hp; cases hp
    · exact (hbs b h).1
  have mv : Mv F H (fun b => F b ∨ b = p ∨ b ∈ bs) (upd H1 p (.lst (bs.map V.ref))) := fun b u n e => ⟨fun h => h.elim n (fun h => by rw [nw b h] at e; cases e), s12 _ _ e⟩
  have hσ : i < σ.length := by rw [← r.rs.len]; exact hi
  have Hb : ∀ b ∈ bs, (upd H1 p (.lst (bs.map V.ref))) b = some (.lst []) := fun b h => s2 _ _ (hbs b h).2
  have oat : ∀ (j : Nat) (xss : List (List D)), (ρ.set i (.on (List.replicate bs.length [])))[j]? = some (.on xss) → i = j ∧ xss = List.replicate bs.length [] := fun j xss e => by
    rcases get_set e with ⟨h, x, _⟩ | ⟨_, e⟩
    · cases x; exact ⟨h, rfl⟩
    · exact absurd e (no_on hno j xss)
  have oa : ∀ b, OnAt (upd H1 p (.lst (bs.map V.ref))) (σ.set i (some (.ref p))) i b → b = p ∨ b ∈ bs := fun b h => by
    obtain ⟨a, vs, g1, g2, g3⟩ := h
    rw [List.getElem?_set_self hσ] at g1
    cases g1
    rw [L2.upd_same] at g2
    cases g2
    refine g3.imp (fun h => h) fun h => ?_
    obtain ⟨c, hc, z⟩ := List.mem_map.mp h
    cases z; exact hc
  refine ⟨mv, ⟨⟨by simp [r.rs.len], fun b f => ?_, fun j d q => ?_, fun j ds q => ?_, fun j ks ds q => ?_, fun j k b oj ok ej ek => ?_, fun j xss e => ?_⟩, r.sm.trans s12, fun b h => .inl (r.sub b h), r.trk0, fun j a oj e => ?_, fun j xss b e hb => ?_⟩⟩
  · rcases f with f | rfl | f
    · obtain ⟨o, e⟩ := r.rs.trk b f; exact ⟨o, s12 _ _ e⟩
    · exact ⟨_, L2.upd_same⟩
    · exact ⟨_, Hb b f⟩
  · rcases get_set q with ⟨rfl, hx, _⟩ | ⟨hne, q⟩
    · cases hx
    · obtain ⟨w, e1, g⟩ := r.rs.sh j d q
      exact ⟨w, by rw [List.getElem?_set_ne hne]; exact e1, g.mv mv⟩
  · rcases get_set q with ⟨rfl, hx, _⟩ | ⟨hne, q⟩
    · cases hx
    · obtain ⟨b, xs, e1, f, e2, g⟩ := r.rs.ol j ds q
      exact ⟨b, xs, by rw [List.getElem?_set_ne hne]; exact e1, .inl f, s12 _ _ e2, g.mv mv⟩
  · rcases get_set q with ⟨rfl, hx, _⟩ | ⟨hne, q⟩
    · cases hx
    · obtain ⟨b, xs, e1, f, e2, l, g⟩ := r.rs.od j ks ds q
      exact ⟨b, xs, by rw [List.getElem?_set_ne hne]; exact e1, .inl f, s12 _ _ e2, l, g.mv mv⟩
  · obtain ⟨nj, oj⟩ := owned_on oj
    obtain ⟨nk, ok⟩ := owned_on ok
    rw [List.getElem?_set_ne nj] at ej
    rw [List.getElem?_set_ne nk] at ek
    exact r.rs.dis j k b oj ok ej ek
  · obtain ⟨rfl, rfl⟩ := oat j xss e
    refine ⟨⟨p, bs, List.getElem?_set_self hσ, .inr (.inl rfl), L2.upd_same, List.nodup_cons.mpr ⟨pn, nd⟩, Inn.nils fun b h => ⟨.inr (.inr h), Hb b h⟩⟩, fun b hb k ok ek => ?_, fun k yss ek => (oat k yss ek).1.symm⟩
    obtain ⟨nk, ok⟩ := owned_on ok
    rw [List.getElem?_set_ne nk] at ek
    obtain ⟨a, _, u, _, e1, _, e2, _⟩ := r.rs.ownAt ok
    rw [e1] at ek; cases ek
    rw [nw b (oa b hb)] at e2; cases e2
  · obtain ⟨nj, oj⟩ := owned_on oj
    rw [List.getElem?_set_ne nj] at e
    exact r.own j a oj e
  · obtain ⟨rfl, rfl⟩ := oat j xss e
    exact r.sm.free (nw b (oa b hb))
theorem Inn.len : ∀ {bs : List Addr} {xss : List (List D)}, Inn M H F bs xss → bs.length = xss.length
  | [], [], _ => rfl
  | b :: bs, ds :: dss, h => by
    simp only [Inn] at h
    simp [Inn.len h.2.2]
  | [], _ :: _, h => by simp only [Inn] at h
  | _ :: _, [], h => by simp only [Inn] at h
theorem Inn.get : ∀ {bs : List Addr} {xss : List (List D)} {m : Nat} {b : Addr}, Inn M H F bs xss → bs[m]? = some b → ∃ xs, F b ∧ H b = some (.lst xs) ∧ Reps M H F (xss.getD m []) xs
  | [], [], _, _, _, e => by simp at e
  | b :: bs, ds :: dss, 0, _, h, e => by
    simp only [Inn] at h
    simp at e; subst e
    obtain ⟨f, ⟨xs, q, r⟩, _⟩ := h
    exact ⟨xs, f, q, by simpa using r⟩
  | b :: bs, ds :: dss, m + 1, c, h, e => by
    simp only [Inn] at h
    obtain ⟨xs, f, q, r⟩ := Inn.get (m := m) h.2.2 (by simpa using e)
    exact ⟨xs, f, q, by simpa using r⟩
  | [], _ :: _, _, _, h, _ => by simp only [Inn] at h
  | _ :: _, [], _, _, h, _ => by simp only [Inn] at h
theorem Inn.put {zs : List V} {es : List D} {c : Addr} (mv : Mv F H F (upd H c (.lst zs))) (rz : Reps M (upd H c (.lst zs)) F es zs) : ∀ {bs : List Addr} {xss : List (List D)} {m : Nat}, Inn M H F bs xss → bs.Nodup → bs[m]? = some c → Inn M (upd H c (.lst zs)) F bs (xss.set m es)
  | [], [], _, _, _, e => by simp at e
  | b :: bs, ds :: dss, 0, h, nd, e => by
    simp only [Inn] at h
    simp at e; subst e
    simp only [List.set_cons_zero, Inn]
    obtain ⟨nb, nd⟩ := List.nodup_cons.mp nd
    exact ⟨h.1, ⟨zs, L2.upd_same, rz⟩, h.2.2.mv mv fun d hd u f q => ⟨f, by rw [L2.upd_ne (fun z => by subst z; exact nb hd)]; exact q⟩⟩
  | b :: bs, ds :: dss, m + 1, h, nd, e => by
    simp only [Inn] at h
    simp only [List.set_cons_succ, Inn]
    obtain ⟨nb, nd⟩ := List.nodup_cons.mp nd
    have e' : bs[m]? = some c := by simpa using e
    have hc : b ≠ c := fun z => by subst z; exact nb (List.mem_of_getElem? e')
    obtain ⟨f, ⟨xs, q, r⟩, t⟩ := h
    exact ⟨f, ⟨xs, by rw [L2.upd_ne hc]; exact q, r.mv mv⟩, Inn.put mv rz t nd e'⟩
  | [], _ :: _, _, h, _, _ => by simp only [Inn] at h
  | _ :: _, [], _, h, _, _ => by simp only [Inn] at h
/-- an inner list is changed -/
theorem RepG.chgN {i m : Nat} {a b : Addr} {bs : List Addr} {xss : List (List D)} {zs : List V} {es : List D} (r : RepG M G F0 H F σ ρ) (q : ρ[i]? = some (.on xss)) (ei : σ[i]? = some (some (.ref a))) (ha : H a = some (.lst (bs.map V.ref))) (nd : (a :: bs).Nodup) (inn : Inn M H F bs xss) (fa : F a)
    (hm : bs[m]? = some b) (rz : Reps M H F es zs) : Mv F H F (upd H b (.lst zs)) ∧ RepG M G F0 (upd H b (.lst zs)) F σ (ρ.set i (.on (xss.set m es))) := by
  obtain ⟨na, ndb⟩ := List.nodup_cons.mp nd
  have hbm := List.mem_of_getElem? hm
  obtain ⟨fb, _, hb⟩ := inn.fs b hbm
  have ab : OnAt H σ i b := ⟨a, _, ei, ha, .inr (List.mem_map_of_mem hbm)⟩
  obtain ⟨_, h2, h3⟩ := r.rs.on i xss q
  have mv : Mv F H F (upd H b (.lst zs)) := fun c v n e => ⟨n, by rw [L2.upd_ne (fun z => by subst z; exact n fb)]; exact e⟩
  have hG := r.onG i xss b q ab
  have hab : a ≠ b := fun z => by subst z; exact na hbm
  have ha' : upd H b (.lst zs) a = some (.lst (bs.map V.ref)) := by rw [L2.upd_ne hab]; exact ha
  have back : ∀ c, OnAt (upd H b (.lst zs)) σ i c → OnAt H σ i c := fun c h => by
    obtain ⟨a', vs, g1, g2, g3⟩ := h
    rw [ei] at g1; cases g1
    rw [ha'] at g2; cases g2
    exact ⟨a, _, ei, ha, g3⟩
  have oat : ∀ (j : Nat) (yss : List (List D)), (ρ.set i (.on (xss.set m es)))[j]? = some (.on yss) → i = j ∧ yss = xss.set m es := fun j yss e => by
    rcases get_set e with ⟨h, x, _⟩ | ⟨hne, e⟩
    · cases x; exact ⟨h, rfl⟩
    · exact absurd (h3 j yss e).symm hne
  refine ⟨mv, ⟨⟨by simp [r.rs.len], fun c f => ?_, fun j d q => ?_, fun j ds q => ?_, fun j ks ds q => ?_, fun j k c oj ok ej ek => ?_, fun j yss e => ?_⟩, fun c u e => by rw [L2.upd_ne (fun z => by subst z; rw [hG] at e; cases e)]; exact r.sm c u e, r.sub, r.trk0, fun j c oj e => ?_, fun j yss c e hc => ?_⟩⟩
  · by_cases z : c = b
    · subst z; exact ⟨_, L2.upd_same⟩
    · obtain ⟨u, hu⟩ := r.rs.trk c f
      exact ⟨u, by rw [L2.upd_ne z]; exact hu⟩
  · rcases get_set q with ⟨rfl, hx, _⟩ | ⟨hne, q⟩
    · cases hx
    · obtain ⟨w, e1, g⟩ := r.rs.sh j d q
      exact ⟨w, e1, g.mv mv⟩
  · rcases get_set q with ⟨rfl, hx, _⟩ | ⟨hne, q⟩
    · cases hx
    · obtain ⟨c, xs, e1, f, e2, g⟩ := r.rs.ol j ds q
      exact ⟨c, xs, e1, f, by rw [L2.upd_ne (fun z => by subst z; exact h2 _ ab j (.inl ⟨_, q⟩) e1)]; exact e2, g.mv mv⟩
  · rcases get_set q with ⟨rfl, hx, _⟩ | ⟨hne, q⟩
    · cases hx
    · obtain ⟨c, xs, e1, f, e2, l, g⟩ := r.rs.od j ks ds q
      exact ⟨c, xs, e1, f, by rw [L2.upd_ne (fun z => by subst z; exact h2 _ ab j (.inr ⟨_, _, q⟩) e1)]; exact e2, l, g.mv mv⟩
  · exact r.rs.dis j k c (owned_on oj).2 (owned_on ok).2 ej ek
  · obtain ⟨rfl, rfl⟩ := oat j yss e
    exact ⟨⟨a, bs, ei, fa, ha', nd, inn.put mv (rz.mv mv) ndb hm⟩, fun c hc k ok => h2 c (back c hc) k (owned_on ok).2, fun k yss ek => (oat k yss ek).1.symm⟩
  · exact r.own j c (owned_on oj).2 e
  · obtain ⟨rfl, rfl⟩ := oat j yss e
    exact r.onG i xss c q (back c hc)
theorem Inn.reps {P : Addr → Prop} (m : Mv F H F' H) : ∀ {bs : List Addr} {xss : List (List D)}, Inn M H F bs xss → (∀ b ∈ bs, ¬ F' b) → Reps M H F' (xss.map .lst) (bs.map V.ref)
  | [], [], _, _ => Reps.nil
  | b :: bs, ds :: dss, h, n => by
    simp only [Inn] at h
    obtain ⟨f, ⟨xs, e, r⟩, t⟩ := h
    refine Reps.cons ?_ (Inn.reps (P := P) m t fun c hc => n c (List.mem_cons_of_mem _ hc))
    simp only [Rep]
    exact ⟨b, xs, rfl, .inl ⟨n b List.mem_cons_self, .inl e⟩, r.mv m⟩
  | [], _ :: _, h, _ => by simp only [Inn] at h
  | _ :: _, [], h, _ => by simp only [Inn] at h
/-- no more one's own -/
theorem RepG.frzN {i : Nat} {xss : List (List D)} (r : RepG M G F0 H F σ ρ) (q : ρ[i]? = some (.on xss)) : ∃ F', Mv F H F' H ∧ RepG M G F0 H F' σ (ρ.set i (.sh (.lst (xss.map .lst)))) := by
  obtain ⟨⟨a, bs, ei, fa, ha, nd, inn⟩, h2, h3⟩ := r.rs.on i xss q
  have mv : Mv F H (fun c => F c ∧ ¬ OnAt H σ i c) H := fun c v n e => ⟨fun h => n h.1, e⟩
  have hrep : Rep M H (fun c => F c ∧ ¬ OnAt H σ i c) (.lst (xss.map .lst)) (.ref a) := by
    simp only [Rep]
    refine ⟨a, bs.map V.ref, rfl, .inl ⟨fun h => h.2 ⟨a, _, ei, ha, .inl rfl⟩, .inl ha⟩, inn.reps (P := F) mv fun b hb h => h.2 ⟨a, _, ei, ha, .inr (List.mem_map_of_mem hb)⟩⟩
  refine ⟨_, mv, ⟨⟨by simp [r.rs.len], fun b h => r.rs.trk b h.1, ?_, ?_, ?_, ?_, ?_⟩, r.sm, fun b h => ⟨r.sub b h, fun z => ?_⟩, r.trk0, ?_, ?_⟩⟩
  · intro j e q
    rcases get_set q with ⟨rfl, hx, hl⟩ | ⟨hne, q⟩
    · cases hx
      exact ⟨_, ei, hrep⟩
    · obtain ⟨w, e1, g⟩ := r.rs.sh j e q
      exact ⟨w, e1, g.mv mv⟩
  · intro j e q
    rcases get_set q with ⟨rfl, x, hl⟩ | ⟨hne, q⟩
    · cases x
    · obtain ⟨b, xs, e1, f, e3, g⟩ := r.rs.ol j e q
      exact ⟨b, xs, e1, ⟨f, fun z => h2 b z j (.inl ⟨_, q⟩) e1⟩, e3, g.mv mv⟩
  · intro j k e q
    rcases get_set q with ⟨rfl, x, hl⟩ | ⟨hne, q⟩
    · cases x
    · obtain ⟨b, xs, e1, f, e3, l, g⟩ := r.rs.od j k e q
      exact ⟨b, xs, e1, ⟨f, fun z => h2 b z j (.inr ⟨_, _, q⟩) e1⟩, e3, l, g.mv mv⟩
  · intro j k b oj ok ej ek
    exact r.rs.dis j k b oj.set_ne.2 ok.set_ne.2 ej ek
  · refine .no fun j yss e => ?_
    rcases get_set e with ⟨_, x, _⟩ | ⟨hne, e⟩
    · cases x
    · exact hne (h3 j yss e).symm
  · obtain ⟨o, e⟩ := r.trk0 _ h
    rw [r.onG i xss b q z] at e; cases e
  · intro j b oj e
    exact r.own j b oj.set_ne.2 e
  · intro j yss b e hb
    rcases get_set e with ⟨_, x, _⟩ | ⟨hne, e⟩
    · cases x
    · exact absurd (h3 j yss e).symm hne
theorem js_freezeN (i : Nat) {rest : List Stmt} {fs : List Sm} (h : JSs X rest (sBlk fs)) : JSs X rest (sBlk (sFreezeN i :: fs)) := fun F0 =>
  PSs_imp (h F0) fun D σ H ⟨ρ, F, fl, r, e, q⟩ => by
    obtain ⟨f1, e1, e⟩ := bind_ok_iff.mp e
    unfold sFreezeN at e1
    split at e1
    · rename_i xss q1
      cases e1
      obtain ⟨F', mv, r'⟩ := r.frzN q1
      exact ⟨_, F', fl, r', e, q.mv mv⟩
    · cases e1
/-- [[], [], ..] -/
def tNils (n : Nat) : TA := fun σ H Q => ∀ bs H', bs.length = n → NewN H bs H' → Q (bs.map V.ref) H'
abbrev JN (X : Cx) (es : List Expr) (n : Nat) : Prop := PA X es (tNils n)
theorem jn_nil : JN X [] 0 := PA_imp L2.pa_nil fun σ H Q h => h [] H rfl rfl
theorem jn_cons {n : Nat} {es : List Expr} (h : JN X es n) (hs : starEach (.List [] pos :: es) X.env = (false, eval (.List [] pos) X.env) :: starEach es X.env := by rfl) : JN X (.List [] pos :: es) (n + 1) :=
  PA_imp (L2.pa_cons (L2.pe_lst L2.pa_nil) h hs) fun σ H Q h => by
    refine ⟨Nat.zero_le _, fun p hp bs H' hl hn => h (p :: bs) H' (by simp [hl]) ⟨hp, hn⟩⟩
theorem js_ownN (i n : Nat) {x : Str} {es : List Expr} {p1 p2 : Pos} (hN : X.N.Nodup) (he : JN X es n) (hn : n ≤ 1000 := by decide) (hi : X.N[i]? = some x := by rfl) (hx : L2.Loc X.env.scope x := by exact Or.inl rfl) (hf : X.fn x = true ∨ X.env.scope.names.lookup x = some .local := by first | exact .inl rfl | exact .inr rfl)
    (hs : swapsWith (.List es p1) (some (.Name x p2)) pos.line X.env = pure false := by rfl) : JS X (.Assign [.Name x p2] (.List es p1) pos) (sOwnN i n) := fun F0 pins s σ H D I h => by
  refine PS_imp (t := fun D σ H => tPS (mdOf X) X.H₀ F0 (sOwnN i n) D σ H ∧ σ.length = X.N.length) (L2.ps_set hN hi hx (L2.pe_lst he) hs hf) (fun D σ H ⟨⟨ρ, F, fl, r, e, q⟩, hl⟩ => ?_) pins s σ H D I ⟨h, I.len⟩
  unfold sOwnN at e
  split at e
  · cases e
  · rename_i hno
    cases e
    intro bs H1 hb hn1
    refine ⟨by rw [List.length_map, hb]; exact Nat.le_trans hn (by decide), fun p hp => ?_⟩
    subst hb
    have hil : i < ρ.length := by
      rw [r.rs.len, hl]
      exact (List.getElem?_eq_some_iff.mp hi).1
    obtain ⟨mv, r'⟩ := r.newN hil hno hn1 hp
    exact q _ _ _ mv r'
theorem baseS {o b : Expr} {p : Pos} {a : Str} {env : Env} {w : Sem Value} : attributeBase (.Subscript o b p) a env w = w := rfl
theorem js_appendN (i : Nat) {x : Str} {b e : Expr} {f g : Ex} {p2 p3 apos cpos : Pos} (hb : JE X b g) (he : JE X e f) (hN : X.N[i]? = some x := by rfl) (hv : L2.Vis X.env.scope x := by first | exact Or.inl rfl | exact Or.inr (Or.inl rfl) | exact Or.inr (Or.inr rfl)) (hd : (x == ("__debug__" : Str)) = false := by decide)
    (hcd : (x == ("__classdict__" : Str)) = false := by decide) (hix : L2.PlainIx b) (hbase : attributeBase (.Subscript (.Name x p2) b p3) "append" X.env (eval (.Subscript (.Name x p2) b p3) X.env) = eval (.Subscript (.Name x p2) b p3) X.env := by rfl)
    (hfew : ((backTo cpos (starEach [e] X.env)).all (fun x => !x.1) && (backToKw cpos (keywordEach [] X.env)).all (fun x => x.1.isSome)
      && decide (([e] : List Expr).length + ([] : List Keyword).length + (if ([] : List Keyword).isEmpty then 0 else 1) < 30)) = true := by rfl)
    (hline : (apos.endLine == cpos.line) = true := by rfl) (hs : starEach [e] X.env = (false, eval e X.env) :: starEach [] X.env := by rfl)
    (hsw : swapsWith (.Call (.Attribute (.Subscript (.Name x p2) b p3) "append" apos) [e] [] cpos) none pos.line X.env = pure false := by rfl) :
    JS X (.Expr (.Call (.Attribute (.Subscript (.Name x p2) b p3) "append" apos) [e] [] cpos) pos) (sAppendN i g f) := fun F0 =>
  PS_imp (L2.ps_expr (L2.pe_bm PySem.F.plainAttrs_list PySem.F.slot_list_append PySem.F.type_list_append L2.mt_append (L2.pe_ix L2.ix_seq (L2.pv i hN hv hd hcd) hb hix) (ja_cons he ja_nil hs) hbase hfew hline hs) hsw) fun D σ H ⟨ρ, F, fl, r, e, q⟩ => by
    obtain ⟨y, ey, e⟩ := bind_ok_iff.mp e
    obtain ⟨d, ed, e⟩ := bind_ok_iff.mp e
    have ⟨xss, k, q1, hy, e9⟩ : ∃ xss k, ρ[i]? = some (.on xss) ∧ y = .int k ∧ (match ixN xss.length k with
        | some m => if (xss.getD m []).length < szL then R.ok (Fl.next (ρ.set i (.on (xss.set m (xss.getD m [] ++ [d]))))) else .bad
        | none => .bad) = .ok fl := by
      cases hq : ρ[i]? with
      | none => rw [hq] at e; cases e
      | some s =>
        rw [hq] at e
        cases s with
        | on xss =>
          cases y with
          | int k => exact ⟨xss, k, rfl, rfl, e⟩
          | _ => cases e
        | _ => cases e
    subst hy
    cases hm : ixN xss.length k with
    | none => rw [hm] at e9; cases e9
    | some m =>
      rw [hm] at e9
      dsimp only at e9
      · by_cases hlt : (xss.getD m []).length < szL
        · rw [if_pos hlt] at e9
          cases e9
          obtain ⟨⟨a, bs, ea, fa, ha, nd, inn⟩, _⟩ := r.rs.on i _ q1
          have hl := inn.len
          rw [← hl] at hm
          have hml : m < bs.length := (L2.ixN_seq (i := k) (by rw [ix_eq]; exact hm)).2.1
          have hbm : bs[m]? = some bs[m] := List.getElem?_eq_getElem hml
          have hat : L2.atI (bs.map V.ref) k = some (.ref bs[m]) := by
            rw [at_eq]
            unfold atI
            rw [List.length_map, hm]
            simp [hbm]
          refine ⟨_, ea, ρ, F, _, r.rs, ey, fun z H1 s1 rz => .inl ⟨a, _, k, _, rfl, rep_int rz, SqL.of (s1 _ _ ha), hat, ?_⟩⟩
          have r1 := r.same s1
          have inn1 : Inn (mdOf X) H1 F bs xss := inn.mv (.same s1) fun b _ u fb hu => ⟨fb, s1 _ _ hu⟩
          obtain ⟨ys, fb, hbH, rs⟩ := inn1.get hbm
          refine ⟨.inl ⟨rfl, ys, SqL.of hbH⟩, ρ, F, [d], r1.rs, by show (f ρ).bind _ = _; rw [ed]; rfl, fun vs H2 s2 rv => ?_⟩
          obtain ⟨v, rfl, ry⟩ := rv.one
          have r2 := r1.same s2
          have inn2 : Inn (mdOf X) H2 F bs xss := inn1.mv (.same s2) fun b _ u fb hu => ⟨fb, s2 _ _ hu⟩
          refine ⟨_, ys, v, rfl, rfl, s2 _ _ hbH, by rw [← rs.length]; exact hlt, ?_⟩
          obtain ⟨mv, r'⟩ := r2.chgN q1 ea (s2 _ _ (s1 _ _ ha)) nd inn2 fa hbm (es := xss.getD m [] ++ [d]) (zs := ys ++ [v]) ((rs.mv (.same s2)).append (Reps.cons ry Reps.nil))
          exact q _ _ _ (Mv.trans (.same (s1.trans s2)) mv) r'
        · rw [if_neg hlt] at e9; cases e9
end
end PL
set_option Elab.async false
set_option linter.all false
set_option maxRecDepth 100000
namespace PL
open PySem PySem.Spec
open PyProof.Rows (assign_Tuple)
open L2 (V Hp HO Cx PE PT PW PA PS PSs PG PGs VK TE TT TA TS TI TG Inv RelV Vals Rd SqL SqT upd Same Key XK Ends OpR UnR CallR R2 EP)
/-! ### a, b = a list -/
section
variable {prog : Program} {w : World} {A : Around} {E : Value → Shared → Prop} {s : Shared}
theorem draw_list {it t : Addr} {items : Array Value} (hne : t ≠ it) : ∀ (n i : Nat) (s : Shared) (Q : List Value → Shared → Prop), s.heap.IsListIter it t i → s.heap.IsList t items → i + n ≤ items.size →
    (∀ h', h'.IsListIter it t (i + n) → Heap.SameBut it s.heap h' → Q ((items.toList.drop i).take n) { s with heap := h' }) → wpAny (model prog w) A (draw (.ref it) n) Q E s
  | 0, i, s, Q, hit, _, _, hQ => by
    show wpAny _ _ (pure []) Q E s
    exact wpAny_pure (by simpa using hQ s.heap hit (Heap.SameBut.refl ..))
  | n + 1, i, s, Q, hit, ht, hle, hQ => by
    have hlt : i < items.size := by omega
    show wpAny _ _ (pyNext (.ref it) >>= _) Q E s
    refine wpAny_bind (wpAny_pyNext_list_item hit ht (x := items[i]) (by simp [hlt]) fun h₁ hit₁ hs₁ => ?_)
    refine wpAny_bind (wpAny_holding (draw_list hne n (i + 1) _ _ hit₁ (ht.extBut hs₁.extBut hne) (by omega) fun h₂ hit₂ hs₂ => wpAny_pure ?_))
    have hd : items.toList.drop i = items[i] :: items.toList.drop (i + 1) := by simp [List.drop_eq_getElem_cons, hlt]
    have := hQ h₂ (by rw [show i + (n + 1) = i + 1 + n by omega]; exact hit₂) (hs₁.trans hs₂)
    rw [hd, List.take_succ_cons] at this
    exact this
theorem unpackItems_list {t : Addr} {items : Array Value} {Q : List Value → Shared → Prop} (hh : A.handled = none) (ht : s.heap.IsList t items)
    (hQ : ∀ h', Heap.ExtBut s.heap.objs.size s.heap h' → Q items.toList { s with heap := h' }) : wpAny (model prog w) A (unpackItems (.ref t) items.size none) Q E s := by
  have hlt : t ≠ s.heap.objs.size := by obtain ⟨o, ho, _⟩ := ht; exact Nat.ne_of_lt (Heap.lt_size ho)
  unfold unpackItems
  refine wpAny_bind ?_
  · unfold notIterableAtAll
    refine wpAny_bind (wpAny_specialOf ht.typeIs slot_list_iter.lookup ?_)
    refine wpAny_pure ?_
    simp only [Bool.false_eq_true, if_false]
    refine wpAny_bind (wpAny_holding (wpAny_pyIter_list ht ?_))
    refine wpAny_bind (wpAny_holding (draw_list hlt items.size 0 _ _ ⟨_, Heap.get?_push_size _ rfl, rfl, rfl⟩ (ht.push _) (by omega) fun h₁ hit₁ hs₁ => ?_))
    have hall : List.take items.size (List.drop 0 items.toList) = items.toList := by
      rw [List.drop_zero]; exact List.take_of_length_le (by simp)
    rw [hall]
    rw [if_neg (by simp)]
    have ht₁ : h₁.IsList t items := (ht.push _).extBut hs₁.extBut hlt
    refine wpAny_bind (wpAny_holding (wpAny_pyNext_list_end hh hit₁ ht₁ (by simp) fun h₂ he₂ => ?_))
    simp only [Option.isSome_none, Bool.false_eq_true, if_false]
    refine wpAny_pure (hQ h₂ fun b o hb e => he₂ b o hb (hs₁.extBut b o hb (Heap.get?_push_of_some _ e)))
theorem unpack_list {t : Addr} {items : Array Value} {targets : List (Bool × (Value → Sem Unit))} {Q : Unit → Shared → Prop} (hh : A.handled = none) (ht : s.heap.IsList t items)
    (hn : targets.length = items.size) (hstar : targets.findIdx? (·.1) = none)
    (h : ∀ h', Heap.ExtBut s.heap.objs.size s.heap h' → wpAny (model prog w) A (assignInOrder (targets.map (·.2)) items.toList) Q E { s with heap := h' }) :
    wpAny (model prog w) A (unpack (.ref t) targets) Q E s := by
  unfold unpack
  rw [hn, hstar]
  exact wpAny_bind (wpAny_holding (unpackItems_list hh ht h))
theorem assign_Tuple_list {env : Env} {elts : List Expr} {x1} {pos : Pos} {t : Addr} {items : Array Value} {Q : Unit → Shared → Prop} (hh : A.handled = none) (ht : s.heap.IsList t items)
    (hn : (assignEach elts env).length = items.size) (hstar : (assignEach elts env).findIdx? (·.1) = none)
    (h : ∀ h', Heap.ExtBut s.heap.objs.size s.heap h' → wpAny (model prog w) A (assignInOrder ((assignEach elts env).map (·.2)) items.toList) Q E { s with heap := h' }) :
    wpAny (model prog w) A (assign (.Tuple elts x1 pos) env (.ref t)) Q E s := by
  rw [assign_Tuple]
  exact wpAny_bind (wpAny_standAt (unpack_list hh ht hn hstar h))
end
/-- names from a tuple or a list -/
def gTupA (is : List Nat) : Tgt := fun d ρ => match d with
  | .tup ds => gNames is ds ρ
  | .lst ds => gNames is ds ρ
  | _ => .bad
section
variable {X : Cx} {M : Md} {G H H' : Hp} {F0 F F' : Addr → Prop} {σ : L2.St} {ρ : En} {pos : Pos} {DE : Ends}
theorem jg_tupA {is : List Nat} {es : List Expr} {k : Nat} (hc : X.calm = true) (h : JGs X es (gNames is)) (hn : (assignEach es X.env).length = is.length := by rfl) (hst : (assignEach es X.env).findIdx? (·.1) = none := by rfl) : JG X (.Tuple es k pos) (gTupA is) := by
  intro F0 pins s σ H v u Q I rvu ⟨ρ, F, d, ρ', r, rv, e, q⟩
  cases d with
  | tup ds => exact jg_tup hc h hn hst F0 pins s σ H v u Q I rvu ⟨ρ, F, .tup ds, ρ', r, rv, e, q⟩
  | lst ds =>
    simp only [Rep] at rv
    obtain ⟨a, xs, rfl, h1, rs⟩ := rv
    cases rvu
    obtain ⟨its, rw', ⟨o, n, ho, hcl, hdi, hda⟩, hz⟩ := I.list h1.sq
    have hl : ds.length = is.length := gNames_len e
    refine assign_Tuple_list (I.ok.hd hc) (items := its.toArray) ⟨o, ho, hcl, n, hda⟩ (by rw [hn, ← hl, rs.length]; simp [rw'.length]) hst fun h' hx => ?_
    have I1 : Inv X pins σ H { s with heap := h' } := I.kept (t' := s.toks) fun b o e => hx b o (Nat.ne_of_lt (Heap.lt_size e)) e
    exact h F0 pins _ σ H xs _ Q I1 (by simpa using rw') ⟨ρ, F, ds, ρ', r, rs, e, q⟩
  | _ => cases e
/-! ### a list of new lists -/
def eLsts : List Ex → En → R (List (List D))
  | [], _ => .ok []
  | f :: fs, ρ => (f ρ).bind fun d => match d with
    | .lst ds => (eLsts fs ρ).bind fun xss => .ok (ds :: xss)
    | _ => .bad
def sOwnF (i : Nat) (fs : List Ex) : Sm := fun ρ => if ρ.any isOn = true then .bad else (eLsts fs ρ).bind fun xss => .ok (.next (ρ.set i (.on xss)))
/-- new lists, one behind the other -/
def NewC (M : Md) : (Addr → Prop) → Hp → List Addr → List (List D) → (Addr → Prop) → Hp → Prop
  | F, H, [], [], F', H' => F' = F ∧ H' = H
  | F, H, b :: bs, ds :: dss, F', H' => ∃ H1 xs, Same H H1 ∧ H1 b = none ∧ Reps M H1 F ds xs ∧ NewC M (fun c => F c ∨ c = b) (upd H1 b (.lst xs)) bs dss F' H'
  | _, _, _, _, _, _ => False
theorem NewC.spec : ∀ {bs : List Addr} {dss : List (List D)} {F F' : Addr → Prop} {H H' : Hp}, RepS M H F σ ρ → NewC M F H bs dss F' H' →
    Same H H' ∧ bs.Nodup ∧ (∀ b ∈ bs, H b = none) ∧ (∀ c, F c → F' c) ∧ (∀ c, F' c → F c ∨ c ∈ bs) ∧ RepS M H' F' σ ρ ∧ Inn M H' F' bs dss ∧ Mv F H F' H'
  | [], [], F, F', H, H', r, h => by
    unfold NewC at h
    obtain ⟨rfl, rfl⟩ := h
    exact ⟨Same.refl _, .nil, (fun b hb => by cases hb), fun _ h => h, fun _ h => .inl h, r, by simp only [Inn], Mv.refl⟩
  | b :: bs, ds :: dss, F, F', H, H', r, h => by
    unfold NewC at h
    obtain ⟨H1, xs, s1, hb, rx, h⟩ := h
    have r1 := r.same s1
    have s2 : Same H1 (upd H1 b (.lst xs)) := Same.upd_new hb _
    obtain ⟨s3, nd, hn, f1, f2, r3, inn, mv3⟩ := NewC.spec (r1.fresh (o := .lst xs) hb) h
    have hbn : b ∉ bs := fun hm => by
      have := hn b hm
      rw [L2.upd_same] at this; cases this
    have nw : ∀ c ∈ bs, H1 c = none := fun c hc => by
      have h1 := hn c hc
      rw [L2.upd_ne (fun z => by subst z; exact hbn hc)] at h1
      exact h1
    have back : ∀ c, H1 c = none → H c = none := fun c hc => by
      cases e : H c with
      | none => rfl
      | some u => rw [s1 _ _ e] at hc; cases hc
    have f2' : ∀ c, F' c → F c ∨ c ∈ b :: bs := fun c hc => by
      rcases f2 c hc with (h | h) | h
      · exact .inl h
      · exact .inr (by rw [h]; exact List.mem_cons_self)
      · exact .inr (List.mem_cons_of_mem _ h)
    have mv1 : Mv F H1 F' H' := fun c o n e => by
      refine ⟨fun fc => ?_, s3 _ _ (s2 _ _ e)⟩
      rcases f2' c fc with h | h
      · exact n h
      · rcases List.mem_cons.mp h with rfl | h
        · rw [hb] at e; cases e
        · rw [nw c h] at e; cases e
    refine ⟨(s1.trans s2).trans s3, List.nodup_cons.mpr ⟨hbn, nd⟩, fun c hc => ?_, fun c hc => f1 c (.inl hc), f2', r3, ?_, Mv.trans (.same s1) mv1⟩
    · rcases List.mem_cons.mp hc with rfl | hc
      · exact back _ hb
      · exact back _ (nw c hc)
    · simp only [Inn]
      exact ⟨f1 b (.inr rfl), ⟨xs, s3 _ _ L2.upd_same, rx.mv mv1⟩, inn⟩
  | [], _ :: _, _, _, _, _, _, h => by unfold NewC at h; exact h.elim
  | _ :: _, [], _, _, _, _, _, h => by unfold NewC at h; exact h.elim
theorem RepS.putOn {i : Nat} {p : Addr} {bs : List Addr} {xss : List (List D)} (r : RepS M H F σ ρ) (hi : i < ρ.length) (hno : ¬ ρ.any isOn = true) (fp : F p) (hp : H p = some (.lst (bs.map V.ref))) (nd : (p :: bs).Nodup) (inn : Inn M H F bs xss)
    (hn : ∀ c, c = p ∨ c ∈ bs → ∀ k, Owned ρ k → σ[k]? ≠ some (some (.ref c))) : RepS M H F (σ.set i (some (.ref p))) (ρ.set i (.on xss)) := by
  have hσ : i < σ.length := by rw [← r.len]; exact hi
  have oat : ∀ (j : Nat) (yss : List (List D)), (ρ.set i (.on xss))[j]? = some (.on yss) → i = j ∧ yss = xss := fun j yss e => by
    rcases get_set e with ⟨h, x, _⟩ | ⟨_, e⟩
    · cases x; exact ⟨h, rfl⟩
    · exact absurd e (no_on hno j yss)
  refine ⟨by simp [r.len], r.trk, fun j d q => ?_, fun j ds q => ?_, fun j ks ds q => ?_, fun j k b oj ok ej ek => ?_, fun j yss e => ?_⟩
  · rcases get_set q with ⟨rfl, hx, _⟩ | ⟨hne, q⟩
    · cases hx
    · obtain ⟨w, e1, g⟩ := r.sh j d q
      exact ⟨w, by rw [List.getElem?_set_ne hne]; exact e1, g⟩
  · rcases get_set q with ⟨rfl, hx, _⟩ | ⟨hne, q⟩
    · cases hx
    · obtain ⟨b, xs, e1, f, e2, g⟩ := r.ol j ds q
      exact ⟨b, xs, by rw [List.getElem?_set_ne hne]; exact e1, f, e2, g⟩
  · rcases get_set q with ⟨rfl, hx, _⟩ | ⟨hne, q⟩
    · cases hx
    · obtain ⟨b, xs, e1, f, e2, l, g⟩ := r.od j ks ds q
      exact ⟨b, xs, by rw [List.getElem?_set_ne hne]; exact e1, f, e2, l, g⟩
  · obtain ⟨nj, oj⟩ := owned_on oj
    obtain ⟨nk, ok⟩ := owned_on ok
    rw [List.getElem?_set_ne nj] at ej
    rw [List.getElem?_set_ne nk] at ek
    exact r.dis j k b oj ok ej ek
  · obtain ⟨rfl, rfl⟩ := oat j yss e
    refine ⟨⟨p, bs, List.getElem?_set_self hσ, fp, hp, nd, inn⟩, fun b hb k ok ek => ?_, fun k yss ek => (oat k yss ek).1.symm⟩
    obtain ⟨nk, ok⟩ := owned_on ok
    rw [List.getElem?_set_ne nk] at ek
    obtain ⟨a, vs, g1, g2, g3⟩ := hb
    rw [List.getElem?_set_self hσ] at g1
    cases g1
    rw [hp] at g2
    cases g2
    refine hn b (g3.imp (fun h => h) fun h => ?_) k ok ek
    obtain ⟨c, hc, z⟩ := List.mem_map.mp h
    cases z; exact hc
theorem RepG.newC {i : Nat} {p : Addr} {bs : List Addr} {xss : List (List D)} {H1 : Hp} (r : RepG M G F0 H F σ ρ) (hi : i < ρ.length) (hno : ¬ ρ.any isOn = true) (hb : NewC M F H bs xss F' H1) (hp : H1 p = none) :
    Mv F H (fun b => F' b ∨ b = p) (upd H1 p (.lst (bs.map V.ref))) ∧ RepG M G F0 (upd H1 p (.lst (bs.map V.ref))) (fun b => F' b ∨ b = p) (σ.set i (some (.ref p))) (ρ.set i (.on xss)) := by
  obtain ⟨s1, nd, hbs, f1, f2, r1, inn, mv1⟩ := hb.spec r.rs
  have s2 : Same H1 (upd H1 p (.lst (bs.map V.ref))) := Same.upd_new hp _
  have s12 := s1.trans s2
  have nw : ∀ c, (c = p ∨ c ∈ bs) → H c = none := fun c h => by
    rcases h with rfl | h
    · cases e : H c with
      | none => rfl
      | some u => rw [s1 _ _ e] at hp; cases hp
    · exact hbs c h
  have pn : p ∉ bs := fun h => by
    obtain ⟨_, xs, e⟩ := inn.fs p h
    rw [hp] at e; cases e
  have mv2 : Mv F' H1 (fun b => F' b ∨ b = p) (upd H1 p (.lst (bs.map V.ref))) := fun c o n e => ⟨fun h => h.elim n (fun z => by subst z; rw [hp] at e; cases e), s2 _ _ e⟩
  have own' : ∀ c, (c = p ∨ c ∈ bs) → ∀ k, Owned ρ k → σ[k]? ≠ some (some (.ref c)) := fun c hc k ok ek => by
    obtain ⟨a, _, u, _, e1, _, e2, _⟩ := r.rs.ownAt ok
    rw [e1] at ek; cases ek
    rw [nw c hc] at e2; cases e2
  have inn2 : Inn M (upd H1 p (.lst (bs.map V.ref))) (fun b => F' b ∨ b = p) bs xss := inn.mv mv2 fun b hb u f e => ⟨.inl f, s2 _ _ e⟩
  have key := (r1.fresh (o := .lst (bs.map V.ref)) hp).putOn hi hno (.inr rfl) L2.upd_same (List.nodup_cons.mpr ⟨pn, nd⟩) inn2 own'
  refine ⟨Mv.trans mv1 mv2, ⟨key, r.sm.trans s12, fun b h => .inl (f1 b (r.sub b h)), r.trk0, fun j a oj e => ?_, fun j yss b e hb => ?_⟩⟩
  · obtain ⟨nj, oj⟩ := owned_on oj
    rw [List.getElem?_set_ne nj] at e
    exact r.own j a oj e
  · have hσ : i < σ.length := by rw [← r.rs.len]; exact hi
    rcases get_set e with ⟨rfl, x, _⟩ | ⟨_, e⟩
    · obtain ⟨a, vs, g1, g2, g3⟩ := hb
      rw [List.getElem?_set_self hσ] at g1
      cases g1
      rw [L2.upd_same] at g2
      cases g2
      refine r.sm.free (nw b (g3.imp (fun h => h) fun h => ?_))
      obtain ⟨c, hc, z⟩ := List.mem_map.mp h
      cases z; exact hc
    · exact absurd e (no_on hno j yss)
def tFs (M : Md) (fs : List Ex) : TA := fun σ H Q => ∃ ρ F xss, RepS M H F σ ρ ∧ eLsts fs ρ = .ok xss ∧ ∀ bs H' F', NewC M F H bs xss F' H' → Q (bs.map V.ref) H'
abbrev JM (X : Cx) (es : List Expr) (fs : List Ex) : Prop := PA X es (tFs (mdOf X) fs)
theorem jm_nil : JM X [] [] := PA_imp L2.pa_nil fun σ H Q ⟨ρ, F, xss, r, e, q⟩ => by
  cases e
  exact q [] H F ⟨rfl, rfl⟩
theorem jm_cons {e : Expr} {es : List Expr} {f : Ex} {fs : List Ex} (he : JF X e f) (h : JM X es fs) (hs : starEach (e :: es) X.env = (false, eval e X.env) :: starEach es X.env := by rfl) : JM X (e :: es) (f :: fs) :=
  PA_imp (L2.pa_cons he h hs) fun σ H Q ⟨ρ, F, xss, r, e, q⟩ => by
    unfold eLsts at e
    obtain ⟨d, ed, e⟩ := bind_ok_iff.mp e
    cases d with
    | lst ds =>
      obtain ⟨yss, ey, e⟩ := bind_ok_iff.mp e
      cases e
      exact ⟨ρ, F, ds, r, ed, fun p H1 xs s1 hp rs => ⟨ρ, _, yss, (r.same s1).fresh hp, ey, fun bs H' F' nc => q (p :: bs) H' F' ⟨H1, xs, s1, hp, rs, nc⟩⟩⟩
    | _ => cases e
theorem NewC.len {M : Md} : ∀ {bs : List Addr} {dss : List (List D)} {F F' : Addr → Prop} {H H' : Hp}, NewC M F H bs dss F' H' → bs.length = dss.length
  | [], [], _, _, _, _, _ => rfl
  | b :: bs, ds :: dss, _, _, _, _, h => by
    unfold NewC at h
    obtain ⟨_, _, _, _, _, h⟩ := h
    simp [NewC.len h]
  | [], _ :: _, _, _, _, _, h => by unfold NewC at h; exact h.elim
  | _ :: _, [], _, _, _, _, h => by unfold NewC at h; exact h.elim
theorem eLsts_len : ∀ {fs : List Ex} {ρ : En} {xss : List (List D)}, eLsts fs ρ = .ok xss → xss.length = fs.length
  | [], _, _, e => by cases e; rfl
  | f :: fs, ρ, xss, e => by
    unfold eLsts at e
    obtain ⟨d, ed, e⟩ := bind_ok_iff.mp e
    cases d with
    | lst ds =>
      obtain ⟨yss, ey, e⟩ := bind_ok_iff.mp e
      cases e
      simp [eLsts_len ey]
    | _ => cases e
theorem js_ownF (i : Nat) {x : Str} {es : List Expr} {fs : List Ex} {p1 p2 : Pos} (hN : X.N.Nodup) (he : JM X es fs) (hn : fs.length ≤ 1000 := by decide) (hi : X.N[i]? = some x := by rfl) (hx : L2.Loc X.env.scope x := by exact Or.inl rfl) (hf : X.fn x = true ∨ X.env.scope.names.lookup x = some .local := by first | exact .inl rfl | exact .inr rfl)
    (hs : swapsWith (.List es p1) (some (.Name x p2)) pos.line X.env = pure false := by rfl) : JS X (.Assign [.Name x p2] (.List es p1) pos) (sOwnF i fs) := fun F0 pins s σ H D I h => by
  refine PS_imp (t := fun D σ H => tPS (mdOf X) X.H₀ F0 (sOwnF i fs) D σ H ∧ σ.length = X.N.length) (L2.ps_set hN hi hx (L2.pe_lst he) hs hf) (fun D σ H ⟨⟨ρ, F, fl, r, e, q⟩, hl⟩ => ?_) pins s σ H D I ⟨h, I.len⟩
  unfold sOwnF at e
  split at e
  · cases e
  · rename_i hno
    obtain ⟨xss, ex, e⟩ := bind_ok_iff.mp e
    cases e
    refine ⟨ρ, F, xss, r.rs, ex, fun bs H1 F1 nc => ⟨?_, fun p hp => ?_⟩⟩
    · rw [List.length_map, nc.len, eLsts_len ex]; exact Nat.le_trans hn (by decide)
    · have hil : i < ρ.length := by
        rw [r.rs.len, hl]
        exact (List.getElem?_eq_some_iff.mp hi).1
      obtain ⟨mv, r'⟩ := r.newC hil hno nc hp
      exact q _ _ _ mv r'
end
end PL

set_option linter.all false
set_option maxRecDepth 100000
namespace PL
namespace K54
open PySem
abbrev S (x : String) : D := .str (Str.ofString x)
def g_RANKS : D := (.int 4)
def g_FIFTH : D := (.int 4)
def g_MOST_PASSED : D := (.int 8)
def g_BOUND : D := (.int 23)
def m_law_turns_l1 : Sm := sBlk [sAsg (gName 0) (e2 oDivW (eVar 0) (eC (.int 16))), sPop 4 1 (e2 oMod (eVar 0) (eLenL 1)), sAsg (gName 0) (e2 oDivW (eVar 0) (eC (.int 15))), sAsg (gName 5) (e2 oMod (eVar 0) (eC (.int 6))), sIf (tV (e2 oEq (eVar 5) (eC (.int 4)))) (sAppendN 2 (eC (.int 4)) (eTup [eVar 4, eC (.int 8)])) (sIf (tV (e2 oLt (eVar 5) (eC (.int 4)))) (sAppendN 2 (eVar 5) (eTup [eVar 4, e2 oMod (e2 oDivW (eVar 0) (eC (.int 6))) (eC (.int 8))])) (sNil)), sAsg (gName 0) (e2 oDivW (eVar 0) (eC (.int 48)))]
def m_law_turns : List D → R D := fn 6 (sBlk [sOwnL 1 (e2 oListRng (eC (.int 1)) (eC (.int 16))), sOwnN 2 5, sFor (iRng1 (e2 oMod (eVar 0) (eC (.int 16)))) (gName 3) m_law_turns_l1, sFreezeN 2, sRet (e1 oTuple (eVar 2))])
def m_law_number : List D → R D := fn 3 (sBlk [sAsg (gName 2) (eC (.int 0)), sIf (tV (e2 oLt (eVar 1) (e1 oLen (eVar 0)))) (sAsg (gName 2) (e2 oIx (eVar 0) (eVar 1))) (sNil), sRet (e2 oMulW (e2 oAdd (e2 oMod (eVar 2) (e2 oPowW (e2 oPowW (eC (.int 10)) (eC (.int 50))) (eC (.int 8)))) (eC (.int 1))) (e2 oPowW (e2 oPowW (eC (.int 10007)) (eC (.int 50))) (eC (.int 2))))])
def m_law_next_l1 : Sm := sIf (tAnd (tV (e2 oNe (eVar 5) (eVar 2))) (tV (e2 oEq (eVar 6) (eC (.int 7))))) (sAppendN 3 (eC (.int 4)) (eTup [eVar 5, eC (.int 8)])) (sIf (tV (e2 oNe (eVar 5) (eVar 2))) (sAppendN 3 (eVar 4) (eTup [eVar 5, e2 oAdd (eVar 6) (eC (.int 1))])) (sNil))
def m_law_next_l2 : Sm := sFor (iSeq (e2 oIx (eVar 0) (eVar 4))) (gTup [5, 6]) m_law_next_l1
def m_law_next : List D → R D := fn 7 (sBlk [sAsg (gName 1) (e2 oAdd (e2 oAdd (e2 oAdd (e2 oAdd (e2 oIx (eVar 0) (eC (.int 4))) (e2 oIx (eVar 0) (eC (.int 3)))) (e2 oIx (eVar 0) (eC (.int 2)))) (e2 oIx (eVar 0) (eC (.int 1)))) (e2 oIx (eVar 0) (eC (.int 0)))), sIf (tV (e2 oEq (eVar 1) (eLst []))) (sRet (eLst [eVar 0, eC .non])) (sNil), sAsg (gName 2) (e2 oIx (e2 oIx (eVar 1) (eC (.int 0))) (eC (.int 0))), sOwnF 3 [eLst [], eLst [], eLst [], eLst [], eComp (iSeq (e2 oIx (eVar 0) (eC (.int 4)))) 1 [2] (gName 0) [tV (e2 oNe (e2 oIx (eVar 0) (eC (.int 0))) (eVar 1))] (eVar 0)], sFor (iSeq (eLst [eC (.int 3), eC (.int 2), eC (.int 1), eC (.int 0)])) (gName 4) m_law_next_l2, sFreezeN 3, sRet (eLst [eVar 3, eVar 2])])
def m_passed_on_l1 : Sm := sExtend 2 (eComp (iSeq (eVar 3)) 1 [] (gName 0) [tV (e2 oEq (e2 oIx (eVar 0) (eC (.int 1))) (eC g_MOST_PASSED))] (eVar 0))
def m_passed_on : List D → R D := fn 5 (sBlk [sAsg (gName 1) (eComp (iSeq (eSl (eVar 0) none (some (eC g_RANKS)))) 1 [] (gName 0) [] (eComp (iSeq (eVar 0)) 2 [] (gTup [0, 1]) [] (eTup [eVar 0, e2 oAdd (eVar 1) (eC (.int 1))]))), sOwnL 2 (e1 oList (e2 oIx (eVar 0) (eC g_FIFTH))), sFor (iRevA (eVar 1)) (gName 3) m_passed_on_l1, sAsg (gName 4) (eComp (iSeq (eVar 1)) 1 [] (gName 0) [] (eComp (iSeq (eVar 0)) 1 [] (gName 0) [tV (e2 oLt (e2 oIx (eVar 0) (eC (.int 1))) (eC g_MOST_PASSED))] (eVar 0))), sFreeze 2, sRet (e1 oTuple (e2 oAdd (eVar 4) (eLst [eVar 2])))])
def m_taken_out : List D → R D := fn 2 (sRet (e1 oTuple (eComp (iSeq (eVar 0)) 1 [1] (gName 0) [] (eComp (iSeq (eVar 0)) 1 [1] (gName 0) [tV (e2 oNe (e2 oIx (eVar 0) (eC (.int 0))) (eVar 1))] (eVar 0)))))
def m_next_turn : List D → R D := fn 3 (sBlk [sAsg (gName 1) (eComp (iRevA (eVar 0)) 1 [] (gName 0) [tV (e2 oGt (e1 oLen (eVar 0)) (eC (.int 0)))] (eVar 0)), sIf (tV (e2 oEq (e1 oLen (eVar 1)) (eC (.int 0)))) (sRet (eTup [eVar 0, eC .non])) (sNil), sAsg (gName 2) (e2 oIx (e2 oIx (e2 oIx (eVar 1) (eC (.int 0))) (eC (.int 0))) (eC (.int 0))), sRet (eTup [eCall m_passed_on [eCall m_taken_out [eVar 0, eVar 2]], eVar 2])])
def m_law_without : List D → R D := fnN 2 (sRetF (eComp (iSeq (eVar 0)) 1 [1] (gName 0) [] (eComp (iSeq (eVar 0)) 1 [1] (gName 0) [tV (e2 oNe (e2 oIx (eVar 0) (eC (.int 0))) (eVar 1))] (eVar 0))))
def m_made_ready : List D → R D := fn 4 (sBlk [sAsg (gName 3) (eCall m_taken_out [eVar 0, eVar 1]), sRet (e2 oAdd (e2 oAddE (eSl (eVar 3) none (some (eVar 2))) (eTup [e2 oAdd (e2 oIx (eVar 3) (eVar 2)) (eLst [eTup [eVar 1, eC (.int 0)]])])) (eSl (eVar 3) (some (e2 oAdd (eVar 2) (eC (.int 1)))) none))])
def m_law_done : List D → R D := fn 8 (sBlk [sAsg (gName 3) (e2 oAdd (eC (.int 1)) (e2 oMod (e2 oDivW (eVar 2) (eC (.int 3))) (eC (.int 15)))), sAsg (gName 4) (e2 oMod (e2 oDivW (eVar 2) (eC (.int 45))) (eC (.int 4))), sIf (tV (e2 oEq (e2 oMod (eVar 2) (eC (.int 3))) (eC (.int 0)))) (sBlk [sOwnL 5 (eCall m_law_without [eVar 1, eVar 3]), sSetO 5 (eVar 4) (e2 oAdd (eIxL 5 (eVar 4)) (eLst [eTup [eVar 3, eC (.int 0)]])), sFreeze 5, sRet (eLst [eCall m_made_ready [eVar 0, eVar 3, eVar 4], eVar 5])]) (sNil), sIf (tAnd (tV (e2 oEq (e2 oMod (eVar 2) (eC (.int 3))) (eC (.int 1)))) (tV (e2 oEq (e2 oMod (e2 oDivW (eVar 2) (eC (.int 180))) (eC (.int 3))) (eC (.int 0))))) (sRet (eLst [eCall m_taken_out [eVar 0, eVar 3], eCall m_law_without [eVar 1, eVar 3]])) (sNil), sAsg (gTupA [5, 6]) (eCall m_law_next [eVar 1]), sAsg (gName 7) (eCall m_next_turn [eVar 0]), sIf (tOr (tNot (tV (e1 (oIsA .tuple) (eVar 7)))) (tOr (tV (e2 oNe (e1 oLen (eVar 7)) (eC (.int 2)))) (tOr (tV (e2 oNe (e2 oIx (eVar 7) (eC (.int 1))) (eVar 6))) (tV (e1 (oIsA .bool) (e2 oIx (eVar 7) (eC (.int 1)))))))) (sRet (eLst [eC .non, eVar 5])) (sNil), sRet (eLst [e2 oIx (eVar 7) (eC (.int 0)), eVar 5])])
def m_law_whole : List D → R D := fn 1 (sRet (eAnd (e1 (oIsA .int) (eVar 0)) (e1 oNot (e1 (oIsA .bool) (eVar 0)))))
def m_law_are_l1 : Sm := sBlk [sIf (tOr (tNot (tV (e1 (oIsA .list) (eVar 2)))) (tNot (tV (e1 (oIsA .tuple) (eVar 3))))) (sRet (eC (.bl false))) (sNil), sIf (tOr (tNot (tV (eCall m_law_whole [e2 oIx (eVar 3) (eC (.int 0))]))) (tNot (tV (eCall m_law_whole [e2 oIx (eVar 3) (eC (.int 1))])))) (sRet (eC (.bl false))) (sNil)]
def m_law_are_l2 : Sm := sFor (iSeq (eVar 2)) (gName 3) m_law_are_l1
def m_law_are : List D → R D := fn 4 (sBlk [sIf (tOr (tNot (tV (e1 (oIsA .tuple) (eVar 0)))) (tOr (tV (e2 oNe (e1 oLen (eVar 0)) (eC (.int 5)))) (tV (e2 oNe (e1 oList (eVar 0)) (eVar 1))))) (sRet (eC (.bl false))) (sNil), sFor (iSeq (eVar 0)) (gName 2) m_law_are_l2, sRet (eC (.bl true))])
def m_no_turns : List D → R D := fn 0 (sRet (eTup [eLst [], eLst [], eLst [], eLst [], eLst []]))
def m_rows_of : List D → R D := fn 1 (sRet (e2 oMulW (eC (.int 4)) (e2 oAdd (eVar 0) (eC (.int 1)))))
def m_standing_l1 : Sm := sIf (tV (e2 oEq (e2 oIx (eVar 5) (eC (.int 0))) (eVar 1))) (sRet (eTup [eVar 2, eVar 4, e2 oIx (eVar 5) (eC (.int 1))])) (sNil)
def m_standing_l2 : Sm := sFor (iEnumC 0 (eVar 3)) (gTup [4, 5]) m_standing_l1
def m_standing : List D → R D := fn 6 (sBlk [sFor (iEnumC 0 (eVar 0)) (gTup [2, 3]) m_standing_l2, sRet (eC .non)])
def m_law_stands_l1 : Sm := sIf (tV (e2 oEq (e2 oIx (e2 oIx (e2 oIx (eVar 1) (eVar 4)) (eVar 5)) (eC (.int 0))) (eVar 2))) (sAsg (gName 3) (eTup [eVar 4, eVar 5, e2 oIx (e2 oIx (e2 oIx (eVar 1) (eVar 4)) (eVar 5)) (eC (.int 1))])) (sNil)
def m_law_stands_l2 : Sm := sFor (iRng1 (e1 oLen (e2 oIx (eVar 1) (eVar 4)))) (gName 5) m_law_stands_l1
def m_law_stands : List D → R D := fn 7 (sBlk [sAsg (gName 3) (eC .non), sFor (iRng1 (eC (.int 5))) (gName 4) m_law_stands_l2, sAsg (gName 6) (eCall m_standing [eVar 0, eVar 2]), sIf (tOr (tV (e1 oIsN (eVar 6))) (tV (e1 oIsN (eVar 3)))) (sRet (e2 oEq (eVar 6) (eVar 3))) (sNil), sRet (eAnd (e1 (oIsA .tuple) (eVar 6)) (eAnd (e2 oEq (eComp (iSeq (eVar 6)) 1 [] (gName 0) [tNot (tV (eCall m_law_whole [eVar 0]))] (eVar 0)) (eLst [])) (e2 oEq (eVar 6) (eVar 3))))])
def m_law_l1 : Sm := sBlk [sAsg (gName 3) (eCall m_law_number [eVar 0, eVar 2]), sAsg (gName 4) (eComp (iSeq (eVar 1)) 1 [] (gName 0) [] (e1 oList (eVar 0))), sAsg (gTupA [5, 6]) (eCall m_law_done [eVar 1, eVar 4, eVar 3]), sIf (tOr (tV (e1 oIsN (eVar 5))) (tOr (tNot (tV (eCall m_law_are [eVar 5, eVar 6]))) (tV (e2 oNe (eComp (iSeq (eVar 1)) 1 [] (gName 0) [] (e1 oList (eVar 0))) (eVar 4))))) (sRet (eC (.bl false))) (sNil), sIf (tOr (tNot (tV (eCall m_law_stands [eVar 5, eVar 6, e2 oAdd (eC (.int 1)) (e2 oMod (e2 oDivW (eVar 3) (eC (.int 600))) (eC (.int 15)))]))) (tNot (tV (eCall m_law_stands [eVar 5, eVar 6, e2 oAdd (eC (.int 1)) (e2 oMod (e2 oDivW (eVar 3) (eC (.int 3))) (eC (.int 15)))])))) (sRet (eC (.bl false))) (sNil), sAsg (gName 1) (e1 oTuple (eComp (iSeq (eVar 6)) 1 [] (gName 0) [] (e1 oList (eVar 0))))]
def m_law : List D → R D := fn 7 (sBlk [sAsg (gName 1) (eCall m_law_turns [eCall m_law_number [eVar 0, eC (.int 0)]]), sIf (tOr (tNot (tV (eCall m_law_are [eCall m_no_turns [], eLst [eLst [], eLst [], eLst [], eLst [], eLst []]]))) (tV (e2 oNe (eComp (iRng1 (eC (.int 4))) 1 [] (gName 0) [] (eCall m_rows_of [eVar 0])) (eLst [eC (.int 4), eC (.int 8), eC (.int 12), eC (.int 16)])))) (sRet (eC (.bl false))) (sNil), sFor (iRng2 (eC (.int 1)) (e2 oMax (eC (.int 2)) (e2 oMin (eC (.int 61)) (e1 oLen (eVar 0))))) (gName 2) m_law_l1, sRet (eAnd (e2 oEq (eC g_BOUND) (eC (.int 23))) (e2 oEq (eCall m_no_turns []) (eTup [eLst [], eLst [], eLst [], eLst [], eLst []])))])
end K54
end PL
set_option linter.all false
set_option maxRecDepth 1000
set_option Elab.async false
namespace PL
open PySem
theorem rangeL_len (a b : Int) : (rangeL a b).length = (b - a).toNat := by simp [rangeL]
theorem rangeL_mem {a b : Int} {d : D} (h : d ∈ rangeL a b) : ∃ k : Int, d = .int k ∧ a ≤ k ∧ k < b := by
  unfold rangeL at h
  obtain ⟨k, hk, e⟩ := List.mem_map.mp h
  have := List.mem_range.mp hk
  exact ⟨a + k, e.symm, by omega, by omega⟩
theorem atI_nat {α : Type} {xs : List α} {j : Nat} (h : j < xs.length) : atI xs (j : Int) = some xs[j] := by
  unfold atI ixN
  rw [if_pos (by omega), if_pos (by omega)]
  simp [h]
theorem atI_int {α : Type} {xs : List α} {i : Int} (h0 : 0 ≤ i) (h : i < xs.length) : atI xs i = some (xs[i.toNat]'(by omega)) := by
  unfold atI ixN
  rw [if_pos h0, if_pos h]
  have : i.toNat < xs.length := by omega
  simp [this]
/-- an int in its bounds at a place of a list of ints -/
theorem atI_ints {xs : List Int} {i : Int} (h0 : 0 ≤ i) (h : i < xs.length) : ∃ x, x ∈ xs ∧ atI (xs.map D.int) i = some (.int x) := by
  refine ⟨xs[i.toNat]'(by omega), List.getElem_mem _, ?_⟩
  rw [atI_int h0 (by simpa using h)]
  simp
theorem inR_of {i : Int} (h1 : -1000000 < i) (h2 : i < 1000000) : inR i = true := by
  unfold inR
  rw [decide_eq_true (show -4611686018427387904 ≤ i by omega), decide_eq_true (show i < 4611686018427387904 by omega)]; rfl

theorem sIf_t {c : Tst} {a b : Sm} {ρ : En} (h : c ρ = .ok true) : sIf c a b ρ = a ρ := by simp [h]
theorem sIf_f {c : Tst} {a b : Sm} {ρ : En} (h : c ρ = .ok false) : sIf c a b ρ = b ρ := by simp [h]
theorem blk {a : Sm} {r : List Sm} {ρ ρ' : En} (h : a ρ = .ok (.next ρ')) : sBlk (a :: r) ρ = sBlk r ρ' := by
  show (a ρ).bind _ = _
  rw [h]; rfl
theorem blk_ret {a : Sm} {r : List Sm} {ρ : En} {d : D} (h : a ρ = .ok (.ret d)) : sBlk (a :: r) ρ = .ok (.ret d) := by
  show (a ρ).bind _ = _
  rw [h]; rfl
theorem sIf_nil {c : Tst} {a : Sm} {ρ : En} (h : c ρ = .ok false) : sIf c a sNil ρ = .ok (.next ρ) := by simp [h]
theorem fn_ret {n : Nat} {b : Sm} {ds : List D} {d : D} (h : b (ds.map .sh ++ List.replicate (n - ds.length) .un) = .ok (.ret d)) : fn n b ds = .ok d := by
  unfold fn; rw [h]; rfl
theorem iRng1_ok {a : Ex} {ρ : En} {L : Int} (h : a ρ = .ok (.int L)) (h2 : inR L = true) : iRng1 a ρ = .ok (rangeL 0 L) := by
  simp [h, h2]
theorem iRng2_ok {a b : Ex} {ρ : En} {I L : Int} (h : a ρ = .ok (.int I)) (h' : b ρ = .ok (.int L)) (h1 : inR I = true) (h2 : inR L = true) : iRng2 a b ρ = .ok (rangeL I L) := by
  simp [h, h', h1, h2]
end PL
set_option linter.all false
set_option maxRecDepth 2000
set_option Elab.async false
namespace PL
open PySem
/-! ### steps of the mirrors -/
namespace G
theorem e_one {o : D → R D} {a : Ex} {ρ : En} {x d : D} (ha : a ρ = .ok x) (h : o x = .ok d) : e1 o a ρ = .ok d := by
  show (a ρ).bind _ = _
  rw [ha, R.bind_ok, h]
theorem e_two {o : D → D → R D} {a b : Ex} {ρ : En} {x y d : D} (ha : a ρ = .ok x) (hb : b ρ = .ok y) (h : o x y = .ok d) : e2 o a b ρ = .ok d := by
  show (a ρ).bind _ = _
  rw [ha, R.bind_ok]
  show (b ρ).bind _ = _
  rw [hb, R.bind_ok, h]
theorem e_call1 {f : List D → R D} {a : Ex} {ρ : En} {x d : D} (ha : a ρ = .ok x) (h : f [x] = .ok d) : eCall f [a] ρ = .ok d := by
  simp only [eCall, eList, ha, R.bind_ok]; exact h
theorem e_call2 {f : List D → R D} {a b : Ex} {ρ : En} {x y d : D} (ha : a ρ = .ok x) (hb : b ρ = .ok y) (h : f [x, y] = .ok d) : eCall f [a, b] ρ = .ok d := by
  simp only [eCall, eList, ha, hb, R.bind_ok]; exact h
theorem e_call3 {f : List D → R D} {a b c : Ex} {ρ : En} {x y z d : D} (ha : a ρ = .ok x) (hb : b ρ = .ok y) (hc : c ρ = .ok z) (h : f [x, y, z] = .ok d) : eCall f [a, b, c] ρ = .ok d := by
  simp only [eCall, eList, ha, hb, hc, R.bind_ok]; exact h
theorem e_add {a b : Ex} {ρ : En} {i u : Int} (ha : a ρ = .ok (.int i)) (hb : b ρ = .ok (.int u)) : e2 oAdd a b ρ = .ok (.int (i + u)) := e_two ha hb rfl
theorem e_mod {a b : Ex} {ρ : En} {i u : Int} (ha : a ρ = .ok (.int i)) (hb : b ρ = .ok (.int u)) (h : 0 < u) : e2 oMod a b ρ = .ok (.int (i % u)) := e_two ha hb (if_pos h)
theorem e_divW {a b : Ex} {ρ : En} {i u : Int} (ha : a ρ = .ok (.int i)) (hb : b ρ = .ok (.int u)) (h : 0 < u ∧ u.natAbs.log2 < 9000) : e2 oDivW a b ρ = .ok (.int (i / u)) := e_two ha hb (if_pos h)
theorem e_lst1 {a : Ex} {ρ : En} {x : D} (h : a ρ = .ok x) : eLst [a] ρ = .ok (.lst [x]) := by
  simp only [eLst, eList, h, R.bind_ok]
theorem e_tup2 {a b : Ex} {ρ : En} {x y : D} (h : a ρ = .ok x) (h2 : b ρ = .ok y) : eTup [a, b] ρ = .ok (.tup [x, y]) := by
  simp only [eTup, eList, h, h2, R.bind_ok]
theorem t_v {a : Ex} {ρ : En} {b : Bool} (ha : a ρ = .ok (.bl b)) : tV a ρ = .ok b := by
  simp only [tV, ha, R.bind_ok, truth]
theorem t_not {t : Tst} {ρ : En} {b : Bool} (h : t ρ = .ok b) : tNot t ρ = .ok (!b) := by
  simp only [tNot, h, R.bind_ok]
theorem t_or {t u : Tst} {ρ : En} {b c : Bool} (h : t ρ = .ok b) (h' : u ρ = .ok c) : tOr t u ρ = .ok (b || c) := by
  simp only [tOr, h, R.bind_ok]
  cases b
  · rw [if_neg (by decide), h']; rfl
  · rfl
theorem t_or_t {t u : Tst} {ρ : En} (h : t ρ = .ok true) : tOr t u ρ = .ok true := by
  simp only [tOr, h, R.bind_ok]; rfl
theorem t_and {t u : Tst} {ρ : En} {b c : Bool} (h : t ρ = .ok b) (h' : u ρ = .ok c) : tAnd t u ρ = .ok (b && c) := by
  simp only [tAnd, h, R.bind_ok]
  cases b
  · rfl
  · rw [if_pos rfl, h']; rfl
theorem t_and_f {t u : Tst} {ρ : En} (h : t ρ = .ok false) : tAnd t u ρ = .ok false := by
  simp only [tAnd, h, R.bind_ok]; rfl
theorem e_andB {a b : Ex} {ρ : En} {x y : Bool} (ha : a ρ = .ok (.bl x)) (hb : x = true → b ρ = .ok (.bl y)) : eAnd a b ρ = .ok (.bl (x && y)) := by
  simp only [eAnd, ha, R.bind_ok]
  cases x
  · rfl
  · exact hb rfl
theorem s_ret {a : Ex} {ρ : En} {d : D} (h : a ρ = .ok d) : sRet a ρ = .ok (.ret d) := by
  simp only [sRet, h, R.bind_ok]
theorem s_asg {i : Nat} {a : Ex} {ρ : En} {d : D} (h : a ρ = .ok d) : sAsg (gName i) a ρ = .ok (.next (ρ.set i (.sh d))) := by
  simp only [sAsg, h, R.bind_ok, gName]
theorem s_own {i : Nat} {a : Ex} {ρ : En} {xs : List D} (h : a ρ = .ok (.lst xs)) : sOwnL i a ρ = .ok (.next (ρ.set i (.ol xs))) := by
  simp only [sOwnL, h, R.bind_ok]
theorem s_set {i : Nat} {k a : Ex} {ρ : En} {d : D} {j : Int} {m : Nat} {xs : List D} (h : a ρ = .ok d) (hk : k ρ = .ok (.int j)) (hi : ρ[i]? = some (.ol xs)) (hm : ixN xs.length j = some m) : sSetO i k a ρ = .ok (.next (ρ.set i (.ol (xs.set m d)))) := by
  simp only [sSetO, h, hk, R.bind_ok, hi, hm]
theorem ixN_pos {n : Nat} {j : Int} (h0 : 0 ≤ j) (h1 : j < n) : ixN n j = some j.toNat := by
  unfold ixN; rw [if_pos h0, if_pos h1]
theorem ix_lst {xs : List D} {i : Int} {d : D} (h : atI xs i = some d) : oIx (.lst xs) (.int i) = .ok d := by simp [h]
theorem ix_tup {xs : List D} {i : Int} {d : D} (h : atI xs i = some d) : oIx (.tup xs) (.int i) = .ok d := by simp [h]
theorem eq_int (i j : Int) : oEq (.int i) (.int j) = .ok (.bl (decide (i = j))) := by
  unfold oEq
  rw [eqOk_int_int, if_pos rfl]
  show R.ok (D.bl (i == j)) = _
  rfl
theorem lt_int (i j : Int) : oLt (.int i) (.int j) = .ok (.bl (decide (i < j))) := rfl
theorem sIx_pos {n d : Nat} {v : Int} (h : 0 ≤ v) : sIx n d (some v) = min v.toNat n := if_neg (by omega)
theorem cut_to {α : Type} (xs : List α) {v : Int} (h : 0 ≤ v) : cut xs none (some v) = xs.take v.toNat := by
  unfold cut
  rw [sIx_pos h]
  show ((xs.drop 0).take _) = _
  rw [List.drop_zero]
  show xs.take (min v.toNat xs.length - 0) = _
  rw [Nat.sub_zero]
  by_cases hl : v.toNat ≤ xs.length
  · rw [Nat.min_eq_left hl]
  · rw [Nat.min_eq_right (by omega), List.take_length, List.take_of_length_le (by omega)]
theorem cut_from {α : Type} (xs : List α) {v : Int} (h : 0 ≤ v) : cut xs (some v) none = xs.drop v.toNat := by
  unfold cut
  rw [sIx_pos h]
  show (xs.drop (min v.toNat xs.length)).take (xs.length - min v.toNat xs.length) = _
  by_cases hl : v.toNat ≤ xs.length
  · rw [Nat.min_eq_left hl]
    exact List.take_of_length_le (by rw [List.length_drop]; omega)
  · rw [Nat.min_eq_right (by omega), List.drop_length, List.drop_of_length_le (by omega), List.take_nil]
theorem add_lst {xs ys : List D} (h : xs.length + ys.length ≤ 16777216) : oAdd (.lst xs) (.lst ys) = .ok (.lst (xs ++ ys)) := if_pos h
/-! ### == of a thing with itself -/
mutual
theorem eqD_refl : ∀ d : D, lay d = true → eqD d d = true
  | .non, _ => rfl
  | .bl b, _ => by simp
  | .int i, _ => by simp
  | .str x, _ => by simp
  | .tup xs, h => by unfold eqD; exact eqDs_refl xs (by unfold lay at h; exact h)
  | .lst xs, h => by unfold eqD; exact eqDs_refl xs (by unfold lay at h; exact h)
  | .dct _ _, h => by unfold lay at h; cases h
  | .exn _ _ _, h => by unfold lay at h; cases h
theorem eqDs_refl : ∀ ds : List D, lays ds = true → eqDs ds ds = true
  | [], _ => rfl
  | d :: ds, h => by
    unfold lays at h
    rw [Bool.and_eq_true] at h
    unfold eqDs
    rw [eqD_refl d h.1, eqDs_refl ds h.2]; rfl
end
theorem neOk_self {d : D} (h : lay d = true) (h2 : dep d ≤ 60) : neOk d d = true := by
  unfold neOk
  rw [h, decide_eq_true (show min (dep d) (dep d) ≤ 60 by omega)]; simp
theorem ne_self {d : D} (h : lay d = true) (h2 : dep d ≤ 60) : oNe d d = .ok (.bl false) := by
  unfold oNe
  rw [if_pos (neOk_self h h2), eqD_refl d h]; rfl
theorem eq_self {d : D} (h : lay d = true) (h2 : dep d ≤ 60) : oEq d d = .ok (.bl true) := by
  unfold oEq eqOk
  rw [neOk_self h h2, eqD_refl d h]; rfl
theorem lays_of {ds : List D} (h : ∀ d ∈ ds, lay d = true) : lays ds = true := by
  induction ds with
  | nil => rfl
  | cons d ds ih =>
    unfold lays
    rw [h d List.mem_cons_self, ih fun x hx => h x (List.mem_cons_of_mem _ hx)]; rfl
theorem deps_of {ds : List D} {n : Nat} (h : ∀ d ∈ ds, dep d ≤ n) : deps ds ≤ n := by
  induction ds with
  | nil => exact Nat.zero_le _
  | cons d ds ih =>
    unfold deps
    have h1 := h d List.mem_cons_self
    have h2 := ih fun x hx => h x (List.mem_cons_of_mem _ hx)
    omega
theorem wid_of {i : Int} {n : Nat} (h : i.natAbs < 2 ^ n) (hn : n ≤ 100000) : wid i = true := by
  unfold wid
  rw [decide_eq_true_eq]
  by_cases h0 : i.natAbs = 0
  · rw [h0]; decide
  · exact Nat.lt_of_lt_of_le ((Nat.log2_lt h0).mpr h) hn
theorem compL_map {α : Type} {tg : Tgt} {el : Ex} {ρ : En} (u : α → D) (v : α → D) : ∀ {xs : List α}, (∀ x ∈ xs, ∃ ρ1, tg (u x) ρ = .ok ρ1 ∧ el ρ1 = .ok (v x)) → compL tg [] el ρ (xs.map u) = .ok (xs.map v)
  | [], _ => rfl
  | x :: xs, h => by
    obtain ⟨ρ1, e1, e2⟩ := h x List.mem_cons_self
    rw [List.map_cons, compL, e1, R.bind_ok]
    show (R.ok true).bind _ = _
    rw [R.bind_ok, if_pos rfl, e2, R.bind_ok, compL_map u v (fun y hy => h y (List.mem_cons_of_mem _ hy))]
    rfl
/-- a comprehension with tests -/
theorem compL_filter {α : Type} {tg : Tgt} {cs : List Tst} {el : Ex} {ρ : En} (u : α → D) (p : α → Bool) (v : α → D) : ∀ {xs : List α}, (∀ x ∈ xs, ∃ ρ1, tg (u x) ρ = .ok ρ1 ∧ compL.allT cs ρ1 = .ok (p x) ∧ (p x = true → el ρ1 = .ok (v x))) → compL tg cs el ρ (xs.map u) = .ok ((xs.filter p).map v)
  | [], _ => rfl
  | x :: xs, h => by
    obtain ⟨ρ1, e1, e2, e3⟩ := h x List.mem_cons_self
    have ih := compL_filter (cs := cs) (el := el) (ρ := ρ) u p v (xs := xs) (fun y hy => h y (List.mem_cons_of_mem _ hy))
    rw [List.map_cons, compL, e1, R.bind_ok, e2, R.bind_ok]
    cases hp : p x with
    | true => rw [if_pos rfl, e3 hp, R.bind_ok, ih, List.filter_cons_of_pos hp]; rfl
    | false => rw [if_neg (by decide), ih, List.filter_cons_of_neg (by rw [hp]; decide)]
theorem eComp_ok {it : Itr} {n : Nat} {fv : List Nat} {tg : Tgt} {cs : List Tst} {el : Ex} {ρ : En} {ds ys : List D} (hi : it ρ = .ok ds) (hl : ds.length ≤ 16777216) (hc : compL tg cs el (List.replicate n .un ++ frees ρ fv) ds = .ok ys) : eComp it n fv tg cs el ρ = .ok (.lst ys) := by
  show (it ρ).bind _ = _
  rw [hi, R.bind_ok, if_pos hl, hc]; rfl
theorem for_seq {it : Itr} {tg : Tgt} {body : Sm} {ρ : En} {ds : List D} {r : R Fl} (hi : it ρ = .ok ds) (h : forL tg body ds ρ = r) : sFor it tg body ρ = r := by
  show (it ρ).bind _ = _
  rw [hi, R.bind_ok, h]
theorem fnN_ret {n : Nat} {b : Sm} {ds xs : List D} (h : b (ds.map .sh ++ List.replicate (n - ds.length) .un) = .ok (.retN (.lst xs))) : fnN n b ds = .ok (.lst xs) := by
  unfold fnN; rw [h]; rfl
theorem s_pop {j i : Nat} {a : Ex} {ρ : En} {k : Int} {m : Nat} {y : D} {xs : List D} (h : a ρ = .ok (.int k)) (hi : ρ[i]? = some (.ol xs)) (hm : ixN xs.length k = some m) (hy : xs[m]? = some y) (hk : inR k = true) : sPop j i a ρ = .ok (.next ((ρ.set i (.ol (xs.eraseIdx m))).set j (.sh y))) := by
  simp only [sPop, h, R.bind_ok, hi, hm, hy]
  exact if_pos hk
theorem e_lenL {i : Nat} {ρ : En} {xs : List D} (hi : ρ[i]? = some (.ol xs)) : eLenL i ρ = .ok (.int xs.length) := by
  simp only [eLenL, hi]
end G
end PL
set_option linter.all false
set_option maxRecDepth 4000
set_option Elab.async false
set_option maxHeartbeats 400000
namespace PL
namespace K54
open PySem G
/-! ### turns as plain lists -/
abbrev Pr := Int × Int
def pr (x : Pr) : D := .tup [.int x.1, .int x.2]
def rowD (r : List Pr) : D := .lst (r.map pr)
def tD (T : List (List Pr)) : D := .tup (T.map rowD)
/-- small enough to be walked -/
def Small (T : List (List Pr)) : Prop := T.length ≤ 1000 ∧ ∀ r ∈ T, r.length ≤ 1000
def without (t : Int) (r : List Pr) : List Pr := r.filter fun x => !decide (x.1 = t)
theorem ne_intK (i j : Int) : oNe (.int i) (.int j) = .ok (.bl (!decide (i = j))) := by
  unfold oNe
  rw [neOk_int_int, if_pos rfl]; rfl
theorem inner_out {r : List Pr} {t : Int} (h : r.length ≤ 1000) : (eComp (iSeq (eVar 0)) 1 [1] (gName 0) [tV (e2 oNe (e2 oIx (eVar 0) (eC (.int 0))) (eVar 1))] (eVar 0)) [.sh (rowD r), .sh (.int t)] = .ok (rowD (without t r)) := by
  refine eComp_ok (ds := r.map pr) rfl (by rw [List.length_map]; omega) ?_
  show compL _ _ _ [.un, .sh (.int t)] _ = _
  refine compL_filter pr (fun x => !decide (x.1 = t)) pr fun x _ => ⟨[.sh (pr x), .sh (.int t)], rfl, ?_, fun _ => rfl⟩
  show ((tV (e2 oNe (e2 oIx (eVar 0) (eC (.int 0))) (eVar 1))) [.sh (pr x), .sh (.int t)]).bind _ = _
  rw [t_v (e_two (x := .int x.1) (y := .int t) (e_two (x := pr x) (y := .int 0) rfl rfl rfl) rfl (ne_intK _ _)), R.bind_ok]
  cases (!decide (x.1 = t)) <;> rfl
theorem taken_out_ok {T : List (List Pr)} {t : Int} (h : Small T) : m_taken_out [tD T, .int t] = .ok (tD (T.map (without t))) := by
  rw [m_taken_out]
  refine fn_ret (s_ret (e_one (x := .lst ((T.map (without t)).map rowD)) (eComp_ok (ds := T.map rowD) rfl (by rw [List.length_map]; have := h.1; omega) ?_) rfl))
  show compL _ _ _ [.un, .sh (.int t)] _ = _
  rw [List.map_map]
  exact compL_map rowD (fun r => rowD (without t r)) fun r hr => ⟨[.sh (rowD r), .sh (.int t)], rfl, inner_out (h.2 r hr)⟩
theorem without_len (t : Int) (r : List Pr) : (without t r).length ≤ r.length := List.length_filter_le _ _
theorem Small.out {T : List (List Pr)} (h : Small T) (t : Int) : Small (T.map (without t)) := by
  refine ⟨by rw [List.length_map]; exact h.1, fun r hr => ?_⟩
  obtain ⟨q, hq, rfl⟩ := List.mem_map.mp hr
  exact Nat.le_trans (without_len t q) (h.2 q hq)
/-- (t, 0) at the end of the row k -/
def ready (T : List (List Pr)) (t : Int) (k : Nat) : List (List Pr) := (T.take k) ++ [(T.getD k []) ++ [(t, 0)]] ++ T.drop (k + 1)
theorem made_ready_ok {T : List (List Pr)} {t : Int} {k : Nat} (h : Small T) (hk : k < T.length) (h2 : 2 ≤ T.length) : m_made_ready [tD T, .int t, .int k] = .ok (tD (ready (T.map (without t)) t k)) := by
  have ho := taken_out_ok (t := t) h
  have hs := h.out t
  have hl : (T.map (without t)).length = T.length := List.length_map _
  generalize T.map (without t) = U at ho hs hl
  have hkU : k < U.length := by omega
  have hU := hs.1
  have lU : (U.map rowD).length = U.length := List.length_map _
  rw [m_made_ready]
  refine fn_ret ?_
  show sBlk _ [.sh (tD T), .sh (.int t), .sh (.int k), .un] = _
  rw [blk (s_asg (d := tD U) (e_call2 rfl rfl ho))]
  show sBlk _ [.sh (tD T), .sh (.int t), .sh (.int k), .sh (tD U)] = _
  have s1 : oSl none (some (k : Int)) (tD U) = .ok (.tup ((U.map rowD).take k)) := by
    unfold tD
    show (if sIx (U.map rowD).length 0 none = 0 ∧ sIx (U.map rowD).length (U.map rowD).length (some (k : Int)) = (U.map rowD).length then R.bad else R.ok (D.tup (cut (U.map rowD) none (some (k : Int))))) = _
    rw [if_neg (by rw [sIx_pos (by omega), lU]; rintro ⟨_, q⟩; omega), cut_to _ (by omega)]
    rfl
  have s2 : oSl (some ((k : Int) + 1)) none (tD U) = .ok (.tup ((U.map rowD).drop (k + 1))) := by
    unfold tD
    show (if sIx (U.map rowD).length 0 (some ((k : Int) + 1)) = 0 ∧ sIx (U.map rowD).length (U.map rowD).length none = (U.map rowD).length then R.bad else R.ok (D.tup (cut (U.map rowD) (some ((k : Int) + 1)) none))) = _
    rw [if_neg (by rw [sIx_pos (by omega), lU]; rintro ⟨q, _⟩; omega), cut_from _ (by omega)]
    rfl
  have hg : U.getD k [] = U[k] := by rw [List.getD_eq_getElem?_getD, List.getElem?_eq_getElem hkU]; rfl
  have e1 : (e2 oIx (eVar 3) (eVar 2)) [.sh (tD T), .sh (.int t), .sh (.int k), .sh (tD U)] = .ok (rowD (U.getD k [])) := e_two (x := tD U) (y := .int k) rfl rfl (ix_tup (by rw [atI_nat (by rw [lU]; exact hkU), List.getElem_map, hg]))
  have hrow : (U.getD k []).length ≤ 1000 := by rw [hg]; exact hs.2 _ (List.getElem_mem hkU)
  have e2' : (e2 oAdd (e2 oIx (eVar 3) (eVar 2)) (eLst [eTup [eVar 1, eC (.int 0)]])) [.sh (tD T), .sh (.int t), .sh (.int k), .sh (tD U)] = .ok (rowD (U.getD k [] ++ [(t, 0)])) := by
    refine e_two (x := rowD (U.getD k [])) (y := .lst [pr (t, 0)]) e1 (e_lst1 (e_tup2 rfl rfl)) ?_
    unfold rowD
    rw [G.add_lst (by rw [List.length_map]; simp only [List.length_cons, List.length_nil]; omega), List.map_append]; rfl
  have e3 : (eTup [e2 oAdd (e2 oIx (eVar 3) (eVar 2)) (eLst [eTup [eVar 1, eC (.int 0)]])]) [.sh (tD T), .sh (.int t), .sh (.int k), .sh (tD U)] = .ok (.tup [rowD (U.getD k [] ++ [(t, 0)])]) := by
    show (eList [_] _).bind _ = _
    simp only [eList, e2', R.bind_ok]
  have e4 : oAddE (.tup ((U.map rowD).take k)) (.tup [rowD (U.getD k [] ++ [(t, 0)])]) = .ok (.tup ((U.map rowD).take k ++ [rowD (U.getD k [] ++ [(t, 0)])])) := by
    cases hc : (U.map rowD).take k with
    | nil => rfl
    | cons a l =>
      show (if _ then _ else _) = _
      have hll : (a :: l).length ≤ 1000 := by rw [← hc, List.length_take, lU]; omega
      rw [if_pos ⟨rfl, by show (a :: l).length + 1 ≤ 16777216; omega⟩]
  refine blk_ret (s_ret ((e_two (o := oAdd) (e_two (o := oAddE) s1 e3 e4) s2 ?_)))
  have ne : ((U.map rowD).take k ++ [rowD (U.getD k [] ++ [(t, 0)])]).isEmpty = false := by simp
  show (if _ then _ else _) = _
  rw [if_pos ⟨ne, by
    rw [List.length_append, List.length_take, List.length_drop, lU]
    show _ ≤ 16777216
    simp only [List.length_cons, List.length_nil]
    omega⟩]
  unfold tD ready
  simp only [List.map_append, List.map_take, List.map_drop, List.map_cons, List.map_nil]
/-! ### the next turn -/
def up (r : List Pr) : List Pr := r.map fun x => (x.1, x.2 + 1)
def late (r : List Pr) : List Pr := r.filter fun x => decide (x.2 = 8)
def early (r : List Pr) : List Pr := r.filter fun x => decide (x.2 < 8)
/-- all but the one that runs have been passed once more -/
def passed (T : List (List Pr)) : List (List Pr) := ((T.take 4).map up).map early ++ [T.getD 4 [] ++ ((((T.take 4).map up).reverse).map late).flatten]
theorem late_ok {r : List Pr} {ρ : En} {i : Nat} (hi : (eVar i) ρ = .ok (rowD r)) (h : r.length ≤ 1000) : (eComp (iSeq (eVar i)) 1 [] (gName 0) [tV (e2 oEq (e2 oIx (eVar 0) (eC (.int 1))) (eC g_MOST_PASSED))] (eVar 0)) ρ = .ok (rowD (late r)) := by
  refine eComp_ok (ds := r.map pr) (by show ((eVar i) ρ).bind _ = _; rw [hi]; rfl) (by rw [List.length_map]; omega) ?_
  show compL _ _ _ [.un] _ = _
  refine compL_filter pr (fun x => decide (x.2 = 8)) pr fun x _ => ⟨[.sh (pr x)], rfl, ?_, fun _ => rfl⟩
  show ((tV (e2 oEq (e2 oIx (eVar 0) (eC (.int 1))) (eC g_MOST_PASSED))) [.sh (pr x)]).bind _ = _
  rw [t_v (e_two (x := .int x.2) (y := .int 8) (e_two (x := pr x) (y := .int 1) rfl rfl rfl) rfl (eq_int _ _)), R.bind_ok]
  cases decide (x.2 = 8) <;> rfl
theorem early_ok {r : List Pr} (h : r.length ≤ 1000) : (eComp (iSeq (eVar 0)) 1 [] (gName 0) [tV (e2 oLt (e2 oIx (eVar 0) (eC (.int 1))) (eC g_MOST_PASSED))] (eVar 0)) [.sh (rowD r)] = .ok (rowD (early r)) := by
  refine eComp_ok (ds := r.map pr) rfl (by rw [List.length_map]; omega) ?_
  show compL _ _ _ [.un] _ = _
  refine compL_filter pr (fun x => decide (x.2 < 8)) pr fun x _ => ⟨[.sh (pr x)], rfl, ?_, fun _ => rfl⟩
  show ((tV (e2 oLt (e2 oIx (eVar 0) (eC (.int 1))) (eC g_MOST_PASSED))) [.sh (pr x)]).bind _ = _
  rw [t_v (e_two (x := .int x.2) (y := .int 8) (e_two (x := pr x) (y := .int 1) rfl rfl rfl) rfl (lt_int _ _)), R.bind_ok]
  cases decide (x.2 < 8) <;> rfl
theorem up_ok {r : List Pr} (h : r.length ≤ 1000) : (eComp (iSeq (eVar 0)) 2 [] (gTup [0, 1]) [] (eTup [eVar 0, e2 oAdd (eVar 1) (eC (.int 1))])) [.sh (rowD r)] = .ok (rowD (up r)) := by
  refine eComp_ok (ds := r.map pr) rfl (by rw [List.length_map]; omega) ?_
  show compL _ _ _ [.un, .un] _ = _
  unfold up
  rw [List.map_map]
  exact compL_map pr (fun x : Pr => pr (x.1, x.2 + 1)) fun x _ => ⟨[.sh (.int x.1), .sh (.int x.2)], rfl, e_tup2 rfl (e_add rfl rfl)⟩
theorem fifth_loop {a0 a1 s4 : Slot} : ∀ (rs : List (List Pr)) (acc : List Pr) (s3 : Slot), (∀ r ∈ rs, r.length ≤ 1000) → acc.length + 1000 * rs.length ≤ 100000 → ∃ t3, forL (gName 3) m_passed_on_l1 (rs.map rowD) [a0, a1, .ol (acc.map pr), s3, s4] = .ok (.next [a0, a1, .ol ((acc ++ (rs.map late).flatten).map pr), t3, s4])
  | [], acc, s3, _, _ => ⟨s3, by simp [forL]⟩
  | r :: rs, acc, s3, h, hl => by
    have hr := h r List.mem_cons_self
    have hlate : (late r).length ≤ 1000 := Nat.le_trans (List.length_filter_le _ _) hr
    rw [List.length_cons] at hl
    obtain ⟨t3, ih⟩ := fifth_loop (a0 := a0) (a1 := a1) (s4 := s4) rs (acc ++ late r) (.sh (rowD r)) (fun q hq => h q (List.mem_cons_of_mem _ hq)) (by rw [List.length_append]; omega)
    refine ⟨t3, ?_⟩
    rw [List.map_cons, forL]
    show ((m_passed_on_l1 [a0, a1, .ol (acc.map pr), .sh (rowD r), s4]).bind _) = _
    have e : m_passed_on_l1 [a0, a1, .ol (acc.map pr), .sh (rowD r), s4] = .ok (.next [a0, a1, .ol ((acc ++ late r).map pr), .sh (rowD r), s4]) := by
      rw [m_passed_on_l1]
      show ((eComp _ _ _ _ _ _) [a0, a1, .ol (acc.map pr), .sh (rowD r), s4]).bind _ = _
      rw [late_ok (i := 3) (r := r) rfl hr, R.bind_ok]
      show (if (acc.map pr).length + ((late r).map pr).length ≤ szL then _ else _) = _
      rw [if_pos (by rw [List.length_map, List.length_map]; show _ ≤ 16777216; omega), List.map_append]
      rfl
    rw [e, R.bind_ok]
    refine ih.trans ?_
    simp only [List.map_cons, List.flatten_cons, List.append_assoc]
theorem passed_on_ok {T : List (List Pr)} (h : Small T) (h5 : T.length = 5) : m_passed_on [tD T] = .ok (tD (passed T)) := by
  have lT : (T.map rowD).length = 5 := by rw [List.length_map]; exact h5
  have h4 : (T.take 4).length = 4 := by rw [List.length_take]; omega
  have hU : ∀ r ∈ (T.take 4).map up, r.length ≤ 1000 := fun r hr => by
    obtain ⟨q, hq, rfl⟩ := List.mem_map.mp hr
    unfold up
    rw [List.length_map]; exact h.2 q (List.mem_of_mem_take hq)
  have lU : ((T.take 4).map up).length = 4 := by rw [List.length_map]; exact h4
  have hg : T.getD 4 [] = T[4] := by rw [List.getD_eq_getElem?_getD, List.getElem?_eq_getElem (by omega)]; rfl
  have hfl : (T.getD 4 []).length ≤ 1000 := by rw [hg]; exact h.2 _ (List.getElem_mem _)
  have s1 : oSl none (some 4) (tD T) = .ok (.tup ((T.take 4).map rowD)) := by
    unfold tD
    show (if sIx (T.map rowD).length 0 none = 0 ∧ sIx (T.map rowD).length (T.map rowD).length (some 4) = (T.map rowD).length then R.bad else R.ok (D.tup (cut (T.map rowD) none (some 4)))) = _
    rw [if_neg (by rw [sIx_pos (by decide), lT]; rintro ⟨_, q⟩; exact absurd q (by decide)), cut_to _ (by decide), List.map_take]
    rfl
  have eU : (eComp (iSeq (eSl (eVar 0) none (some (eC g_RANKS)))) 1 [] (gName 0) [] (eComp (iSeq (eVar 0)) 2 [] (gTup [0, 1]) [] (eTup [eVar 0, e2 oAdd (eVar 1) (eC (.int 1))]))) [.sh (tD T), .un, .un, .un, .un] = .ok (.lst (((T.take 4).map up).map rowD)) := by
    refine eComp_ok (ds := (T.take 4).map rowD) (by
      show ((eSl (eVar 0) none (some (eC g_RANKS))) [.sh (tD T), .un, .un, .un, .un]).bind _ = _
      rw [show (eSl (eVar 0) none (some (eC g_RANKS))) [.sh (tD T), .un, .un, .un, .un] = .ok (.tup ((T.take 4).map rowD)) from s1]; rfl) (by rw [List.length_map]; omega) ?_
    show compL _ _ _ [.un] _ = _
    rw [List.map_map]
    exact compL_map rowD (fun r => rowD (up r)) fun r hr => ⟨[.sh (rowD r)], rfl, up_ok (h.2 r (List.mem_of_mem_take hr))⟩
  generalize hUd : (T.take 4).map up = U at eU hU lU
  obtain ⟨t3, eL⟩ := fifth_loop (a0 := .sh (tD T)) (a1 := .sh (.lst (U.map rowD))) (s4 := .un) U.reverse (T.getD 4 []) .un (fun r hr => hU r (List.mem_reverse.mp hr)) (by rw [List.length_reverse]; omega)
  rw [m_passed_on]
  refine fn_ret ?_
  show sBlk _ [.sh (tD T), .un, .un, .un, .un] = _
  rw [blk (s_asg eU)]
  show sBlk _ [.sh (tD T), .sh (.lst (U.map rowD)), .un, .un, .un] = _
  rw [blk (s_own (xs := (T.getD 4 []).map pr) (e_one (o := oList) (x := rowD (T.getD 4 [])) (e_two (x := tD T) (y := .int 4) rfl rfl (ix_tup (by
    rw [show ((4 : Int)) = ((4 : Nat) : Int) from rfl, atI_nat (by rw [lT]; decide), List.getElem_map, hg]))) rfl))]
  show sBlk _ [.sh (tD T), .sh (.lst (U.map rowD)), .ol ((T.getD 4 []).map pr), .un, .un] = _
  rw [blk (a := sFor _ _ _) (for_seq (ds := U.reverse.map rowD) (by show R.ok (U.map rowD).reverse = _; rw [List.map_reverse]) eL)]
  rw [blk (s_asg (d := .lst ((U.map early).map rowD)) (eComp_ok (ds := U.map rowD) rfl (by rw [List.length_map]; omega) (by
    show compL _ _ _ [.un] _ = _
    rw [List.map_map]
    exact compL_map rowD (fun r => rowD (early r)) fun r hr => ⟨[.sh (rowD r)], rfl, early_ok (hU r hr)⟩)))]
  show sBlk _ [.sh (tD T), .sh (.lst (U.map rowD)), .ol ((T.getD 4 [] ++ (U.reverse.map late).flatten).map pr), t3, .sh (.lst ((U.map early).map rowD))] = _
  rw [blk (ρ' := [.sh (tD T), .sh (.lst (U.map rowD)), .sh (rowD (T.getD 4 [] ++ (U.reverse.map late).flatten)), t3, .sh (.lst ((U.map early).map rowD))]) rfl]
  refine blk_ret (s_ret (e_one (x := .lst ((U.map early).map rowD ++ [rowD (T.getD 4 [] ++ (U.reverse.map late).flatten)])) (e_two (x := .lst ((U.map early).map rowD)) rfl (e_lst1 rfl) (G.add_lst (by rw [List.length_map, List.length_map]; simp only [List.length_cons, List.length_nil]; omega))) ?_))
  unfold tD passed
  rw [hUd]
  simp only [List.map_append, List.map_cons, List.map_nil]
  rfl
end K54
end PL
set_option linter.all false
set_option maxRecDepth 4000
set_option Elab.async false
set_option maxHeartbeats 400000
namespace PL
namespace K54
open PySem G
/-- the rows that are not empty, the greatest first -/
def full (T : List (List Pr)) : List (List Pr) := T.reverse.filter fun r => decide (0 < (r.length : Int))
theorem rows_ok {T : List (List Pr)} (h : Small T) {s1 s2 : Slot} : (eComp (iRevA (eVar 0)) 1 [] (gName 0) [tV (e2 oGt (e1 oLen (eVar 0)) (eC (.int 0)))] (eVar 0)) [.sh (tD T), s1, s2] = .ok (.lst ((full T).map rowD)) := by
  have hT := h.1
  refine eComp_ok (ds := T.reverse.map rowD) (by show R.ok (T.map rowD).reverse = _; rw [List.map_reverse]) (by rw [List.length_map, List.length_reverse]; omega) ?_
  show compL _ _ _ [.un] _ = _
  refine compL_filter rowD (fun r => decide (0 < (r.length : Int))) rowD fun r _ => ⟨[.sh (rowD r)], rfl, ?_, fun _ => rfl⟩
  have e : (tV (e2 oGt (e1 oLen (eVar 0)) (eC (.int 0)))) [.sh (rowD r)] = .ok (decide (0 < (r.length : Int))) := t_v (e_two (x := .int r.length) (y := .int 0) (e_one (x := rowD r) rfl (by unfold rowD; show R.ok (D.int ((r.map pr).length : Int)) = _; rw [List.length_map])) rfl rfl)
  show ((tV (e2 oGt (e1 oLen (eVar 0)) (eC (.int 0)))) [.sh (rowD r)]).bind _ = _
  rw [e, R.bind_ok]
  cases decide (0 < (r.length : Int)) <;> rfl
theorem next_none {T : List (List Pr)} (h : Small T) (hf : full T = []) : m_next_turn [tD T] = .ok (.tup [tD T, .non]) := by
  have e := rows_ok (s1 := .un) (s2 := .un) h
  rw [hf] at e
  rw [m_next_turn]
  refine fn_ret ?_
  show sBlk _ [.sh (tD T), .un, .un] = _
  rw [blk (s_asg e)]
  show sBlk _ [.sh (tD T), .sh (.lst []), .un] = _
  refine blk_ret ?_
  rw [sIf_t (t_v (e_two (x := .int 0) (y := .int 0) rfl rfl (by rw [eq_int]; rfl)))]
  exact s_ret (e_tup2 rfl rfl)
theorem next_some {T : List (List Pr)} (h : Small T) (h5 : T.length = 5) {t p : Int} {r : List Pr} {rest : List (List Pr)} (hf : full T = ((t, p) :: r) :: rest) : m_next_turn [tD T] = .ok (.tup [tD (passed (T.map (without t))), .int t]) := by
  have e := rows_ok (s1 := .un) (s2 := .un) h
  rw [hf] at e
  obtain ⟨R', hR'⟩ : ∃ R', rest.map rowD = R' := ⟨_, rfl⟩
  rw [List.map_cons, hR'] at e
  rw [m_next_turn]
  refine fn_ret ?_
  show sBlk _ [.sh (tD T), .un, .un] = _
  rw [blk (s_asg e)]
  show sBlk _ [.sh (tD T), .sh (.lst (rowD ((t, p) :: r) :: R')), .un] = _
  rw [blk (sIf_nil (t_v (e_two (x := .int ((R'.length : Int) + 1)) (y := .int 0) rfl rfl (by rw [eq_int, decide_eq_false (by omega)]))))]
  rw [blk (s_asg (d := .int t) (e_two (x := pr (t, p)) (y := .int 0) (e_two (x := rowD ((t, p) :: r)) (y := .int 0) (e_two (x := .lst (rowD ((t, p) :: r) :: R')) (y := .int 0) rfl rfl (ix_lst (by
      have := atI_nat (xs := rowD ((t, p) :: r) :: R') (j := 0) (by simp)
      exact this))) rfl (ix_lst (by
      have := atI_nat (xs := pr (t, p) :: r.map pr) (j := 0) (by simp)
      exact this))) rfl rfl))]
  show sBlk _ [.sh (tD T), .sh (.lst (rowD ((t, p) :: r) :: R')), .sh (.int t)] = _
  exact blk_ret (s_ret (e_tup2 (e_call1 (e_call2 rfl rfl (taken_out_ok h)) (passed_on_ok (h.out t) (by rw [List.length_map]; exact h5))) rfl))
/-- the place and the count of w in a row, counted from j -/
def inRow (w : Int) : Int → List Pr → Option (Int × Int)
  | _, [] => none
  | j, x :: r => if x.1 = w then some (j, x.2) else inRow w (j + 1) r
def stands (w : Int) : Int → List (List Pr) → Option (Int × Int × Int)
  | _, [] => none
  | i, r :: T => match inRow w 0 r with
    | some (j, p) => some (i, j, p)
    | none => stands w (i + 1) T
theorem row_loop {w i : Int} {a0 a3 : Slot} : ∀ (r : List Pr) (j : Int) (s4 s5 : Slot), ∃ t4 t5, forL (gTup [4, 5]) m_standing_l1 (enumC j (r.map pr)) [a0, .sh (.int w), .sh (.int i), a3, s4, s5] = .ok (match inRow w j r with
    | some (k, p) => .ret (.tup [.int i, .int k, .int p])
    | none => .next [a0, .sh (.int w), .sh (.int i), a3, t4, t5])
  | [], j, s4, s5 => ⟨s4, s5, rfl⟩
  | x :: r, j, s4, s5 => by
    obtain ⟨t4, t5, ih⟩ := row_loop (w := w) (i := i) (a0 := a0) (a3 := a3) r (j + 1) (.sh (.int j)) (.sh (pr x))
    refine ⟨t4, t5, ?_⟩
    show ((m_standing_l1 [a0, .sh (.int w), .sh (.int i), a3, .sh (.int j), .sh (pr x)]).bind _) = _
    have et : (tV (e2 oEq (e2 oIx (eVar 5) (eC (.int 0))) (eVar 1))) [a0, .sh (.int w), .sh (.int i), a3, .sh (.int j), .sh (pr x)] = .ok (decide (x.1 = w)) := t_v (e_two (x := .int x.1) (y := .int w) (e_two (x := pr x) (y := .int 0) rfl rfl rfl) rfl (eq_int _ _))
    by_cases hx : x.1 = w
    · rw [decide_eq_true hx] at et
      rw [m_standing_l1, sIf_t et, s_ret (d := .tup [.int i, .int j, .int x.2]) (by rfl)]
      simp only [inRow, if_pos hx, R.bind_ok]
    · rw [decide_eq_false hx] at et
      rw [m_standing_l1, sIf_nil et]
      simp only [inRow, if_neg hx, R.bind_ok]
      exact ih
theorem rows_loop {w : Int} {a0 : Slot} : ∀ (T : List (List Pr)) (i : Int) (s2 s3 s4 s5 : Slot), ∃ t2 t3 t4 t5, forL (gTup [2, 3]) m_standing_l2 (enumC i (T.map rowD)) [a0, .sh (.int w), s2, s3, s4, s5] = .ok (match stands w i T with
    | some (i, k, p) => .ret (.tup [.int i, .int k, .int p])
    | none => .next [a0, .sh (.int w), t2, t3, t4, t5])
  | [], i, s2, s3, s4, s5 => ⟨s2, s3, s4, s5, rfl⟩
  | r :: T, i, s2, s3, s4, s5 => by
    obtain ⟨u4, u5, e⟩ := row_loop (w := w) (i := i) (a0 := a0) (a3 := .sh (rowD r)) r 0 s4 s5
    obtain ⟨t2, t3, t4, t5, ih⟩ := rows_loop (w := w) (a0 := a0) T (i + 1) (.sh (.int i)) (.sh (rowD r)) u4 u5
    refine ⟨t2, t3, t4, t5, ?_⟩
    have e2 := show m_standing_l2 [a0, .sh (.int w), .sh (.int i), .sh (rowD r), s4, s5] = _ from for_seq (ds := enumC 0 (r.map pr)) rfl e
    show ((m_standing_l2 [a0, .sh (.int w), .sh (.int i), .sh (rowD r), s4, s5]).bind _) = _
    rw [e2, R.bind_ok]
    cases hr : inRow w 0 r with
    | none =>
      simp only [stands, hr]
      exact ih
    | some q => simp only [stands, hr]
def stD : Option (Int × Int × Int) → D
  | some (i, j, p) => .tup [.int i, .int j, .int p]
  | none => .non
theorem standing_ok (T : List (List Pr)) (w : Int) : m_standing [tD T, .int w] = .ok (stD (stands w 0 T)) := by
  obtain ⟨t2, t3, t4, t5, e⟩ := rows_loop (w := w) (a0 := .sh (tD T)) T 0 .un .un .un .un
  rw [m_standing]
  refine fn_ret ?_
  show sBlk _ [.sh (tD T), .sh (.int w), .un, .un, .un, .un] = _
  have e1 : (sFor (iEnumC 0 (eVar 0)) (gTup [2, 3]) m_standing_l2) [.sh (tD T), .sh (.int w), .un, .un, .un, .un] = _ := for_seq (ds := enumC 0 (T.map rowD)) rfl e
  cases hs : stands w 0 T with
  | none =>
    rw [hs] at e1
    rw [blk e1]
    exact blk_ret (s_ret rfl)
  | some q =>
    rw [hs] at e1
    exact blk_ret e1
end K54
end PL
set_option linter.all false
set_option maxRecDepth 4000
set_option Elab.async false
set_option maxHeartbeats 400000
namespace PL
namespace K54
open PySem G
/-- the pigeon holes -/
theorem holes : ∀ {l m : List Int}, l.Nodup → (∀ x ∈ l, x ∈ m) → l.length ≤ m.length
  | [], m, _, _ => Nat.zero_le _
  | x :: l, m, hn, h => by
    have hx := h x List.mem_cons_self
    have hn' := List.nodup_cons.mp hn
    have := holes (l := l) (m := m.erase x) hn'.2 fun y hy => (List.mem_erase_of_ne (fun c : y = x => hn'.1 (c ▸ hy))).mpr (h y (List.mem_cons_of_mem _ hy))
    rw [List.length_erase_of_mem hx] at this
    have := List.length_pos_of_mem hx
    simp only [List.length_cons]
    omega
/-- what always holds of the turns -/
structure Inv (T : List (List Pr)) : Prop where
  five : T.length = 5
  nod : (T.flatten.map Prod.fst).Nodup
  task : ∀ x ∈ T.flatten, 1 ≤ x.1 ∧ x.1 ≤ 15
  low : ∀ r ∈ T.take 4, ∀ x ∈ r, 0 ≤ x.2 ∧ x.2 < 8
  top : ∀ r ∈ T.drop 4, ∀ x ∈ r, x.2 = 8
theorem Inv.most {T : List (List Pr)} (h : Inv T) : T.flatten.length ≤ 15 := by
  have := holes (m := [1, 2, 3, 4, 5, 6, 7, 8, 9, 10, 11, 12, 13, 14, 15]) h.nod fun y hy => by
    obtain ⟨x, hx, rfl⟩ := List.mem_map.mp hy
    have := h.task x hx
    simp only [List.mem_cons, List.not_mem_nil, or_false]
    omega
  rw [List.length_map] at this
  exact this
theorem row_flat {r : List Pr} : ∀ {T : List (List Pr)}, r ∈ T → r.length ≤ T.flatten.length
  | q :: T, h => by
    rw [List.flatten_cons, List.length_append]
    rcases List.mem_cons.mp h with rfl | h
    · omega
    · have := row_flat h; omega
theorem Inv.small {T : List (List Pr)} (h : Inv T) : Small T := ⟨by rw [h.five]; decide, fun r hr => by have := row_flat hr; have := h.most; omega⟩
theorem without_sub (t : Int) : ∀ T : List (List Pr), (T.map (without t)).flatten.Sublist T.flatten
  | [] => .slnil
  | r :: T => by
    rw [List.map_cons, List.flatten_cons, List.flatten_cons]
    exact List.Sublist.append List.filter_sublist (without_sub t T)
theorem Inv.out {T : List (List Pr)} (h : Inv T) (t : Int) : Inv (T.map (without t)) where
  five := by rw [List.length_map]; exact h.five
  nod := (List.Sublist.map _ (without_sub t T)).nodup h.nod
  task := fun x hx => h.task x ((without_sub t T).subset hx)
  low := fun r hr x hx => by
    rw [← List.map_take] at hr
    obtain ⟨q, hq, rfl⟩ := List.mem_map.mp hr
    exact h.low q hq x (List.mem_filter.mp hx).1
  top := fun r hr x hx => by
    rw [← List.map_drop] at hr
    obtain ⟨q, hq, rfl⟩ := List.mem_map.mp hr
    exact h.top q hq x (List.mem_filter.mp hx).1
theorem out_not {T : List (List Pr)} {t : Int} : ∀ x ∈ (T.map (without t)).flatten, x.1 ≠ t := fun x hx => by
  obtain ⟨r, hr, hx⟩ := List.mem_flatten.mp hx
  obtain ⟨q, hq, rfl⟩ := List.mem_map.mp hr
  have := (List.mem_filter.mp hx).2
  intro c
  rw [decide_eq_true c] at this
  exact absurd this (by decide)
theorem five_rows {T : List (List Pr)} (h : T.length = 5) : ∃ a b c d e, T = [a, b, c, d, e] := by
  match T, h with
  | [a, b, c, d, e], _ => exact ⟨a, b, c, d, e, rfl⟩
theorem ready_perm {T : List (List Pr)} {t : Int} {k : Nat} (hk : k < T.length) : (ready T t k).flatten.Perm ((t, 0) :: T.flatten) := by
  have hT : T = T.take k ++ [T.getD k []] ++ T.drop (k + 1) := by
    have hg : T.getD k [] = T[k] := by rw [List.getD_eq_getElem?_getD, List.getElem?_eq_getElem hk]; rfl
    rw [hg, List.append_assoc, List.singleton_append, List.getElem_cons_drop, List.take_append_drop]
  unfold ready
  generalize T.take k = X at *
  generalize T.getD k [] = r at *
  generalize T.drop (k + 1) = Y at *
  rw [hT]
  simp only [List.flatten_append, List.flatten_cons, List.flatten_nil, List.append_nil, List.append_assoc]
  refine List.Perm.trans ?_ (List.perm_middle (a := (t, (0 : Int))) (l₁ := X.flatten ++ r) (l₂ := Y.flatten) |>.trans (by rw [List.append_assoc]))
  simp
theorem Inv.rdy {T : List (List Pr)} (h : Inv T) {t : Int} {k : Nat} (hk : k < 4) (h1 : 1 ≤ t) (h2 : t ≤ 15) : Inv (ready (T.map (without t)) t k) := by
  have ho := h.out t
  have hno := out_not (T := T) (t := t)
  generalize T.map (without t) = U at ho hno
  have hp := ready_perm (T := U) (t := t) (k := k) (by rw [ho.five]; omega)
  refine ⟨?_, ?_, ?_, ?_, ?_⟩
  · have := ho.five
    simp only [ready, List.length_append, List.length_take, List.length_drop, List.length_cons, List.length_nil]
    omega
  · refine (List.Perm.nodup_iff (hp.map Prod.fst)).mpr ?_
    rw [List.map_cons, List.nodup_cons]
    refine ⟨fun c => ?_, ho.nod⟩
    obtain ⟨x, hx, e⟩ := List.mem_map.mp c
    exact hno x hx e
  · intro x hx
    rcases List.mem_cons.mp (hp.mem_iff.mp hx) with rfl | hx
    · exact ⟨h1, h2⟩
    · exact ho.task x hx
  · obtain ⟨a, b, c, d, e, rfl⟩ := five_rows ho.five
    have hl := ho.low
    intro r hr x hx
    have hl' : ∀ r ∈ [a, b, c, d], ∀ x ∈ r, 0 ≤ x.2 ∧ x.2 < 8 := hl
    simp only [List.mem_cons, List.not_mem_nil, or_false, forall_eq_or_imp, forall_eq] at hl'
    match k, hk with
    | 0, _ | 1, _ | 2, _ | 3, _ =>
      simp [ready] at hr
      rcases hr with rfl | rfl | rfl | rfl <;>
      first
        | exact hl'.1 x hx
        | exact hl'.2.1 x hx
        | exact hl'.2.2.1 x hx
        | exact hl'.2.2.2 x hx
        | (rcases List.mem_append.mp hx with hx | hx
           · first
              | exact hl'.1 x hx
              | exact hl'.2.1 x hx
              | exact hl'.2.2.1 x hx
              | exact hl'.2.2.2 x hx
           · rw [List.mem_singleton.mp hx]; exact ⟨by show (0 : Int) ≤ 0; decide, by show (0 : Int) < 8; decide⟩)
  · obtain ⟨a, b, c, d, e, rfl⟩ := five_rows ho.five
    have ht := ho.top
    intro r hr x hx
    match k, hk with
    | 0, _ | 1, _ | 2, _ | 3, _ => exact ht r hr x hx
theorem up_cons (x : Pr) (r : List Pr) : up (x :: r) = (x.1, x.2 + 1) :: up r := rfl
theorem early_cons (x : Pr) (r : List Pr) : early (x :: r) = if x.2 < 8 then x :: early r else early r := by
  unfold early
  rw [List.filter_cons]
  by_cases h : x.2 < 8
  · rw [if_pos h, if_pos (decide_eq_true h)]
  · rw [if_neg h, if_neg (by rw [decide_eq_false h]; decide)]
theorem late_cons (x : Pr) (r : List Pr) : late (x :: r) = if x.2 = 8 then x :: late r else late r := by
  unfold late
  rw [List.filter_cons]
  by_cases h : x.2 = 8
  · rw [if_pos h, if_pos (decide_eq_true h)]
  · rw [if_neg h, if_neg (by rw [decide_eq_false h]; decide)]
theorem split_count (t : Int) : ∀ {r : List Pr}, (∀ x ∈ r, 0 ≤ x.2 ∧ x.2 < 8) → ((early (up r)).map Prod.fst).count t + ((late (up r)).map Prod.fst).count t = (r.map Prod.fst).count t
  | [], _ => rfl
  | x :: r, h => by
    have ih := split_count t (r := r) fun y hy => h y (List.mem_cons_of_mem _ hy)
    have hx := h x List.mem_cons_self
    rw [up_cons, early_cons, late_cons]
    by_cases q : x.2 + 1 < 8
    · have q' : ¬ x.2 + 1 = 8 := by omega
      simp only [if_pos q, if_neg q', List.map_cons, List.count_cons]
      omega
    · have q' : x.2 + 1 = 8 := by omega
      simp only [if_neg q, if_pos q', List.map_cons, List.count_cons]
      omega
theorem passed_five (a b c d e : List Pr) : passed [a, b, c, d, e] = [early (up a), early (up b), early (up c), early (up d), e ++ (late (up d) ++ (late (up c) ++ (late (up b) ++ late (up a))))] := by
  simp [passed]
theorem passed_perm {T : List (List Pr)} (h : Inv T) : ((passed T).flatten.map Prod.fst).Perm (T.flatten.map Prod.fst) := by
  obtain ⟨a, b, c, d, e, rfl⟩ := five_rows h.five
  have hl : ∀ r ∈ [a, b, c, d], ∀ x ∈ r, 0 ≤ x.2 ∧ x.2 < 8 := h.low
  rw [passed_five]
  refine List.perm_iff_count.mpr fun t => ?_
  have ha := split_count t (hl a (by simp))
  have hb := split_count t (hl b (by simp))
  have hc := split_count t (hl c (by simp))
  have hd := split_count t (hl d (by simp))
  simp only [List.flatten_cons, List.flatten_nil, List.map_append, List.map_nil, List.count_append, List.append_nil]
  omega
theorem early_low {r : List Pr} (h : ∀ x ∈ r, 0 ≤ x.2 ∧ x.2 < 8) : ∀ x ∈ early (up r), 0 ≤ x.2 ∧ x.2 < 8 := fun x hx => by
  obtain ⟨h1, h2⟩ := List.mem_filter.mp hx
  obtain ⟨y, hy, rfl⟩ := List.mem_map.mp h1
  have := h y hy
  have := of_decide_eq_true h2
  exact ⟨by show 0 ≤ y.2 + 1; omega, this⟩
theorem late_top (r : List Pr) : ∀ x ∈ late r, x.2 = 8 := fun x hx => of_decide_eq_true (List.mem_filter.mp hx).2
theorem Inv.pass {T : List (List Pr)} (h : Inv T) : Inv (passed T) := by
  have hp := passed_perm h
  have hnod := hp.nodup_iff.mpr h.nod
  have htask : ∀ x ∈ (passed T).flatten, 1 ≤ x.1 ∧ x.1 ≤ 15 := fun x hx => by
    obtain ⟨y, hy, e⟩ := List.mem_map.mp (hp.mem_iff.mp (List.mem_map_of_mem hx))
    rw [← e]
    exact h.task y hy
  obtain ⟨a, b, c, d, e, rfl⟩ := five_rows h.five
  have hl : ∀ r ∈ [a, b, c, d], ∀ x ∈ r, 0 ≤ x.2 ∧ x.2 < 8 := h.low
  have ht : ∀ r ∈ [e], ∀ x ∈ r, x.2 = 8 := h.top
  refine ⟨by rw [passed_five]; rfl, hnod, htask, ?_, ?_⟩
  · rw [passed_five]
    intro r hr
    have hr : r ∈ [early (up a), early (up b), early (up c), early (up d)] := hr
    simp only [List.mem_cons, List.not_mem_nil, or_false] at hr
    rcases hr with rfl | rfl | rfl | rfl
    · exact early_low (hl a (by simp))
    · exact early_low (hl b (by simp))
    · exact early_low (hl c (by simp))
    · exact early_low (hl d (by simp))
  · rw [passed_five]
    intro r hr x hx
    have hr : r ∈ [e ++ (late (up d) ++ (late (up c) ++ (late (up b) ++ late (up a))))] := hr
    rw [List.mem_singleton.mp hr] at hx
    simp only [List.mem_append] at hx
    rcases hx with hx | hx | hx | hx | hx
    · exact ht e (by simp) x hx
    · exact late_top _ x hx
    · exact late_top _ x hx
    · exact late_top _ x hx
    · exact late_top _ x hx
/-! ### where the watched one stands -/
theorem inRow_none {w : Int} : ∀ {r : List Pr} {j : Int}, (∀ x ∈ r, x.1 ≠ w) → inRow w j r = none
  | [], _, _ => rfl
  | x :: r, j, h => by
    rw [inRow, if_neg (h x List.mem_cons_self)]
    exact inRow_none fun y hy => h y (List.mem_cons_of_mem _ hy)
theorem stands_none {w : Int} : ∀ {T : List (List Pr)} {i : Int}, (∀ r ∈ T, ∀ x ∈ r, x.1 ≠ w) → stands w i T = none
  | [], _, _ => rfl
  | r :: T, i, h => by
    rw [stands, inRow_none (h r List.mem_cons_self)]
    exact stands_none fun q hq => h q (List.mem_cons_of_mem _ hq)
end K54
end PL
set_option linter.all false
set_option maxRecDepth 4000
set_option Elab.async false
set_option maxHeartbeats 400000
namespace PL
namespace K54
open PySem G
/-! ### the law's numbers -/
def B8 : Int := ((10 : Int) ^ (50 : Int).toNat) ^ (8 : Int).toNat
def KK : Int := ((10007 : Int) ^ (50 : Int).toNat) ^ (2 : Int).toNat
theorem pow_ok {i j : Int} (h : 0 ≤ j ∧ j ≤ 1000 ∧ wid i = true) : oPowW (.int i) (.int j) = .ok (.int (i ^ j.toNat)) := if_pos h
theorem eB8 (ρ : En) : (e2 oPowW (e2 oPowW (eC (.int 10)) (eC (.int 50))) (eC (.int 8))) ρ = .ok (.int B8) := by
  exact e_two (e_two (x := .int 10) (y := .int 50) rfl rfl (pow_ok (by decide +kernel))) rfl (pow_ok (by decide +kernel))
theorem eKK (ρ : En) : (e2 oPowW (e2 oPowW (eC (.int 10007)) (eC (.int 50))) (eC (.int 2))) ρ = .ok (.int KK) := by
  exact e_two (e_two (x := .int 10007) (y := .int 50) rfl rfl (pow_ok (by decide +kernel))) rfl (pow_ok (by decide +kernel))
theorem B8_pos : 0 < B8 := by decide +kernel
theorem KK_pos : 0 < KK := by decide +kernel
theorem B8_lt : B8.natAbs < 2 ^ 1400 := by decide +kernel
theorem KK_wid : wid KK = true := by decide +kernel
theorem number_ok {ns : List Int} {k : Int} (hk : 0 ≤ k) : ∃ N : Int, 0 ≤ N ∧ m_law_number [.lst (ns.map .int), .int k] = .ok (.int N) := by
  have main : ∀ c : Int, ∀ ρ : En, ρ[2]? = some (.sh (.int c)) → (e2 oMulW (e2 oAdd (e2 oMod (eVar 2) (e2 oPowW (e2 oPowW (eC (.int 10)) (eC (.int 50))) (eC (.int 8)))) (eC (.int 1))) (e2 oPowW (e2 oPowW (eC (.int 10007)) (eC (.int 50))) (eC (.int 2)))) ρ = .ok (.int ((c % B8 + 1) * KK)) := fun c ρ h => by
    have hv : (eVar 2) ρ = .ok (.int c) := by simp only [eVar, h]
    have hb := B8_pos
    have h1 := Int.emod_nonneg c (show B8 ≠ 0 by omega)
    have h2 := Int.emod_lt_of_pos c hb
    have h3 := B8_lt
    refine e_two (e_add (e_mod hv (eB8 ρ) hb) rfl) (eKK ρ) (if_pos ?_)
    rw [KK_wid, wid_of (n := 1400) (by omega) (by decide)]; rfl
  have pos : ∀ c : Int, 0 ≤ (c % B8 + 1) * KK := fun c => by
    have hb := B8_pos
    have h1 := Int.emod_nonneg c (show B8 ≠ 0 by omega)
    exact Int.mul_nonneg (by omega) (Int.le_of_lt KK_pos)
  by_cases hl : k < ns.length
  · obtain ⟨c, _, hc⟩ := atI_ints (xs := ns) hk hl
    refine ⟨_, pos c, ?_⟩
    rw [m_law_number]
    refine fn_ret ?_
    show sBlk _ [.sh (.lst (ns.map .int)), .sh (.int k), .un] = _
    rw [blk (ρ' := [.sh (.lst (ns.map .int)), .sh (.int k), .sh (.int 0)]) rfl]
    rw [blk (ρ' := [.sh (.lst (ns.map .int)), .sh (.int k), .sh (.int c)]) (by
      rw [sIf_t]
      · rw [s_asg (e_two rfl rfl (ix_lst hc))]; rfl
      · refine t_v (e_two (x := .int k) (y := .int ns.length) rfl ?_ (by rw [lt_int, decide_eq_true hl]))
        exact e_one (x := .lst (ns.map .int)) rfl (by show R.ok (D.int ((ns.map D.int).length : Int)) = _; rw [List.length_map]))]
    exact blk_ret (s_ret (main c _ rfl))
  · refine ⟨_, pos 0, ?_⟩
    rw [m_law_number]
    refine fn_ret ?_
    show sBlk _ [.sh (.lst (ns.map .int)), .sh (.int k), .un] = _
    rw [blk (ρ' := [.sh (.lst (ns.map .int)), .sh (.int k), .sh (.int 0)]) rfl]
    rw [blk (ρ' := [.sh (.lst (ns.map .int)), .sh (.int k), .sh (.int 0)]) (by
      refine sIf_nil (t_v (e_two (x := .int k) (y := .int ns.length) rfl ?_ (by rw [lt_int, decide_eq_false hl])))
      exact e_one (x := .lst (ns.map .int)) rfl (by show R.ok (D.int ((ns.map D.int).length : Int)) = _; rw [List.length_map]))]
    exact blk_ret (s_ret (main 0 _ rfl))
/-- y at the end of the row k -/
def put : List (List Pr) → Nat → Pr → List (List Pr)
  | [], _, _ => []
  | r :: T, 0, y => (r ++ [y]) :: T
  | r :: T, k + 1, y => r :: put T k y
theorem put_len : ∀ (T : List (List Pr)) (k : Nat) (y : Pr), (put T k y).length = T.length
  | [], _, _ => rfl
  | r :: T, 0, y => rfl
  | r :: T, k + 1, y => by rw [put, List.length_cons, put_len T k y, List.length_cons]
theorem put_perm {y : Pr} : ∀ {T : List (List Pr)} {k : Nat}, k < T.length → (put T k y).flatten.Perm (y :: T.flatten)
  | [], k, h => absurd h (by simp)
  | r :: T, 0, _ => by
    rw [put, List.flatten_cons, List.flatten_cons, List.append_assoc]
    exact List.perm_middle
  | r :: T, k + 1, h => by
    rw [put, List.flatten_cons, List.flatten_cons]
    exact ((put_perm (T := T) (k := k) (by simpa using h)).append_left r).trans List.perm_middle
theorem put_row {y : Pr} : ∀ {T : List (List Pr)} {k i : Nat} {r : List Pr}, (put T k y)[i]? = some r → ∃ q, T[i]? = some q ∧ ∀ x ∈ r, x ∈ q ∨ i = k ∧ x = y
  | [], k, i, r, h => by simp [put] at h
  | q :: T, 0, 0, r, h => ⟨q, rfl, fun x hx => by
    rw [put, List.getElem?_cons_zero] at h
    rw [← Option.some.inj h] at hx
    rcases List.mem_append.mp hx with hx | hx
    · exact .inl hx
    · exact .inr ⟨rfl, List.mem_singleton.mp hx⟩⟩
  | q :: T, 0, i + 1, r, h => ⟨r, by rw [put, List.getElem?_cons_succ] at h; rw [List.getElem?_cons_succ]; exact h, fun x hx => .inl hx⟩
  | q :: T, k + 1, 0, r, h => ⟨r, by rw [put, List.getElem?_cons_zero] at h; rw [List.getElem?_cons_zero]; exact h, fun x hx => .inl hx⟩
  | q :: T, k + 1, i + 1, r, h => by
    rw [put, List.getElem?_cons_succ] at h
    obtain ⟨p, h1, h2⟩ := put_row h
    refine ⟨p, by rw [List.getElem?_cons_succ]; exact h1, fun x hx => ?_⟩
    rcases h2 x hx with h | ⟨h, h'⟩
    · exact .inl h
    · exact .inr ⟨by omega, h'⟩
theorem Inv.put {T : List (List Pr)} (h : Inv T) {k : Nat} {y : Pr} (hk : k < 5) (h1 : 1 ≤ y.1 ∧ y.1 ≤ 15) (hn : ∀ x ∈ T.flatten, x.1 ≠ y.1) (hl : k < 4 → 0 ≤ y.2 ∧ y.2 < 8) (ht : k = 4 → y.2 = 8) : Inv (put T k y) := by
  have hp := put_perm (T := T) (k := k) (y := y) (by rw [h.five]; exact hk)
  refine ⟨by rw [put_len]; exact h.five, ?_, ?_, ?_, ?_⟩
  · refine (List.Perm.nodup_iff (hp.map Prod.fst)).mpr ?_
    rw [List.map_cons, List.nodup_cons]
    refine ⟨fun c => ?_, h.nod⟩
    obtain ⟨x, hx, e⟩ := List.mem_map.mp c
    exact hn x hx e
  · intro x hx
    rcases List.mem_cons.mp (hp.mem_iff.mp hx) with rfl | hx
    · exact h1
    · exact h.task x hx
  · intro r hr x hx
    obtain ⟨i, hi⟩ := List.getElem?_of_mem hr
    have hi4 : i < 4 := by
      have := (List.getElem?_eq_some_iff.mp hi).1
      rw [List.length_take] at this; omega
    rw [List.getElem?_take_of_lt hi4] at hi
    obtain ⟨q, hq, hm⟩ := put_row hi
    rcases hm x hx with hm | ⟨hm, rfl⟩
    · exact h.low q (List.mem_of_getElem? (by rw [List.getElem?_take_of_lt hi4]; exact hq)) x hm
    · exact hl (by omega)
  · intro r hr x hx
    obtain ⟨i, hi⟩ := List.getElem?_of_mem hr
    rw [List.getElem?_drop] at hi
    obtain ⟨q, hq, hm⟩ := put_row hi
    rcases hm x hx with hm | ⟨hm, rfl⟩
    · exact h.top q (List.mem_of_getElem? (i := i) (by rw [List.getElem?_drop]; exact hq)) x hm
    · exact ht (by omega)
theorem Inv.none : Inv [[], [], [], [], []] := ⟨rfl, by simp, by simp, by simp, by simp⟩
/-- the spare tasks and the rows -/
structure Fill (sp : List Int) (T : List (List Pr)) : Prop where
  inv : Inv T
  nod : sp.Nodup
  task : ∀ x ∈ sp, 1 ≤ x ∧ x ≤ 15
  apart : ∀ x ∈ T.flatten, x.1 ∉ sp
theorem not_mem_erase {α : Type} {l : List α} {k : Nat} (hk : k < l.length) (hn : l.Nodup) : l[k] ∉ l.eraseIdx k := by
  intro h
  rw [List.mem_eraseIdx_iff_getElem] at h
  obtain ⟨j, hj, hne, e⟩ := h
  exact hne ((List.getElem_inj hn).mp e)
theorem Fill.skip {sp : List Int} {T : List (List Pr)} (h : Fill sp T) (j : Nat) : Fill (sp.eraseIdx j) T :=
  ⟨h.inv, (List.eraseIdx_sublist sp j).nodup h.nod, fun x hx => h.task x ((List.eraseIdx_sublist sp j).subset hx), fun x hx c => h.apart x hx ((List.eraseIdx_sublist sp j).subset c)⟩
theorem Fill.put {sp : List Int} {T : List (List Pr)} (h : Fill sp T) {j k : Nat} {p : Int} (hj : j < sp.length) (hk : k < 5) (hl : k < 4 → 0 ≤ p ∧ p < 8) (ht : k = 4 → p = 8) : Fill (sp.eraseIdx j) (K54.put T k (sp[j], p)) := by
  have hs := h.skip j
  refine ⟨h.inv.put hk (h.task _ (List.getElem_mem hj)) (fun x hx c => h.apart x hx (by rw [c]; exact List.getElem_mem hj)) hl ht, hs.nod, hs.task, fun x hx c => ?_⟩
  rcases List.mem_cons.mp ((put_perm (by rw [h.inv.five]; exact hk)).mem_iff.mp hx) with rfl | hx
  · exact not_mem_erase hj h.nod c
  · exact hs.apart x hx c
theorem Fill.start : Fill [1, 2, 3, 4, 5, 6, 7, 8, 9, 10, 11, 12, 13, 14, 15] [[], [], [], [], []] :=
  ⟨Inv.none, by decide, by decide, by simp⟩
def rowL (r : List Pr) : List D := r.map pr
theorem put_set {y : Pr} : ∀ {T : List (List Pr)} {k : Nat}, k < T.length → (T.map rowL).set k ((T.map rowL).getD k [] ++ [pr y]) = (put T k y).map rowL
  | [], k, h => absurd h (by simp)
  | r :: T, 0, _ => by
    rw [put, List.map_cons, List.map_cons, List.getD_cons_zero, List.set_cons_zero]
    show _ = (r ++ [y]).map pr :: _
    rw [List.map_append]; rfl
  | r :: T, k + 1, h => by
    rw [put, List.map_cons, List.map_cons, List.getD_cons_succ, List.set_cons_succ, put_set (T := T) (k := k) (by simpa using h)]
theorem erase_map {α β : Type} (f : α → β) : ∀ (l : List α) (j : Nat), (l.map f).eraseIdx j = (l.eraseIdx j).map f
  | [], _ => rfl
  | _ :: _, 0 => rfl
  | x :: l, j + 1 => by
    show f x :: (l.map f).eraseIdx j = f x :: _
    rw [erase_map f l j]
theorem s_appN {i : Nat} {g f : Ex} {ρ : En} {d : D} {k : Int} {m : Nat} {xss : List (List D)} (hg : g ρ = .ok (.int k)) (hf : f ρ = .ok d) (hi : ρ[i]? = some (.on xss)) (hm : ixN xss.length k = some m) (hl : (xss.getD m []).length < 16777216) :
    sAppendN i g f ρ = .ok (.next (ρ.set i (.on (xss.set m (xss.getD m [] ++ [d]))))) := by
  unfold sAppendN
  simp only [hg, hf, R.bind_ok, hi, hm]
  exact if_pos hl
theorem row_lt {T : List (List Pr)} (h : Inv T) {k : Nat} : ((T.map rowL).getD k []).length < 16777216 := by
  rw [List.getD_eq_getElem?_getD, List.getElem?_map]
  cases e : T[k]? with
  | none => show (0 : Nat) < _; decide
  | some r =>
    show (r.map pr).length < _
    rw [List.length_map]
    have := h.small.2 r (List.mem_of_getElem? e)
    omega
theorem fill_put {s0 s1 s3 s4 s5 : Slot} {T : List (List Pr)} {g f : Ex} {y : Pr} {k : Nat} (h : Inv T) (hk : k < 5) (hg : g [s0, s1, .on (T.map rowL), s3, s4, s5] = .ok (.int k)) (hf : f [s0, s1, .on (T.map rowL), s3, s4, s5] = .ok (pr y)) :
    sAppendN 2 g f [s0, s1, .on (T.map rowL), s3, s4, s5] = .ok (.next [s0, s1, .on ((put T k y).map rowL), s3, s4, s5]) := by
  rw [s_appN (m := k) hg hf rfl (by rw [List.length_map, h.five]; exact ixN_pos (n := 5) (by omega) (by omega)) (row_lt h)]
  rw [put_set (by rw [h.five]; exact hk)]
  rfl
theorem fill_step {sp : List Int} {T : List (List Pr)} {N : Int} {k : D} {s4 s5 : Slot} (h : Fill sp T) (hs : 0 < sp.length) (h15 : sp.length ≤ 15) :
    ∃ (sp' : List Int) (T' : List (List Pr)) (N' : Int) (t4 t5 : Slot), m_law_turns_l1 [.sh (.int N), .ol (sp.map .int), .on (T.map rowL), .sh k, s4, s5] = .ok (.next [.sh (.int N'), .ol (sp'.map .int), .on (T'.map rowL), .sh k, t4, t5]) ∧ Fill sp' T' ∧ sp'.length + 1 = sp.length := by
  obtain ⟨A, hA⟩ : ∃ A, N / 16 = A := ⟨_, rfl⟩
  have hp : 0 < (sp.length : Int) := by omega
  have j0 := Int.emod_nonneg A (show (sp.length : Int) ≠ 0 by omega)
  have j1 := Int.emod_lt_of_pos A hp
  obtain ⟨j, hj⟩ : ∃ j : Nat, A % (sp.length : Int) = j := ⟨(A % (sp.length : Int)).toNat, by omega⟩
  have hjl : j < sp.length := by omega
  obtain ⟨B, hB⟩ : ∃ B, A / 15 = B := ⟨_, rfl⟩
  obtain ⟨w, hw⟩ : ∃ w, B % 6 = w := ⟨_, rfl⟩
  have a1 : sAsg (gName 0) (e2 oDivW (eVar 0) (eC (.int 16))) [.sh (.int N), .ol (sp.map .int), .on (T.map rowL), .sh k, s4, s5] = .ok (.next [.sh (.int A), .ol (sp.map .int), .on (T.map rowL), .sh k, s4, s5]) := by
    rw [s_asg (e_divW (i := N) (u := 16) rfl rfl ⟨by decide, by decide⟩), hA]; rfl
  have a2 : sPop 4 1 (e2 oMod (eVar 0) (eLenL 1)) [.sh (.int A), .ol (sp.map .int), .on (T.map rowL), .sh k, s4, s5] = .ok (.next [.sh (.int A), .ol ((sp.eraseIdx j).map .int), .on (T.map rowL), .sh k, .sh (.int sp[j]), s5]) := by
    have hl : (eLenL 1) [.sh (.int A), .ol (sp.map .int), .on (T.map rowL), .sh k, s4, s5] = .ok (.int sp.length) := by
      rw [e_lenL (xs := sp.map .int) rfl, List.length_map]
    rw [s_pop (k := A % (sp.length : Int)) (m := j) (y := .int sp[j]) (xs := sp.map .int) (e_mod rfl hl hp) rfl (by rw [List.length_map, hj]; exact ixN_pos (by omega) (by omega)) (by rw [List.getElem?_map, List.getElem?_eq_getElem hjl]; rfl) (inR_of (by omega) (by omega)), erase_map]
    rfl
  have a3 : sAsg (gName 0) (e2 oDivW (eVar 0) (eC (.int 15))) [.sh (.int A), .ol ((sp.eraseIdx j).map .int), .on (T.map rowL), .sh k, .sh (.int sp[j]), s5] = .ok (.next [.sh (.int B), .ol ((sp.eraseIdx j).map .int), .on (T.map rowL), .sh k, .sh (.int sp[j]), s5]) := by
    rw [s_asg (e_divW (i := A) (u := 15) rfl rfl ⟨by decide, by decide⟩), hB]; rfl
  have a4 : sAsg (gName 5) (e2 oMod (eVar 0) (eC (.int 6))) [.sh (.int B), .ol ((sp.eraseIdx j).map .int), .on (T.map rowL), .sh k, .sh (.int sp[j]), s5] = .ok (.next [.sh (.int B), .ol ((sp.eraseIdx j).map .int), .on (T.map rowL), .sh k, .sh (.int sp[j]), .sh (.int w)]) := by
    rw [s_asg (e_mod (i := B) (u := 6) rfl rfl (by decide)), hw]; rfl
  have c4 : (tV (e2 oEq (eVar 5) (eC (.int 4)))) [.sh (.int B), .ol ((sp.eraseIdx j).map .int), .on (T.map rowL), .sh k, .sh (.int sp[j]), .sh (.int w)] = .ok (decide (w = 4)) := t_v (e_two (x := .int w) (y := .int 4) rfl rfl (eq_int _ _))
  have c5 : (tV (e2 oLt (eVar 5) (eC (.int 4)))) [.sh (.int B), .ol ((sp.eraseIdx j).map .int), .on (T.map rowL), .sh k, .sh (.int sp[j]), .sh (.int w)] = .ok (decide (w < 4)) := t_v (e_two (x := .int w) (y := .int 4) rfl rfl (lt_int _ _))
  have mid : ∃ T', (sIf (tV (e2 oEq (eVar 5) (eC (.int 4)))) (sAppendN 2 (eC (.int 4)) (eTup [eVar 4, eC (.int 8)])) (sIf (tV (e2 oLt (eVar 5) (eC (.int 4)))) (sAppendN 2 (eVar 5) (eTup [eVar 4, e2 oMod (e2 oDivW (eVar 0) (eC (.int 6))) (eC (.int 8))])) (sNil))) [.sh (.int B), .ol ((sp.eraseIdx j).map .int), .on (T.map rowL), .sh k, .sh (.int sp[j]), .sh (.int w)]
      = .ok (.next [.sh (.int B), .ol ((sp.eraseIdx j).map .int), .on (T'.map rowL), .sh k, .sh (.int sp[j]), .sh (.int w)]) ∧ Fill (sp.eraseIdx j) T' := by
    by_cases q4 : w = 4
    · rw [decide_eq_true q4] at c4
      exact ⟨K54.put T 4 (sp[j], 8), by rw [sIf_t c4]; exact fill_put h.inv (by decide) rfl (e_tup2 rfl rfl), h.put hjl (by decide) (fun z => absurd z (by decide)) (fun _ => rfl)⟩
    · rw [decide_eq_false q4] at c4
      by_cases q5 : w < 4
      · rw [decide_eq_true q5] at c5
        obtain ⟨m, hm⟩ : ∃ m : Nat, w = m := ⟨w.toNat, by omega⟩
        refine ⟨K54.put T m (sp[j], B / 6 % 8), ?_, h.put hjl (by omega) (fun _ => by omega) (fun z => by omega)⟩
        rw [sIf_f c4, sIf_t c5]
        subst hm
        exact fill_put h.inv (by omega) rfl (e_tup2 rfl (e_mod (e_divW (i := B) (u := 6) rfl rfl ⟨by decide, by decide⟩) rfl (by decide)))
      · rw [decide_eq_false q5] at c5
        exact ⟨T, by rw [sIf_f c4, sIf_nil c5], h.skip j⟩
  obtain ⟨T', mid, hf⟩ := mid
  refine ⟨sp.eraseIdx j, T', B / 48, .sh (.int sp[j]), .sh (.int w), ?_, hf, ?_⟩
  · rw [m_law_turns_l1, blk a1, blk a2, blk a3, blk a4, blk mid, blk (s_asg (e_divW (i := B) (u := 48) rfl rfl ⟨by decide, by decide⟩))]
    rfl
  · rw [List.length_eraseIdx, if_pos hjl]; omega
theorem fill_loop : ∀ (ds : List D) {sp : List Int} {T : List (List Pr)} {N : Int} {s3 s4 s5 : Slot}, Fill sp T → ds.length ≤ sp.length → sp.length ≤ 15 →
    ∃ (sp' : List Int) (T' : List (List Pr)) (N' : Int) (t3 t4 t5 : Slot), forL (gName 3) m_law_turns_l1 ds [.sh (.int N), .ol (sp.map .int), .on (T.map rowL), s3, s4, s5] = .ok (.next [.sh (.int N'), .ol (sp'.map .int), .on (T'.map rowL), t3, t4, t5]) ∧ Fill sp' T'
  | [], sp, T, N, s3, s4, s5, h, _, _ => ⟨sp, T, N, s3, s4, s5, rfl, h⟩
  | d :: ds, sp, T, N, s3, s4, s5, h, hl, h15 => by
    rw [List.length_cons] at hl
    obtain ⟨sp1, T1, N1, t4, t5, e1, h1, l1⟩ := fill_step (N := N) (k := d) (s4 := s4) (s5 := s5) h (by omega) h15
    obtain ⟨sp2, T2, N2, u3, u4, u5, e2, h2⟩ := fill_loop ds (N := N1) (s3 := .sh d) (s4 := t4) (s5 := t5) h1 (by omega) (by omega)
    refine ⟨sp2, T2, N2, u3, u4, u5, ?_, h2⟩
    show ((m_law_turns_l1 [.sh (.int N), .ol (sp.map .int), .on (T.map rowL), .sh d, s4, s5]).bind _) = _
    rw [e1, R.bind_ok]
    exact e2
theorem turns_ok (N : Int) : ∃ T, m_law_turns [.int N] = .ok (tD T) ∧ Inv T := by
  have n0 := Int.emod_nonneg N (show (16 : Int) ≠ 0 by decide)
  have n1 := Int.emod_lt_of_pos N (show (0 : Int) < 16 by decide)
  have hr : (rangeL 0 (N % 16)).length ≤ 15 := by
    rw [rangeL_len]; omega
  obtain ⟨sp, T, N', t3, t4, t5, e, h⟩ := fill_loop (rangeL 0 (N % 16)) (N := N) (s3 := .un) (s4 := .un) (s5 := .un) Fill.start (by simpa using hr) (by decide)
  refine ⟨T, ?_, h.inv⟩
  rw [m_law_turns]
  refine fn_ret ?_
  show sBlk _ [.sh (.int N), .un, .un, .un, .un, .un] = _
  rw [blk (s_own (xs := rangeL 1 16) (e_two (x := .int 1) (y := .int 16) rfl rfl rfl))]
  show sBlk _ [.sh (.int N), .ol (rangeL 1 16), .un, .un, .un, .un] = _
  rw [blk (ρ' := [.sh (.int N), .ol (rangeL 1 16), .on ([[], [], [], [], []] : List (List D)), .un, .un, .un]) rfl]
  show sBlk _ [Slot.sh (D.int N), Slot.ol (List.map D.int [1, 2, 3, 4, 5, 6, 7, 8, 9, 10, 11, 12, 13, 14, 15]), Slot.on (List.map rowL [[], [], [], [], []]), Slot.un, Slot.un, Slot.un] = _
  rw [blk (a := sFor _ _ _) (for_seq (iRng1_ok (L := N % 16) (e_mod rfl rfl (by decide)) (inR_of (by omega) (by omega))) e)]
  rw [blk (ρ' := [.sh (.int N'), .ol (sp.map .int), .sh (.lst ((T.map rowL).map .lst)), t3, t4, t5]) rfl]
  refine blk_ret (s_ret (e_one (o := oTuple) (x := .lst ((T.map rowL).map .lst)) rfl ?_))
  rw [List.map_map]
  rfl
end K54
end PL
set_option linter.all false
set_option maxRecDepth 4000
set_option Elab.async false
set_option maxHeartbeats 400000
namespace PL
namespace K54
open PySem G
def lD (T : List (List Pr)) : D := .lst (T.map rowD)
theorem ix_lrow {T : List (List Pr)} {n : Nat} {r : List Pr} (h : T[n]? = some r) : oIx (lD T) (.int n) = .ok (rowD r) := by
  obtain ⟨hl, e⟩ := List.getElem?_eq_some_iff.mp h
  unfold lD
  refine ix_lst ?_
  rw [atI_nat (by rw [List.length_map]; exact hl), List.getElem_map, e]
theorem without_ok {T : List (List Pr)} {t : Int} (h : Small T) : m_law_without [lD T, .int t] = .ok (lD (T.map (without t))) := by
  rw [m_law_without]
  refine fnN_ret ?_
  have e : (eComp (iSeq (eVar 0)) 1 [1] (gName 0) [] (eComp (iSeq (eVar 0)) 1 [1] (gName 0) [tV (e2 oNe (e2 oIx (eVar 0) (eC (.int 0))) (eVar 1))] (eVar 0))) [.sh (lD T), .sh (.int t)] = .ok (lD (T.map (without t))) := by
    refine eComp_ok (ds := T.map rowD) rfl (by rw [List.length_map]; have := h.1; omega) ?_
    show compL _ _ _ [.un, .sh (.int t)] _ = _
    rw [List.map_map]
    exact compL_map rowD (fun r => rowD (without t r)) fun r hr => ⟨[.sh (rowD r), .sh (.int t)], rfl, inner_out (h.2 r hr)⟩
  show (sRetF _) [.sh (lD T), .sh (.int t)] = _
  unfold sRetF
  rw [e, R.bind_ok]
  rfl
/-! ### the law's own next turn -/
def pstep (t : Int) (k : Nat) (x : Pr) (B : List (List Pr)) : List (List Pr) := if x.1 = t then B else if x.2 = 7 then put B 4 (x.1, 8) else put B k (x.1, x.2 + 1)
def pour (t : Int) (k : Nat) : List Pr → List (List Pr) → List (List Pr)
  | [], B => B
  | x :: xs, B => pour t k xs (pstep t k x B)
theorem put_flat {B : List (List Pr)} {k : Nat} {y : Pr} (h : k < B.length) : (put B k y).flatten.length = B.flatten.length + 1 := by
  rw [(put_perm h).length_eq, List.length_cons]
theorem pstep_len (t : Int) (k : Nat) (x : Pr) (B : List (List Pr)) : (pstep t k x B).length = B.length := by
  unfold pstep
  split
  · rfl
  · split <;> exact put_len _ _ _
theorem pstep_flat {t : Int} {k : Nat} {x : Pr} {B : List (List Pr)} (h : B.length = 5) (hk : k < 5) : (pstep t k x B).flatten.length ≤ B.flatten.length + 1 := by
  unfold pstep
  split
  · omega
  · split
    · rw [put_flat (by omega)]; omega
    · rw [put_flat (by omega)]; omega
theorem row_flat' {B : List (List Pr)} {k : Nat} : ((B.map rowL).getD k []).length ≤ B.flatten.length := by
  rw [List.getD_eq_getElem?_getD, List.getElem?_map]
  cases e : B[k]? with
  | none => exact Nat.zero_le _
  | some r =>
    show (r.map pr).length ≤ _
    rw [List.length_map]
    exact row_flat (List.mem_of_getElem? e)
theorem app_put {s0 s1 s2 s4 s5 s6 : Slot} {B : List (List Pr)} {g f : Ex} {y : Pr} {k : Nat} (h5 : B.length = 5) (hk : k < 5) (hf : B.flatten.length ≤ 1000) (hg : g [s0, s1, s2, .on (B.map rowL), s4, s5, s6] = .ok (.int k)) (hy : f [s0, s1, s2, .on (B.map rowL), s4, s5, s6] = .ok (pr y)) :
    sAppendN 3 g f [s0, s1, s2, .on (B.map rowL), s4, s5, s6] = .ok (.next [s0, s1, s2, .on ((put B k y).map rowL), s4, s5, s6]) := by
  rw [s_appN (m := k) hg hy rfl (by rw [List.length_map, h5]; exact ixN_pos (n := 5) (by omega) (by omega)) (by
    have := row_flat' (B := B) (k := k)
    omega)]
  rw [put_set (by rw [h5]; exact hk)]
  rfl
theorem pour_one {s0 s1 : Slot} {B : List (List Pr)} {t : Int} {k : Nat} {x : Pr} (h5 : B.length = 5) (hk : k < 4) (hf : B.flatten.length ≤ 1000) :
    m_law_next_l1 [s0, s1, .sh (.int t), .on (B.map rowL), .sh (.int k), .sh (.int x.1), .sh (.int x.2)] = .ok (.next [s0, s1, .sh (.int t), .on ((pstep t k x B).map rowL), .sh (.int k), .sh (.int x.1), .sh (.int x.2)]) := by
  obtain ⟨y, z⟩ := x
  dsimp only
  have c1 : (tV (e2 oNe (eVar 5) (eVar 2))) [s0, s1, .sh (.int t), .on (B.map rowL), .sh (.int k), .sh (.int y), .sh (.int z)] = .ok (!decide (y = t)) := t_v (e_two (x := .int y) (y := .int t) rfl rfl (ne_intK _ _))
  have c2 : (tV (e2 oEq (eVar 6) (eC (.int 7)))) [s0, s1, .sh (.int t), .on (B.map rowL), .sh (.int k), .sh (.int y), .sh (.int z)] = .ok (decide (z = 7)) := t_v (e_two (x := .int z) (y := .int 7) rfl rfl (eq_int _ _))
  rw [m_law_next_l1]
  unfold pstep
  by_cases h1 : y = t
  · rw [if_pos h1]
    rw [decide_eq_true h1] at c1
    rw [sIf_f (t_and_f c1), sIf_nil c1]
  · rw [if_neg h1]
    rw [decide_eq_false h1] at c1
    by_cases h2 : z = 7
    · rw [if_pos h2]
      rw [decide_eq_true h2] at c2
      rw [sIf_t (t_and (b := true) (c := true) c1 c2)]
      exact app_put h5 (by decide) hf rfl (e_tup2 rfl rfl)
    · rw [if_neg h2]
      rw [decide_eq_false h2] at c2
      rw [sIf_f (t_and (b := true) (c := false) c1 c2), sIf_t c1]
      exact app_put h5 (by omega) hf rfl (e_tup2 rfl (e_add rfl rfl))
theorem pour_row {s0 s1 : Slot} {t : Int} {k : Nat} (hk : k < 4) : ∀ (xs : List Pr) (B : List (List Pr)) (s5 s6 : Slot), B.length = 5 → B.flatten.length + xs.length ≤ 1000 →
    ∃ t5 t6, forL (gTup [5, 6]) m_law_next_l1 (xs.map pr) [s0, s1, .sh (.int t), .on (B.map rowL), .sh (.int k), s5, s6] = .ok (.next [s0, s1, .sh (.int t), .on ((pour t k xs B).map rowL), .sh (.int k), t5, t6])
  | [], B, s5, s6, _, _ => ⟨s5, s6, rfl⟩
  | x :: xs, B, s5, s6, h5, hf => by
    rw [List.length_cons] at hf
    have hp := pstep_flat (t := t) (x := x) (k := k) h5 (by omega)
    obtain ⟨t5, t6, ih⟩ := pour_row (s0 := s0) (s1 := s1) (t := t) hk xs (pstep t k x B) (.sh (.int x.1)) (.sh (.int x.2)) (by rw [pstep_len]; exact h5) (by omega)
    refine ⟨t5, t6, ?_⟩
    show ((m_law_next_l1 [s0, s1, .sh (.int t), .on (B.map rowL), .sh (.int k), .sh (.int x.1), .sh (.int x.2)]).bind _) = _
    rw [pour_one h5 hk (by omega), R.bind_ok]
    exact ih
theorem pour_len (t : Int) (k : Nat) : ∀ (xs : List Pr) (B : List (List Pr)), (pour t k xs B).length = B.length
  | [], B => rfl
  | x :: xs, B => by rw [pour, pour_len t k xs, pstep_len]
theorem pour_flat {t : Int} {k : Nat} (hk : k < 5) : ∀ {xs : List Pr} {B : List (List Pr)}, B.length = 5 → (pour t k xs B).flatten.length ≤ B.flatten.length + xs.length
  | [], B, _ => by rw [pour]; simp
  | x :: xs, B, h => by
    rw [pour, List.length_cons]
    have h1 := pour_flat (t := t) hk (xs := xs) (B := pstep t k x B) (by rw [pstep_len]; exact h)
    have h2 := pstep_flat (t := t) (x := x) h hk
    omega
theorem without_cons (t : Int) (x : Pr) (r : List Pr) : without t (x :: r) = if x.1 = t then without t r else x :: without t r := by
  unfold without
  rw [List.filter_cons]
  by_cases h : x.1 = t
  · rw [if_pos h, if_neg (by rw [decide_eq_true h]; decide)]
  · rw [if_neg h, if_pos (by rw [decide_eq_false h]; rfl)]
theorem pour3 {t : Int} : ∀ {xs : List Pr} {b0 b1 b2 b3 b4 : List Pr}, (∀ x ∈ xs, 0 ≤ x.2 ∧ x.2 < 8) → pour t 3 xs [b0, b1, b2, b3, b4] = [b0, b1, b2, b3 ++ early (up (without t xs)), b4 ++ late (up (without t xs))]
  | [], b0, b1, b2, b3, b4, _ => by simp [pour, without, up, early, late]
  | x :: xs, b0, b1, b2, b3, b4, h => by
    have hx := h x List.mem_cons_self
    have hs : ∀ y ∈ xs, 0 ≤ y.2 ∧ y.2 < 8 := fun y hy => h y (List.mem_cons_of_mem _ hy)
    rw [pour, pstep, without_cons]
    by_cases h1 : x.1 = t
    · rw [if_pos h1, if_pos h1]; exact pour3 hs
    · rw [if_neg h1, if_neg h1, up_cons, early_cons, late_cons]
      by_cases h2 : x.2 = 7
      · rw [if_pos h2, if_neg (by show ¬ x.2 + 1 < 8; omega), if_pos (by show x.2 + 1 = 8; omega), show x.2 + 1 = 8 by omega]
        refine (pour3 hs).trans ?_
        simp
      · rw [if_neg h2, if_pos (by show x.2 + 1 < 8; omega), if_neg (by show ¬ x.2 + 1 = 8; omega)]
        refine (pour3 hs).trans ?_
        simp
theorem pour2 {t : Int} : ∀ {xs : List Pr} {b0 b1 b2 b3 b4 : List Pr}, (∀ x ∈ xs, 0 ≤ x.2 ∧ x.2 < 8) → pour t 2 xs [b0, b1, b2, b3, b4] = [b0, b1, b2 ++ early (up (without t xs)), b3, b4 ++ late (up (without t xs))]
  | [], b0, b1, b2, b3, b4, _ => by simp [pour, without, up, early, late]
  | x :: xs, b0, b1, b2, b3, b4, h => by
    have hx := h x List.mem_cons_self
    have hs : ∀ y ∈ xs, 0 ≤ y.2 ∧ y.2 < 8 := fun y hy => h y (List.mem_cons_of_mem _ hy)
    rw [pour, pstep, without_cons]
    by_cases h1 : x.1 = t
    · rw [if_pos h1, if_pos h1]; exact pour2 hs
    · rw [if_neg h1, if_neg h1, up_cons, early_cons, late_cons]
      by_cases h2 : x.2 = 7
      · rw [if_pos h2, if_neg (by show ¬ x.2 + 1 < 8; omega), if_pos (by show x.2 + 1 = 8; omega), show x.2 + 1 = 8 by omega]
        refine (pour2 hs).trans ?_
        simp
      · rw [if_neg h2, if_pos (by show x.2 + 1 < 8; omega), if_neg (by show ¬ x.2 + 1 = 8; omega)]
        refine (pour2 hs).trans ?_
        simp
theorem pour1 {t : Int} : ∀ {xs : List Pr} {b0 b1 b2 b3 b4 : List Pr}, (∀ x ∈ xs, 0 ≤ x.2 ∧ x.2 < 8) → pour t 1 xs [b0, b1, b2, b3, b4] = [b0, b1 ++ early (up (without t xs)), b2, b3, b4 ++ late (up (without t xs))]
  | [], b0, b1, b2, b3, b4, _ => by simp [pour, without, up, early, late]
  | x :: xs, b0, b1, b2, b3, b4, h => by
    have hx := h x List.mem_cons_self
    have hs : ∀ y ∈ xs, 0 ≤ y.2 ∧ y.2 < 8 := fun y hy => h y (List.mem_cons_of_mem _ hy)
    rw [pour, pstep, without_cons]
    by_cases h1 : x.1 = t
    · rw [if_pos h1, if_pos h1]; exact pour1 hs
    · rw [if_neg h1, if_neg h1, up_cons, early_cons, late_cons]
      by_cases h2 : x.2 = 7
      · rw [if_pos h2, if_neg (by show ¬ x.2 + 1 < 8; omega), if_pos (by show x.2 + 1 = 8; omega), show x.2 + 1 = 8 by omega]
        refine (pour1 hs).trans ?_
        simp
      · rw [if_neg h2, if_pos (by show x.2 + 1 < 8; omega), if_neg (by show ¬ x.2 + 1 = 8; omega)]
        refine (pour1 hs).trans ?_
        simp
theorem pour0 {t : Int} : ∀ {xs : List Pr} {b0 b1 b2 b3 b4 : List Pr}, (∀ x ∈ xs, 0 ≤ x.2 ∧ x.2 < 8) → pour t 0 xs [b0, b1, b2, b3, b4] = [b0 ++ early (up (without t xs)), b1, b2, b3, b4 ++ late (up (without t xs))]
  | [], b0, b1, b2, b3, b4, _ => by simp [pour, without, up, early, late]
  | x :: xs, b0, b1, b2, b3, b4, h => by
    have hx := h x List.mem_cons_self
    have hs : ∀ y ∈ xs, 0 ≤ y.2 ∧ y.2 < 8 := fun y hy => h y (List.mem_cons_of_mem _ hy)
    rw [pour, pstep, without_cons]
    by_cases h1 : x.1 = t
    · rw [if_pos h1, if_pos h1]; exact pour0 hs
    · rw [if_neg h1, if_neg h1, up_cons, early_cons, late_cons]
      by_cases h2 : x.2 = 7
      · rw [if_pos h2, if_neg (by show ¬ x.2 + 1 < 8; omega), if_pos (by show x.2 + 1 = 8; omega), show x.2 + 1 = 8 by omega]
        refine (pour0 hs).trans ?_
        simp
      · rw [if_neg h2, if_pos (by show x.2 + 1 < 8; omega), if_neg (by show ¬ x.2 + 1 = 8; omega)]
        refine (pour0 hs).trans ?_
        simp
end K54
end PL
set_option linter.all false
set_option maxRecDepth 4000
set_option Elab.async false
set_option maxHeartbeats 400000
namespace PL
namespace K54
open PySem G
theorem lay_row (r : List Pr) : lay (rowD r) = true := by
  unfold rowD
  rw [lay]
  refine lays_of fun d hd => ?_
  obtain ⟨x, _, rfl⟩ := List.mem_map.mp hd
  rfl
theorem eq_nil (r : List Pr) : oEq (rowD r) (.lst []) = .ok (.bl (decide (r = []))) := by
  have h : neOk (rowD r) (.lst []) = true := by
    unfold neOk
    rw [lay_row, show lay (.lst []) = true from rfl, show decide (min (dep (rowD r)) (dep (.lst [])) ≤ 60) = true from decide_eq_true (by
      have : dep (.lst []) = 1 := rfl
      omega)]
    simp
  have h2 : eqOk (rowD r) (.lst []) = true := by
    unfold eqOk
    rw [h]; rfl
  unfold oEq
  rw [if_pos h2]
  cases r <;> rfl
theorem add_row {r s : List Pr} (h : r.length + s.length ≤ 2000) : oAdd (rowD r) (rowD s) = .ok (rowD (r ++ s)) := by
  unfold rowD
  rw [G.add_lst (by rw [List.length_map, List.length_map]; omega), List.map_append]
theorem order_ok {a b c d e : List Pr} (h : e.length + d.length + c.length + b.length + a.length ≤ 1000) {ρ : En} (h0 : (eVar 0) ρ = .ok (lD [a, b, c, d, e])) :
    (e2 oAdd (e2 oAdd (e2 oAdd (e2 oAdd (e2 oIx (eVar 0) (eC (.int 4))) (e2 oIx (eVar 0) (eC (.int 3)))) (e2 oIx (eVar 0) (eC (.int 2)))) (e2 oIx (eVar 0) (eC (.int 1)))) (e2 oIx (eVar 0) (eC (.int 0)))) ρ = .ok (rowD (e ++ d ++ c ++ b ++ a)) := by
  have i4 : (e2 oIx (eVar 0) (eC (.int 4))) ρ = .ok (rowD e) := e_two (o := oIx) (y := .int 4) h0 rfl (ix_lrow (n := 4) rfl)
  have i3 : (e2 oIx (eVar 0) (eC (.int 3))) ρ = .ok (rowD d) := e_two (o := oIx) (y := .int 3) h0 rfl (ix_lrow (n := 3) rfl)
  have i2 : (e2 oIx (eVar 0) (eC (.int 2))) ρ = .ok (rowD c) := e_two (o := oIx) (y := .int 2) h0 rfl (ix_lrow (n := 2) rfl)
  have i1 : (e2 oIx (eVar 0) (eC (.int 1))) ρ = .ok (rowD b) := e_two (o := oIx) (y := .int 1) h0 rfl (ix_lrow (n := 1) rfl)
  have i0 : (e2 oIx (eVar 0) (eC (.int 0))) ρ = .ok (rowD a) := e_two (o := oIx) (y := .int 0) h0 rfl (ix_lrow (n := 0) rfl)
  refine e_two (o := oAdd) (e_two (o := oAdd) (e_two (o := oAdd) (e_two (o := oAdd) i4 i3 (add_row (by omega))) i2 (add_row (by rw [List.length_append]; omega))) i1 (add_row (by rw [List.length_append, List.length_append]; omega))) i0 (add_row (by rw [List.length_append, List.length_append, List.length_append]; omega))
theorem flat_filter : ∀ (l : List (List Pr)), (l.filter fun r => decide (0 < (r.length : Int))).flatten = l.flatten
  | [] => rfl
  | r :: l => by
    rw [List.filter_cons, List.flatten_cons]
    by_cases h : 0 < (r.length : Int)
    · rw [if_pos (decide_eq_true h), List.flatten_cons, flat_filter l]
    · have hz : r = [] := List.length_eq_zero_iff.mp (by omega)
      rw [if_neg (by rw [decide_eq_false h]; decide), flat_filter l, hz, List.nil_append]
theorem full_order {a b c d e : List Pr} : e ++ d ++ c ++ b ++ a = (full [a, b, c, d, e]).flatten := by
  unfold full
  rw [flat_filter]
  simp
theorem five_len {a b c d e : List Pr} (h : Inv [a, b, c, d, e]) : e.length + d.length + c.length + b.length + a.length ≤ 15 := by
  have := h.most
  simp only [List.flatten_cons, List.flatten_nil, List.length_append, List.length_nil] at this
  omega
theorem lnext_none {T : List (List Pr)} (h : Inv T) (hf : full T = []) : m_law_next [lD T] = .ok (.lst [lD T, .non]) := by
  obtain ⟨a, b, c, d, e, rfl⟩ := five_rows h.five
  have hl := five_len h
  have ho := full_order (a := a) (b := b) (c := c) (d := d) (e := e)
  rw [hf] at ho
  have e1 := order_ok (ρ := [.sh (lD [a, b, c, d, e]), .un, .un, .un, .un, .un, .un]) (a := a) (b := b) (c := c) (d := d) (e := e) (by omega) rfl
  rw [ho] at e1
  generalize lD [a, b, c, d, e] = L at e1 ⊢
  rw [m_law_next]
  refine fn_ret ?_
  show sBlk _ [.sh L, .un, .un, .un, .un, .un, .un] = _
  rw [blk (s_asg e1)]
  show sBlk _ [.sh L, .sh (rowD []), .un, .un, .un, .un, .un] = _
  refine blk_ret ?_
  rw [sIf_t (t_v (e_two (o := oEq) (x := rowD []) (y := .lst []) rfl rfl (eq_nil [])))]
  refine s_ret ?_
  show (eList [_, _] _).bind _ = _
  rfl
theorem lnext_some {T : List (List Pr)} (h : Inv T) {t p : Int} {r : List Pr} {rest : List (List Pr)} (hf : full T = ((t, p) :: r) :: rest) : m_law_next [lD T] = .ok (.lst [lD (passed (T.map (without t))), .int t]) := by
  obtain ⟨a, b, c, d, e, rfl⟩ := five_rows h.five
  have hl := five_len h
  have hlow : ∀ r ∈ [a, b, c, d], ∀ x ∈ r, 0 ≤ x.2 ∧ x.2 < 8 := h.low
  have ho := full_order (a := a) (b := b) (c := c) (d := d) (e := e)
  rw [hf, List.flatten_cons, List.cons_append] at ho
  have e1 := order_ok (ρ := [.sh (lD [a, b, c, d, e]), .un, .un, .un, .un, .un, .un]) (a := a) (b := b) (c := c) (d := d) (e := e) (by omega) rfl
  rw [ho] at e1
  obtain ⟨O, hO⟩ : ∃ O, r ++ rest.flatten = O := ⟨_, rfl⟩
  rw [hO] at e1
  have i4 : oIx (lD [a, b, c, d, e]) (.int 4) = .ok (rowD e) := ix_lrow (n := 4) rfl
  have i3 : oIx (lD [a, b, c, d, e]) (.int 3) = .ok (rowD d) := ix_lrow (n := 3) rfl
  have i2 : oIx (lD [a, b, c, d, e]) (.int 2) = .ok (rowD c) := ix_lrow (n := 2) rfl
  have i1 : oIx (lD [a, b, c, d, e]) (.int 1) = .ok (rowD b) := ix_lrow (n := 1) rfl
  have i0 : oIx (lD [a, b, c, d, e]) (.int 0) = .ok (rowD a) := ix_lrow (n := 0) rfl
  generalize lD [a, b, c, d, e] = L at e1 i0 i1 i2 i3 i4 ⊢
  rw [m_law_next]
  refine fn_ret ?_
  show sBlk _ [.sh L, .un, .un, .un, .un, .un, .un] = _
  rw [blk (s_asg e1)]
  show sBlk _ [.sh L, .sh (rowD ((t, p) :: O)), .un, .un, .un, .un, .un] = _
  rw [blk (sIf_nil (t_v (e_two (o := oEq) (x := rowD ((t, p) :: O)) (y := .lst []) rfl rfl (eq_nil _))))]
  rw [blk (s_asg (d := .int t) (e_two (o := oIx) (x := pr (t, p)) (y := .int 0) (e_two (o := oIx) (x := rowD ((t, p) :: O)) (y := .int 0) rfl rfl (ix_lst (by
      have := atI_nat (xs := pr (t, p) :: O.map pr) (j := 0) (by simp)
      exact this))) rfl rfl))]
  show sBlk _ [.sh L, .sh (rowD ((t, p) :: O)), .sh (.int t), .un, .un, .un, .un] = _
  generalize rowD ((t, p) :: O) = Od
  have ec : (eComp (iSeq (e2 oIx (eVar 0) (eC (.int 4)))) 1 [2] (gName 0) [tV (e2 oNe (e2 oIx (eVar 0) (eC (.int 0))) (eVar 1))] (eVar 0)) [.sh L, .sh Od, .sh (.int t), .un, .un, .un, .un] = .ok (.lst (rowL (without t e))) := by
    refine eComp_ok (ds := e.map pr) (by
      show ((e2 oIx (eVar 0) (eC (.int 4))) [.sh L, .sh Od, .sh (.int t), .un, .un, .un, .un]).bind _ = _
      rw [e_two (o := oIx) (x := L) (y := .int 4) rfl rfl i4]; rfl) (by rw [List.length_map]; omega) ?_
    show compL _ _ _ [.un, .sh (.int t)] _ = _
    refine compL_filter pr (fun x => !decide (x.1 = t)) pr fun x _ => ⟨[.sh (pr x), .sh (.int t)], rfl, ?_, fun _ => rfl⟩
    show ((tV (e2 oNe (e2 oIx (eVar 0) (eC (.int 0))) (eVar 1))) [.sh (pr x), .sh (.int t)]).bind _ = _
    rw [t_v (e_two (x := .int x.1) (y := .int t) (e_two (x := pr x) (y := .int 0) rfl rfl rfl) rfl (ne_intK _ _)), R.bind_ok]
    cases (!decide (x.1 = t)) <;> rfl
  have l4 : (without t e).length ≤ 15 := Nat.le_trans (without_len t e) (by omega)
  rw [blk (ρ' := [.sh L, .sh Od, .sh (.int t), .on (([[], [], [], [], without t e] : List (List Pr)).map rowL), .un, .un, .un]) (by
    unfold sOwnF
    rw [if_neg (by show ¬ (false = true); decide)]
    unfold eLsts eLsts eLsts eLsts eLsts eLsts
    rw [ec]
    rfl)]
  -- the four rows
  have f0 : ([[], [], [], [], without t e] : List (List Pr)).flatten.length ≤ 15 := by simp; omega
  obtain ⟨u5, u6, p3⟩ := pour_row (s0 := .sh L) (s1 := .sh Od) (t := t) (k := 3) (by decide) d [[], [], [], [], without t e] .un .un rfl (by omega)
  have f3 := pour_flat (t := t) (k := 3) (by decide) (xs := d) (B := [[], [], [], [], without t e]) rfl
  have n3 := pour_len t 3 d [[], [], [], [], without t e]
  have g3 := pour3 (t := t) (b0 := []) (b1 := []) (b2 := []) (b3 := []) (b4 := without t e) (hlow d (by simp))
  rw [g3] at p3 f3 n3
  generalize hB3 : [([] : List Pr), [], [], [] ++ early (up (without t d)), without t e ++ late (up (without t d))] = B3 at p3 f3 n3
  obtain ⟨v5, v6, p2⟩ := pour_row (s0 := .sh L) (s1 := .sh Od) (t := t) (k := 2) (by decide) c B3 u5 u6 n3 (by omega)
  have f2 := pour_flat (t := t) (k := 2) (by decide) (xs := c) (B := B3) n3
  have n2 := (pour_len t 2 c B3).trans n3
  have g2 : pour t 2 c B3 = [[], [], [] ++ early (up (without t c)), [] ++ early (up (without t d)), without t e ++ late (up (without t d)) ++ late (up (without t c))] := by rw [← hB3]; exact pour2 (hlow c (by simp))
  rw [g2] at p2 f2 n2
  generalize hB2 : [([] : List Pr), [], [] ++ early (up (without t c)), [] ++ early (up (without t d)), without t e ++ late (up (without t d)) ++ late (up (without t c))] = B2 at p2 f2 n2
  obtain ⟨w5, w6, p1⟩ := pour_row (s0 := .sh L) (s1 := .sh Od) (t := t) (k := 1) (by decide) b B2 v5 v6 n2 (by omega)
  have f1 := pour_flat (t := t) (k := 1) (by decide) (xs := b) (B := B2) n2
  have n1 := (pour_len t 1 b B2).trans n2
  have g1 : pour t 1 b B2 = [[], [] ++ early (up (without t b)), [] ++ early (up (without t c)), [] ++ early (up (without t d)), without t e ++ late (up (without t d)) ++ late (up (without t c)) ++ late (up (without t b))] := by rw [← hB2]; exact pour1 (hlow b (by simp))
  rw [g1] at p1 f1 n1
  generalize hB1 : [([] : List Pr), [] ++ early (up (without t b)), [] ++ early (up (without t c)), [] ++ early (up (without t d)), without t e ++ late (up (without t d)) ++ late (up (without t c)) ++ late (up (without t b))] = B1 at p1 f1 n1
  obtain ⟨x5, x6, p0⟩ := pour_row (s0 := .sh L) (s1 := .sh Od) (t := t) (k := 0) (by decide) a B1 w5 w6 n1 (by omega)
  have fin : pour t 0 a B1 = passed ([a, b, c, d, e].map (without t)) := by
    rw [← hB1, pour0 (hlow a (by simp))]
    rw [show [a, b, c, d, e].map (without t) = [without t a, without t b, without t c, without t d, without t e] from rfl, passed_five]
    simp
  rw [fin] at p0
  have row : ∀ {k : Nat} {q : List Pr} {S : Slot} {s5 s6 : Slot} {res : R Fl}, oIx L (.int k) = .ok (rowD q) → forL (gTup [5, 6]) m_law_next_l1 (q.map pr) [.sh L, .sh Od, .sh (.int t), S, .sh (.int k), s5, s6] = res → m_law_next_l2 [.sh L, .sh Od, .sh (.int t), S, .sh (.int k), s5, s6] = res := fun {k q S s5 s6 res} hk hf => for_seq (ds := q.map pr) (by
    show ((e2 oIx (eVar 0) (eVar 4)) _).bind _ = _
    rw [e_two (o := oIx) (x := L) (y := .int k) rfl rfl hk]; rfl) hf
  rw [blk (a := sFor _ _ _) (for_seq (ds := [.int 3, .int 2, .int 1, .int 0]) rfl (by
    show ((m_law_next_l2 [.sh L, .sh Od, .sh (.int t), .on (([[], [], [], [], without t e] : List (List Pr)).map rowL), .sh (.int (3 : Nat)), .un, .un]).bind _) = _
    rw [row (k := 3) i3 p3, R.bind_ok]
    show ((m_law_next_l2 [.sh L, .sh Od, .sh (.int t), .on (B3.map rowL), .sh (.int (2 : Nat)), u5, u6]).bind _) = _
    rw [row (k := 2) i2 p2, R.bind_ok]
    show ((m_law_next_l2 [.sh L, .sh Od, .sh (.int t), .on (B2.map rowL), .sh (.int (1 : Nat)), v5, v6]).bind _) = _
    rw [row (k := 1) i1 p1, R.bind_ok]
    show ((m_law_next_l2 [.sh L, .sh Od, .sh (.int t), .on (B1.map rowL), .sh (.int (0 : Nat)), w5, w6]).bind _) = _
    rw [row (k := 0) i0 p0, R.bind_ok]
    rfl))]
  generalize passed ([a, b, c, d, e].map (without t)) = P
  rw [blk (ρ' := [.sh L, .sh Od, .sh (.int t), .sh (.lst ((P.map rowL).map .lst)), .sh (.int 0), x5, x6]) rfl]
  refine blk_ret (s_ret ?_)
  show R.ok (D.lst [.lst ((P.map rowL).map .lst), .int t]) = _
  rw [List.map_map]
  rfl
end K54
end PL
set_option linter.all false
set_option maxRecDepth 4000
set_option Elab.async false
set_option maxHeartbeats 400000
namespace PL
namespace K54
open PySem G
/-! ### one deed -/
theorem set_ready {U : List (List Pr)} {t : Int} {k : Nat} (hk : k < U.length) : (U.map rowD).set k (rowD (U.getD k [] ++ [(t, 0)])) = (ready U t k).map rowD := by
  rw [← List.map_set]
  congr 1
  unfold ready
  rw [List.set_eq_take_append_cons_drop, if_pos hk]
  simp
theorem e_lst2 {a b : Ex} {ρ : En} {x y : D} (h : a ρ = .ok x) (h2 : b ρ = .ok y) : eLst [a, b] ρ = .ok (.lst [x, y]) := by
  show (eList [a, b] ρ).bind _ = _
  simp only [eList, h, h2, R.bind_ok]
theorem done_ok {T : List (List Pr)} (h : Inv T) (N : Int) : ∃ T', Inv T' ∧ m_law_done [tD T, lD T, .int N] = .ok (.lst [tD T', lD T']) := by
  obtain ⟨t, ht⟩ : ∃ t : Int, 1 + N / 3 % 15 = t := ⟨_, rfl⟩
  have ht1 : 1 ≤ t ∧ t ≤ 15 := by omega
  obtain ⟨k, hk⟩ : ∃ k : Nat, N / 45 % 4 = k := ⟨(N / 45 % 4).toNat, by omega⟩
  have hk4 : k < 4 := by omega
  have a1 : (sAsg (gName 3) (e2 oAdd (eC (.int 1)) (e2 oMod (e2 oDivW (eVar 2) (eC (.int 3))) (eC (.int 15))))) [.sh (tD T), .sh (lD T), .sh (.int N), .un, .un, .un, .un, .un] = .ok (.next [.sh (tD T), .sh (lD T), .sh (.int N), .sh (.int t), .un, .un, .un, .un]) := by
    rw [s_asg (e_add (i := 1) rfl (e_mod (e_divW (i := N) (u := 3) rfl rfl ⟨by decide, by decide⟩) rfl (by decide))), ht]; rfl
  have a2 : (sAsg (gName 4) (e2 oMod (e2 oDivW (eVar 2) (eC (.int 45))) (eC (.int 4)))) [.sh (tD T), .sh (lD T), .sh (.int N), .sh (.int t), .un, .un, .un, .un] = .ok (.next [.sh (tD T), .sh (lD T), .sh (.int N), .sh (.int t), .sh (.int k), .un, .un, .un]) := by
    rw [s_asg (e_mod (e_divW (i := N) (u := 45) rfl rfl ⟨by decide, by decide⟩) rfl (by decide)), hk]; rfl
  have c1 : (tV (e2 oEq (e2 oMod (eVar 2) (eC (.int 3))) (eC (.int 0)))) [.sh (tD T), .sh (lD T), .sh (.int N), .sh (.int t), .sh (.int k), .un, .un, .un] = .ok (decide (N % 3 = 0)) := t_v (e_two (o := oEq) (e_mod (i := N) (u := 3) rfl rfl (by decide)) rfl (eq_int _ _))
  by_cases q1 : N % 3 = 0
  · rw [decide_eq_true q1] at c1
    refine ⟨ready (T.map (without t)) t k, h.rdy hk4 ht1.1 ht1.2, ?_⟩
    have mr := made_ready_ok (t := t) (k := k) h.small (by rw [h.five]; omega) (by rw [h.five]; decide)
    have wo := without_ok (t := t) h.small
    have hlen : (T.map (without t)).length = 5 := by rw [List.length_map]; exact h.five
    have hsm := (h.out t).small
    generalize T.map (without t) = U at mr wo hlen hsm
    have hkU : k < U.length := by omega
    have hg : U.getD k [] = U[k] := by rw [List.getD_eq_getElem?_getD, List.getElem?_eq_getElem hkU]; rfl
    have hrow : (U.getD k []).length ≤ 1000 := by rw [hg]; exact hsm.2 _ (List.getElem_mem hkU)
    rw [m_law_done]
    refine fn_ret ?_
    show sBlk _ [.sh (tD T), .sh (lD T), .sh (.int N), .un, .un, .un, .un, .un] = _
    rw [blk a1, blk a2]
    refine blk_ret ?_
    rw [sIf_t c1]
    rw [blk (s_own (xs := U.map rowD) (e_call2 rfl rfl wo))]
    show sBlk _ [.sh (tD T), .sh (lD T), .sh (.int N), .sh (.int t), .sh (.int k), .ol (U.map rowD), .un, .un] = _
    have ei : (eIxL 5 (eVar 4)) [.sh (tD T), .sh (lD T), .sh (.int N), .sh (.int t), .sh (.int k), .ol (U.map rowD), .un, .un] = .ok (rowD (U.getD k [])) := by
      show oIxQ (.lst (U.map rowD)) (.int k) = _
      show (match atI (U.map rowD) (k : Int) with
        | some v => R.ok v
        | none => R.bad) = _
      rw [atI_nat (by rw [List.length_map]; exact hkU), List.getElem_map, hg]
    rw [blk (s_set (d := rowD (U.getD k [] ++ [(t, 0)])) (j := k) (m := k) (xs := U.map rowD) (e_two (o := oAdd) (x := rowD (U.getD k [])) (y := rowD [(t, 0)]) ei (e_lst1 (e_tup2 rfl rfl)) (add_row (by show (U.getD k []).length + 1 ≤ 2000; omega))) rfl rfl (ixN_pos (by omega) (by rw [List.length_map]; omega))), set_ready hkU]
    show sBlk _ [.sh (tD T), .sh (lD T), .sh (.int N), .sh (.int t), .sh (.int k), .ol ((ready U t k).map rowD), .un, .un] = _
    rw [blk (ρ' := [.sh (tD T), .sh (lD T), .sh (.int N), .sh (.int t), .sh (.int k), .sh (lD (ready U t k)), .un, .un]) rfl]
    exact blk_ret (s_ret (e_lst2 (e_call3 rfl rfl rfl mr) rfl))
  · rw [decide_eq_false q1] at c1
    have c2 : (tAnd (tV (e2 oEq (e2 oMod (eVar 2) (eC (.int 3))) (eC (.int 1)))) (tV (e2 oEq (e2 oMod (e2 oDivW (eVar 2) (eC (.int 180))) (eC (.int 3))) (eC (.int 0))))) [.sh (tD T), .sh (lD T), .sh (.int N), .sh (.int t), .sh (.int k), .un, .un, .un] = .ok (decide (N % 3 = 1) && decide (N / 180 % 3 = 0)) :=
      t_and (t_v (e_two (o := oEq) (e_mod (i := N) (u := 3) rfl rfl (by decide)) rfl (eq_int _ _))) (t_v (e_two (o := oEq) (e_mod (e_divW (i := N) (u := 180) rfl rfl ⟨by decide, by decide⟩) rfl (by decide)) rfl (eq_int _ _)))
    cases q2 : (decide (N % 3 = 1) && decide (N / 180 % 3 = 0)) with
    | true =>
      rw [q2] at c2
      refine ⟨T.map (without t), h.out t, ?_⟩
      rw [m_law_done]
      refine fn_ret ?_
      show sBlk _ [.sh (tD T), .sh (lD T), .sh (.int N), .un, .un, .un, .un, .un] = _
      rw [blk a1, blk a2, blk (sIf_nil c1)]
      refine blk_ret ?_
      rw [sIf_t c2]
      exact s_ret (e_lst2 (e_call2 rfl rfl (taken_out_ok h.small)) (e_call2 rfl rfl (without_ok h.small)))
    | false =>
      rw [q2] at c2
      have key : ∃ (T' : List (List Pr)) (f : D), Inv T' ∧ m_law_next [lD T] = .ok (.lst [lD T', f]) ∧ m_next_turn [tD T] = .ok (.tup [tD T', f]) ∧ oNe f f = .ok (.bl false) ∧ oIsA .bool f = .ok (.bl false) := by
        cases hf : full T with
        | nil => exact ⟨T, .non, h, lnext_none h hf, next_none h.small hf, rfl, rfl⟩
        | cons q rest =>
          match q, hf with
          | [], hf =>
            have : ([] : List Pr) ∈ full T := by rw [hf]; exact List.mem_cons_self
            exact absurd (List.mem_filter.mp this).2 (by decide)
          | (t, p) :: r, hf => exact ⟨_, .int t, (h.out t).pass, lnext_some h hf, next_some h.small h.five hf, by rw [ne_intK, decide_eq_true rfl]; rfl, rfl⟩
      obtain ⟨T', f, hI, e1, e2, hne, hb⟩ := key
      refine ⟨T', hI, ?_⟩
      rw [m_law_done]
      refine fn_ret ?_
      show sBlk _ [.sh (tD T), .sh (lD T), .sh (.int N), .un, .un, .un, .un, .un] = _
      rw [blk a1, blk a2, blk (sIf_nil c1), blk (sIf_nil c2)]
      rw [blk (ρ' := [.sh (tD T), .sh (lD T), .sh (.int N), .sh (.int t), .sh (.int k), .sh (lD T'), .sh f, .un]) (by
        show ((eCall m_law_next [eVar 1]) _).bind _ = _
        rw [e_call1 (f := m_law_next) rfl e1, R.bind_ok]
        rfl)]
      rw [blk (s_asg (d := .tup [tD T', f]) (e_call1 rfl e2))]
      show sBlk _ [.sh (tD T), .sh (lD T), .sh (.int N), .sh (.int t), .sh (.int k), .sh (lD T'), .sh f, .sh (.tup [tD T', f])] = _
      rw [blk (sIf_nil (t_or (b := false) (c := false) (t_not (b := true) (t_v (e_one (x := .tup [tD T', f]) rfl rfl))) (t_or (b := false) (c := false) (t_v (e_two (o := oNe) (x := .int 2) (y := .int 2) (e_one (x := .tup [tD T', f]) rfl rfl) rfl (by rw [ne_intK]; rfl))) (t_or (b := false) (c := false) (t_v (e_two (o := oNe) (x := f) (y := f) (e_two (o := oIx) (x := .tup [tD T', f]) (y := .int 1) rfl rfl rfl) rfl hne)) (t_v (e_one (x := f) (e_two (o := oIx) (x := .tup [tD T', f]) (y := .int 1) rfl rfl rfl) hb))))))]
      exact blk_ret (s_ret (e_lst2 (e_two (o := oIx) (x := .tup [tD T', f]) (y := .int 0) rfl rfl rfl) rfl))
/-! ### they are what is due -/
theorem lay_lD (T : List (List Pr)) : lay (lD T) = true ∧ dep (lD T) ≤ 60 := by
  unfold lD
  refine ⟨?_, ?_⟩
  · rw [lay]
    refine lays_of fun d hd => ?_
    obtain ⟨r, _, rfl⟩ := List.mem_map.mp hd
    exact lay_row r
  · rw [dep]
    have : deps (T.map rowD) ≤ 2 := deps_of fun d hd => by
      obtain ⟨r, _, rfl⟩ := List.mem_map.mp hd
      unfold rowD
      rw [dep]
      have : deps (r.map pr) ≤ 1 := deps_of fun d hd => by
        obtain ⟨x, _, rfl⟩ := List.mem_map.mp hd
        show deps [.int x.1, .int x.2] + 1 ≤ 1
        exact Nat.le_refl _
      omega
    omega
theorem whole_int (i : Int) : m_law_whole [.int i] = .ok (.bl true) := rfl
theorem are_one {s0 s1 : Slot} {r : List Pr} {x : Pr} : m_law_are_l1 [s0, s1, .sh (rowD r), .sh (pr x)] = .ok (.next [s0, s1, .sh (rowD r), .sh (pr x)]) := by
  rw [m_law_are_l1]
  rw [blk (sIf_nil (t_or (b := false) (c := false) (t_not (b := true) (t_v (e_one (x := rowD r) rfl rfl))) (t_not (b := true) (t_v (e_one (x := pr x) rfl rfl)))))]
  rw [blk (sIf_nil (t_or (b := false) (c := false) (t_not (b := true) (t_v (e_call1 (e_two (o := oIx) (x := pr x) (y := .int 0) rfl rfl rfl) (whole_int _)))) (t_not (b := true) (t_v (e_call1 (e_two (o := oIx) (x := pr x) (y := .int 1) rfl rfl rfl) (whole_int _))))))]
  rfl
theorem are_row {s0 s1 : Slot} {r : List Pr} : ∀ (xs : List Pr) (s3 : Slot), ∃ t3, forL (gName 3) m_law_are_l1 (xs.map pr) [s0, s1, .sh (rowD r), s3] = .ok (.next [s0, s1, .sh (rowD r), t3])
  | [], s3 => ⟨s3, rfl⟩
  | x :: xs, s3 => by
    obtain ⟨t3, ih⟩ := are_row (s0 := s0) (s1 := s1) (r := r) xs (.sh (pr x))
    refine ⟨t3, ?_⟩
    rw [List.map_cons, forL]
    rw [show gName 3 (pr x) [s0, s1, .sh (rowD r), s3] = .ok [s0, s1, .sh (rowD r), .sh (pr x)] from rfl, R.bind_ok, are_one, R.bind_ok]
    exact ih
theorem are_rows {s0 s1 : Slot} : ∀ (rs : List (List Pr)) (s2 s3 : Slot), ∃ t2 t3, forL (gName 2) m_law_are_l2 (rs.map rowD) [s0, s1, s2, s3] = .ok (.next [s0, s1, t2, t3])
  | [], s2, s3 => ⟨s2, s3, rfl⟩
  | r :: rs, s2, s3 => by
    obtain ⟨u3, e⟩ := are_row (s0 := s0) (s1 := s1) (r := r) r s3
    obtain ⟨t2, t3, ih⟩ := are_rows (s0 := s0) (s1 := s1) rs (.sh (rowD r)) u3
    refine ⟨t2, t3, ?_⟩
    rw [List.map_cons, forL]
    rw [show gName 2 (rowD r) [s0, s1, s2, s3] = .ok [s0, s1, .sh (rowD r), s3] from rfl, R.bind_ok, show m_law_are_l2 [s0, s1, .sh (rowD r), s3] = _ from for_seq (ds := r.map pr) rfl e, R.bind_ok]
    exact ih
theorem are_ok {T : List (List Pr)} (h : T.length = 5) : m_law_are [tD T, lD T] = .ok (.bl true) := by
  obtain ⟨t2, t3, e⟩ := are_rows (s0 := .sh (tD T)) (s1 := .sh (lD T)) T .un .un
  have l := lay_lD T
  rw [m_law_are]
  refine fn_ret ?_
  show sBlk _ [.sh (tD T), .sh (lD T), .un, .un] = _
  rw [blk (sIf_nil (t_or (b := false) (c := false) (t_not (b := true) (t_v (e_one (x := tD T) rfl rfl))) (t_or (b := false) (c := false) (t_v (e_two (o := oNe) (x := .int 5) (y := .int 5) (e_one (x := tD T) rfl (by
    show R.ok (D.int ((T.map rowD).length : Int)) = _
    rw [List.length_map, h]; rfl)) rfl (by rw [ne_intK]; rfl))) (t_v (e_two (o := oNe) (x := lD T) (y := lD T) (e_one (o := oList) (x := tD T) rfl rfl) rfl (ne_self l.1 l.2))))))]
  rw [blk (a := sFor _ _ _) (for_seq (ds := T.map rowD) rfl e)]
  exact blk_ret (s_ret rfl)
end K54
end PL
set_option linter.all false
set_option maxRecDepth 4000
set_option Elab.async false
set_option maxHeartbeats 400000
namespace PL
namespace K54
open PySem G
def upto : Nat → Nat → List D
  | _, 0 => []
  | n, m + 1 => .int n :: upto (n + 1) m
theorem upto_eq : ∀ (m n : Nat), upto n m = (List.range m).map fun (k : Nat) => D.int ((n : Int) + (k : Int))
  | 0, n => rfl
  | m + 1, n => by
    rw [upto, upto_eq m (n + 1), List.range_succ_eq_map, List.map_cons, List.map_map]
    congr 1
    refine List.map_congr_left fun k _ => ?_
    show D.int (((n + 1 : Nat) : Int) + (k : Int)) = D.int ((n : Int) + ((k + 1 : Nat) : Int))
    congr 1
    omega
theorem range_upto (n : Nat) : rangeL 0 (n : Int) = upto 0 n := by
  rw [upto_eq]
  unfold rangeL
  rw [Int.sub_zero, Int.toNat_natCast]
  rfl
/-! ### where the law finds one -/
theorem find_row {T : List (List Pr)} {w : Int} {k : Nat} {r : List Pr} (hr : T[k]? = some r) (s0 s6 : Slot) : ∀ (xs pre : List Pr) (du : D) (s5 : Slot), r = pre ++ xs → (xs.map Prod.fst).Nodup →
    ∃ t5, forL (gName 5) m_law_stands_l1 (upto pre.length xs.length) [s0, .sh (lD T), .sh (.int w), .sh du, .sh (.int k), s5, s6] = .ok (.next [s0, .sh (lD T), .sh (.int w), .sh (match inRow w pre.length xs with
      | some (j, p) => .tup [.int k, .int j, .int p]
      | none => du), .sh (.int k), t5, s6])
  | [], pre, du, s5, _, _ => ⟨s5, rfl⟩
  | x :: xs, pre, du, s5, he, hn => by
    have hx : r[pre.length]? = some x := by rw [he, List.getElem?_append_right (Nat.le_refl _), Nat.sub_self]; rfl
    obtain ⟨hl, hxe⟩ := List.getElem?_eq_some_iff.mp hx
    have eix : ∀ (du : D), (e2 oIx (e2 oIx (eVar 1) (eVar 4)) (eVar 5)) [s0, .sh (lD T), .sh (.int w), .sh du, .sh (.int k), .sh (.int pre.length), s6] = .ok (pr x) := fun du => by
      refine e_two (o := oIx) (x := rowD r) (y := .int pre.length) (e_two (o := oIx) (x := lD T) (y := .int k) rfl rfl (ix_lrow hr)) rfl ?_
      unfold rowD
      refine ix_lst ?_
      rw [atI_nat (by rw [List.length_map]; exact hl), List.getElem_map, hxe]
    have ct : (tV (e2 oEq (e2 oIx (e2 oIx (e2 oIx (eVar 1) (eVar 4)) (eVar 5)) (eC (.int 0))) (eVar 2))) [s0, .sh (lD T), .sh (.int w), .sh du, .sh (.int k), .sh (.int pre.length), s6] = .ok (decide (x.1 = w)) :=
      t_v (e_two (o := oEq) (x := .int x.1) (y := .int w) (e_two (o := oIx) (x := pr x) (y := .int 0) (eix du) rfl rfl) rfl (eq_int _ _))
    obtain ⟨hn1, hn2⟩ := List.nodup_cons.mp hn
    have hpl : (pre ++ [x]).length = pre.length + 1 := by rw [List.length_append]; rfl
    rw [List.length_cons, upto, forL, show gName 5 (.int pre.length) [s0, .sh (lD T), .sh (.int w), .sh du, .sh (.int k), s5, s6] = .ok [s0, .sh (lD T), .sh (.int w), .sh du, .sh (.int k), .sh (.int pre.length), s6] from rfl, R.bind_ok]
    by_cases q : x.1 = w
    · rw [decide_eq_true q] at ct
      obtain ⟨t5, ih⟩ := find_row hr s0 s6 xs (pre ++ [x]) (.tup [.int k, .int pre.length, .int x.2]) (.sh (.int pre.length)) (by rw [he, List.append_assoc]; rfl) hn2
      rw [hpl, inRow_none (w := w) (r := xs) (fun y hy c => hn1 (List.mem_map.mpr ⟨y, hy, by rw [c, q]⟩))] at ih
      refine ⟨t5, ?_⟩
      have e1 : m_law_stands_l1 [s0, .sh (lD T), .sh (.int w), .sh du, .sh (.int k), .sh (.int pre.length), s6] = .ok (.next [s0, .sh (lD T), .sh (.int w), .sh (.tup [.int k, .int pre.length, .int x.2]), .sh (.int k), .sh (.int pre.length), s6]) := by
        rw [m_law_stands_l1, sIf_t ct]
        refine (s_asg (d := .tup [.int k, .int pre.length, .int x.2]) ?_).trans rfl
        have e3 : (e2 oIx (e2 oIx (e2 oIx (eVar 1) (eVar 4)) (eVar 5)) (eC (.int 1))) [s0, .sh (lD T), .sh (.int w), .sh du, .sh (.int k), .sh (.int pre.length), s6] = .ok (.int x.2) := e_two (o := oIx) (x := pr x) (y := .int 1) (eix du) rfl rfl
        show (eList [_, _, _] _).bind _ = _
        simp only [eList, e3, R.bind_ok]
        rfl
      rw [e1, R.bind_ok]
      simp only [inRow, if_pos q]
      exact ih
    · rw [decide_eq_false q] at ct
      obtain ⟨t5, ih⟩ := find_row hr s0 s6 xs (pre ++ [x]) du (.sh (.int pre.length)) (by rw [he, List.append_assoc]; rfl) hn2
      refine ⟨t5, ?_⟩
      rw [m_law_stands_l1, sIf_nil ct, R.bind_ok, inRow, if_neg q]
      rw [hpl] at ih
      exact ih
theorem rows_nod {r : List Pr} {rs : List (List Pr)} (h : (((r :: rs).flatten).map Prod.fst).Nodup) : (r.map Prod.fst).Nodup ∧ ((rs.flatten).map Prod.fst).Nodup ∧ ∀ w, w ∈ r.map Prod.fst → ∀ q ∈ rs, ∀ x ∈ q, x.1 ≠ w := by
  rw [List.flatten_cons, List.map_append] at h
  obtain ⟨h1, h2, h3⟩ := List.nodup_append.mp h
  exact ⟨h1, h2, fun w hw q hq x hx c => h3 w hw x.1 (List.mem_map_of_mem (List.mem_flatten.mpr ⟨q, hq, hx⟩)) c.symm⟩
theorem inRow_mem {w : Int} : ∀ {r : List Pr} {j : Int} {q : Int × Int}, inRow w j r = some q → w ∈ r.map Prod.fst
  | [], _, _, h => by cases h
  | x :: r, j, q, h => by
    rw [inRow] at h
    by_cases c : x.1 = w
    · exact List.mem_map.mpr ⟨x, List.mem_cons_self, c⟩
    · rw [if_neg c] at h
      exact List.mem_cons_of_mem _ (inRow_mem h)
theorem find_rows {T : List (List Pr)} (hI : Small T) {w : Int} (s0 s6 : Slot) : ∀ (rs pre : List (List Pr)) (du : D) (s4 s5 : Slot), T = pre ++ rs → ((rs.flatten).map Prod.fst).Nodup →
    ∃ t4 t5, forL (gName 4) m_law_stands_l2 (upto pre.length rs.length) [s0, .sh (lD T), .sh (.int w), .sh du, s4, s5, s6] = .ok (.next [s0, .sh (lD T), .sh (.int w), .sh (match stands w pre.length rs with
      | some q => stD (some q)
      | none => du), t4, t5, s6])
  | [], pre, du, s4, s5, _, _ => ⟨s4, s5, rfl⟩
  | r :: rs, pre, du, s4, s5, he, hn => by
    have hr : T[pre.length]? = some r := by rw [he, List.getElem?_append_right (Nat.le_refl _), Nat.sub_self]; rfl
    obtain ⟨n1, n2, n3⟩ := rows_nod hn
    have hrl := hI.2 r (List.mem_of_getElem? hr)
    have hpl : (pre ++ [r]).length = pre.length + 1 := by rw [List.length_append]; rfl
    obtain ⟨u5, e1⟩ := find_row (w := w) hr s0 s6 r [] du s5 rfl n1
    have e2 : m_law_stands_l2 [s0, .sh (lD T), .sh (.int w), .sh du, .sh (.int pre.length), s5, s6] = .ok (.next [s0, .sh (lD T), .sh (.int w), .sh (match inRow w 0 r with
      | some (j, p) => .tup [.int pre.length, .int j, .int p]
      | none => du), .sh (.int pre.length), u5, s6]) := by
      refine for_seq (ds := upto 0 r.length) ?_ e1
      rw [← range_upto]
      refine iRng1_ok (e_one (o := oLen) (x := rowD r) (e_two (o := oIx) (x := lD T) (y := .int pre.length) rfl rfl (ix_lrow hr)) ?_) (inR_of (by omega) (by omega))
      show R.ok (D.int ((r.map pr).length : Int)) = _
      rw [List.length_map]
    rw [List.length_cons, upto, forL, show gName 4 (.int pre.length) [s0, .sh (lD T), .sh (.int w), .sh du, s4, s5, s6] = .ok [s0, .sh (lD T), .sh (.int w), .sh du, .sh (.int pre.length), s5, s6] from rfl, R.bind_ok, e2, R.bind_ok]
    cases hc : inRow w 0 r with
    | none =>
      obtain ⟨t4, t5, ih⟩ := find_rows hI (w := w) s0 s6 rs (pre ++ [r]) du (.sh (.int pre.length)) u5 (by rw [he, List.append_assoc]; rfl) n2
      refine ⟨t4, t5, ?_⟩
      rw [hpl] at ih
      simp only [stands, hc]
      exact ih
    | some q =>
      obtain ⟨j, p⟩ := q
      obtain ⟨t4, t5, ih⟩ := find_rows hI (w := w) s0 s6 rs (pre ++ [r]) (.tup [.int pre.length, .int j, .int p]) (.sh (.int pre.length)) u5 (by rw [he, List.append_assoc]; rfl) n2
      rw [hpl, stands_none (w := w) (T := rs) (fun q hq x hx => n3 w (inRow_mem hc) q hq x hx)] at ih
      refine ⟨t4, t5, ?_⟩
      simp only [stands, hc]
      exact ih
theorem stands_ok {T : List (List Pr)} (h : Inv T) (w : Int) : m_law_stands [tD T, lD T, .int w] = .ok (.bl true) := by
  obtain ⟨t4, t5, e⟩ := find_rows h.small (w := w) (.sh (tD T)) .un T [] .non .un .un rfl h.nod
  have est := standing_ok T w
  rw [m_law_stands]
  refine fn_ret ?_
  show sBlk _ [.sh (tD T), .sh (lD T), .sh (.int w), .un, .un, .un, .un] = _
  rw [blk (ρ' := [.sh (tD T), .sh (lD T), .sh (.int w), .sh .non, .un, .un, .un]) rfl]
  rw [h.five] at e
  rw [blk (a := sFor _ _ _) (for_seq (ds := upto 0 5) rfl e)]
  cases hs : stands w 0 T with
  | none =>
    rw [hs] at est
    rw [blk (s_asg (d := .non) (e_call2 rfl rfl est))]
    show sBlk _ [.sh (tD T), .sh (lD T), .sh (.int w), .sh .non, t4, t5, .sh .non] = _
    refine blk_ret ?_
    rw [sIf_t (t_or_t (t_v (e_one (o := oIsN) (x := .non) rfl rfl)))]
    exact s_ret (e_two (o := oEq) (x := .non) (y := .non) rfl rfl rfl)
  | some q =>
    obtain ⟨i, j, p⟩ := q
    rw [hs] at est
    rw [blk (s_asg (d := .tup [.int i, .int j, .int p]) (e_call2 rfl rfl est))]
    show sBlk _ [.sh (tD T), .sh (lD T), .sh (.int w), .sh (.tup [.int i, .int j, .int p]), t4, t5, .sh (.tup [.int i, .int j, .int p])] = _
    rw [blk (sIf_nil (t_or (b := false) (c := false) (t_v (e_one (o := oIsN) (x := .tup [.int i, .int j, .int p]) rfl rfl)) (t_v (e_one (o := oIsN) (x := .tup [.int i, .int j, .int p]) rfl rfl))))]
    refine blk_ret (s_ret (e_andB (x := true) (y := true) (e_one (x := .tup [.int i, .int j, .int p]) rfl rfl) fun _ => e_andB (x := true) (y := true) ?_ fun _ => ?_))
    · refine e_two (o := oEq) (x := .lst []) (y := .lst []) ?_ rfl rfl
      refine eComp_ok (ds := [i, j, p].map .int) rfl (by show (3 : Nat) ≤ 16777216; decide) ?_
      show compL _ _ _ [.un] _ = _
      refine (compL_filter D.int (fun _ => false) D.int (xs := [i, j, p]) fun x _ => ⟨[.sh (.int x)], rfl, ?_, fun _ => rfl⟩).trans rfl
      show ((tNot (tV (eCall m_law_whole [eVar 0]))) [.sh (.int x)]).bind _ = _
      rw [t_not (b := true) (t_v (e_call1 rfl (whole_int x))), R.bind_ok]
      rfl
    · exact e_two (o := oEq) (x := .tup [.int i, .int j, .int p]) (y := .tup [.int i, .int j, .int p]) rfl rfl (eq_self rfl (show (1 : Nat) ≤ 60 by decide))
end K54
end PL
set_option Elab.async false
set_option linter.all false
set_option maxRecDepth 100000
namespace PL
open PySem PySem.Spec
open L2 (V Hp HO Cx PE PT PW PA PS PSs PG PGs VK TE TT TA TS TI TG Inv RelV Vals Rd SqL SqT upd Same Key XK Ends OpR UnR CallR R2 EP It Turn FpOk)
structure XE (X : Cx) (e : Expr) (f : Ex) : Prop where
  out : JE X e f
structure XF (X : Cx) (e : Expr) (f : Ex) : Prop where
  out : JF X e f
structure XT (X : Cx) (e : Expr) (f : Tst) : Prop where
  out : JT X e f
structure XW (X : Cx) (e : Expr) (f : Tst) : Prop where
  out : JW X e f
structure XA (X : Cx) (e : List Expr) (f : En → R (List D)) : Prop where
  out : JA X e f
structure XO (X : Cx) (e : Option Expr) (f : Option Ex) : Prop where
  out : JO X e f
structure XS (X : Cx) (e : Stmt) (f : Sm) : Prop where
  out : JS X e f
structure XSs (X : Cx) (e : List Stmt) (f : Sm) : Prop where
  out : JSs X e f
structure XG (X : Cx) (e : Expr) (f : Tgt) : Prop where
  out : JG X e f
structure XGs (X : Cx) (e : List Expr) (f : List D → En → R En) : Prop where
  out : JGs X e f
structure XCs (X : Cx) (e : List Expr) (f : List Tst) : Prop where
  out : JCs X e f
structure XP (X : Cx) (pos : Pos) (keys : List (Option Expr)) (values : List Expr) (ks : List Ky) (fs : List Ex) : Prop where
  out : JP X pos keys values ks fs
structure XM (X : Cx) (e : List Expr) (fs : List Ex) : Prop where
  out : JM X e fs
structure XN (X : Cx) (e : List Expr) (n : Nat) : Prop where
  out : JN X e n
structure XI (X : Cx) (tg e : Expr) (f : Itr) : Prop where
  out : JI X tg e f
theorem xje_var {X : L2.Cx} {pos : Pos} (i : Nat) {x : Str} (hN : X.N[i]? = some x) (hv : L2.Vis X.env.scope x) (hd : (x == ("__debug__" : Str)) = false) (hcd : (x == ("__classdict__" : Str)) = false) : XE X (.Name x pos) (eVar i) := ⟨je_var i hN hv hd hcd⟩
theorem xje_int {X : L2.Cx} {pos : Pos} {i : Int} {j : Nat} : XE X (.Constant (.int i) j pos) (eC (.int i)) := ⟨je_int ⟩
theorem xje_bl {X : L2.Cx} {pos : Pos} {b : Bool} {j : Nat} : XE X (.Constant (.bool b) j pos) (eC (.bl b)) := ⟨je_bl ⟩
theorem xje_non {X : L2.Cx} {pos : Pos} {j : Nat} : XE X (.Constant .none j pos) (eC .non) := ⟨je_non ⟩
theorem xje_op {X : L2.Cx} {pos : Pos} {op : Operator} {g : D → D → R D} {r : R2} {a b : Expr} {fa fb : Ex} (ho : OpR X (binaryOp op) r) (hg : OpL (mdOf X) g r) (ha : XE X a fa) (hb : XE X b fb) : XE X (.BinOp a op b pos) (e2 g fa fb) := ⟨je_op ho hg ha.out hb.out⟩
theorem xje_cmp {X : L2.Cx} {pos : Pos} {op : CmpOp} {g : D → D → R D} {r : R2} {a b : Expr} {fa fb : Ex} (ho : OpR X (compareOp op) r) (hg : OpL (mdOf X) g r) (ha : XE X a fa) (hb : XE X b fb) (hm : behindInMarks op b = false) : XE X (.Compare a [op] [b] pos) (e2 g fa fb) := ⟨je_cmp ho hg ha.out hb.out hm⟩
theorem xje_one {X : L2.Cx} {pos : Pos} {op : BoolOp} {a : Expr} {fa : Ex} (h : XE X a fa) : XE X (.BoolOp op [a] pos) fa := ⟨je_one h.out⟩
theorem xje_and {X : L2.Cx} {pos : Pos} {a b : Expr} {rest : List Expr} {fa fb : Ex} (ha : XE X a fa) (hb : XE X (.BoolOp .And (b :: rest) pos) fb) : XE X (.BoolOp .And (a :: b :: rest) pos) (eAnd fa fb) := ⟨je_and ha.out hb.out⟩
theorem xjt_val {X : L2.Cx} {a : Expr} {fa : Ex} (ha : XE X a fa) (he : ∀ whole, isTrue a X.env whole = (do let v ← whole; standAt a.pos; holding [v] (truthy v))) : XT X a (tV fa) := ⟨jt_val ha.out he⟩
theorem xjt_cmp {X : L2.Cx} {pos : Pos} {op : CmpOp} {g : D → D → R D} {r : R2} {a b : Expr} {fa fb : Ex} (ho : OpR X (compareOp op) r) (hg : OpL (mdOf X) g r) (hB : Bin g) (ha : XE X a fa) (hb : XE X b fb) (hm : behindInMarks op b = false) : XT X (.Compare a [op] [b] pos) (tV (e2 g fa fb)) := ⟨jt_cmp ho hg hB ha.out hb.out hm⟩
theorem xjt_isN {X : L2.Cx} {pos : Pos} {j : Nat} {p2 : Pos} {a : Expr} {fa : Ex} (ha : XE X a fa) : XT X (.Compare a [.Is] [.Constant .none j p2] pos) (tV (e1 oIsN fa)) := ⟨jt_isN ha.out⟩
theorem xjt_not {X : L2.Cx} {pos : Pos} {a : Expr} {c : Tst} (ha : XT X a c) : XT X (.UnaryOp .Not a pos) (tNot c) := ⟨jt_not ha.out⟩
theorem xjw_and1 {X : L2.Cx} {pos : Pos} {a : Expr} {c : Tst} (ha : XT X a c) : XW X (.BoolOp .And [a] pos) c := ⟨jw_and1 ha.out⟩
theorem xjw_or1 {X : L2.Cx} {pos : Pos} {a : Expr} {c : Tst} (ha : XT X a c) : XW X (.BoolOp .Or [a] pos) c := ⟨jw_or1 ha.out⟩
theorem xjw_and {X : L2.Cx} {pos : Pos} {a b : Expr} {rest : List Expr} {c c' : Tst} (ha : XT X a c) (hb : XW X (.BoolOp .And (b :: rest) pos) c') : XW X (.BoolOp .And (a :: b :: rest) pos) (tAnd c c') := ⟨jw_and ha.out hb.out⟩
theorem xjw_or {X : L2.Cx} {pos : Pos} {a b : Expr} {rest : List Expr} {c c' : Tst} (ha : XT X a c) (hb : XW X (.BoolOp .Or (b :: rest) pos) c') : XW X (.BoolOp .Or (a :: b :: rest) pos) (tOr c c') := ⟨jw_or ha.out hb.out⟩
theorem xjt_bool {X : L2.Cx} {e : Expr} {c : Tst} (h : XW X e c) : XT X e c := ⟨jt_bool h.out⟩
theorem xje_not {X : L2.Cx} {pos : Pos} {a : Expr} {fa : Ex} (ha : XE X a fa) : XE X (.UnaryOp .Not a pos) (e1 oNot fa) := ⟨je_not ha.out⟩
theorem xja_nil {X : L2.Cx}  : XA X [] (eList []) := ⟨ja_nil ⟩
theorem xja_cons {X : L2.Cx} {e : Expr} {es : List Expr} {f : Ex} {fs : List Ex} (ha : XE X e f) (hr : XA X es (eList fs)) (hs : starEach (e :: es) X.env = (false, eval e X.env) :: starEach es X.env) : XA X (e :: es) (eList (f :: fs)) := ⟨ja_cons ha.out hr.out hs⟩
theorem xje_tup {X : L2.Cx} {pos : Pos} {es : List Expr} {fs : List Ex} {k : Nat} (h : XA X es (eList fs)) (hl : fs.length ≤ 1000) : XE X (.Tuple es k pos) (eTup fs) := ⟨je_tup h.out hl⟩
theorem xje_lst {X : L2.Cx} {pos : Pos} {es : List Expr} {fs : List Ex} (h : XA X es (eList fs)) (hl : fs.length ≤ 1000) : XE X (.List es pos) (eLst fs) := ⟨je_lst h.out hl⟩
theorem xjo_none {X : L2.Cx}  : XO X none none := ⟨jo_none ⟩
theorem xjo_some {X : L2.Cx} {e : Expr} {f : Ex} (h : XE X e f) : XO X (some e) (some f) := ⟨jo_some h.out⟩
theorem xje_sl {X : L2.Cx} {pos : Pos} {a : Expr} {lo hi : Option Expr} {fa : Ex} {fl fh : Option Ex} {p2 : Pos} (ha : XE X a fa) (hl : XO X lo fl) (hh : XO X hi fh) : XE X (.Subscript a (.Slice lo hi none p2) pos) (eSl fa fl fh) := ⟨je_sl ha.out hl.out hh.out⟩
theorem xje_b1 {X : L2.Cx} {pos : Pos} {g : D → R D} {r : List V → Hp → VK → Prop} {x : Str} {id : String} {a : Expr} {fa : Ex} {p : Pos} (hc : CallR X (.builtin id) r) (hg : CaL (mdOf X) (g1 g) r) (hgl : L2.Gl X x) (hm : X.mg x = none) (hv : bootBuiltins x = some (.builtin id)) (ha : XE X a fa) (hs : starEach [a] X.env = (false, eval a X.env) :: starEach [] X.env) (hn : x ≠ "__name__") (hdb : (x == ("__debug__" : Str)) = false) : XE X (.Call (.Name x p) [a] [] pos) (e1 g fa) := ⟨je_b1 hc hg hgl hm hv ha.out hs hn hdb⟩
theorem xje_b2 {X : L2.Cx} {pos : Pos} {g : D → D → R D} {r : List V → Hp → VK → Prop} {x : Str} {id : String} {a b : Expr} {fa fb : Ex} {p : Pos} (hc : CallR X (.builtin id) r) (hg : CaL (mdOf X) (g2 g) r) (hgl : L2.Gl X x) (hm : X.mg x = none) (hv : bootBuiltins x = some (.builtin id)) (ha : XE X a fa) (hb : XE X b fb) (hs : starEach [a, b] X.env = (false, eval a X.env) :: starEach [b] X.env) (hs2 : starEach [b] X.env = (false, eval b X.env) :: starEach [] X.env) (hn : x ≠ "__name__") (hdb : (x == ("__debug__" : Str)) = false) : XE X (.Call (.Name x p) [a, b] [] pos) (e2 g fa fb) := ⟨je_b2 hc hg hgl hm hv ha.out hb.out hs hs2 hn hdb⟩
theorem xje_t1 {X : L2.Cx} {pos : Pos} {g : D → R D} {r : List V → Hp → VK → Prop} {x : Str} {T : String} {a : Expr} {fa : Ex} {p : Pos} (hc : CallR X (.type T) r) (hg : CaL (mdOf X) (g1 g) r) (hgl : L2.Gl X x) (hm : X.mg x = none) (hv : bootBuiltins x = some (.type T)) (ha : XE X a fa) (hs : starEach [a] X.env = (false, eval a X.env) :: starEach [] X.env) (hn : x ≠ "__name__") (hdb : (x == ("__debug__" : Str)) = false) : XE X (.Call (.Name x p) [a] [] pos) (e1 g fa) := ⟨je_t1 hc hg hgl hm hv ha.out hs hn hdb⟩
theorem xje_isA {X : L2.Cx} {pos : Pos} (ty : Ty) {a : Expr} {fa : Ex} {p p2 : Pos} {T : Str} (ha : XE X a fa) (hg : L2.Gl X "isinstance") (hm : X.mg "isinstance" = none) (hgT : L2.Gl X T) (hmT : X.mg T = none) (hvT : bootBuiltins T = some (.type (tyN ty))) (hs : starEach [a, .Name T p2] X.env = (false, eval a X.env) :: starEach [.Name T p2] X.env) (hs2 : starEach [.Name T p2] X.env = (false, eval (.Name T p2) X.env) :: starEach [] X.env) (hnT : T ≠ "__name__") (hdT : (T == ("__debug__" : Str)) = false) : XE X (.Call (.Name "isinstance" p) [a, .Name T p2] [] pos) (e1 (oIsA ty) fa) := ⟨je_isA ty ha.out hg hm hgT hmT hvT hs hs2 hnT hdT⟩
theorem xjs_nil {X : L2.Cx}  : XSs X [] (sBlk []) := ⟨js_nil ⟩
theorem xjs_nil' {X : L2.Cx}  : XSs X [] sNil := ⟨js_nil' ⟩
theorem xjs_cons {X : L2.Cx} {st : Stmt} {rest : List Stmt} {f : Sm} {fs : List Sm} (h1 : XS X st f) (h2 : XSs X rest (sBlk fs)) : XSs X (st :: rest) (sBlk (f :: fs)) := ⟨js_cons h1.out h2.out⟩
theorem xjs_one {X : L2.Cx} {st : Stmt} {f : Sm} (h : XS X st f) : XSs X [st] f := ⟨js_one h.out⟩
theorem xjs_if {X : L2.Cx} {pos : Pos} {c : Expr} {a b : List Stmt} {fc : Tst} {fa fb : Sm} (hc : XT X c fc) (ha : XSs X a fa) (hb : XSs X b fb) : XS X (.If c a b pos) (sIf fc fa fb) := ⟨js_if hc.out ha.out hb.out⟩
theorem xjs_ret {X : L2.Cx} {pos : Pos} {a : Expr} {fa : Ex} (ha : XE X a fa) : XS X (.Return (some a) pos) (sRet fa) := ⟨js_ret ha.out⟩
theorem xjg_name {X : L2.Cx} {pos : Pos} (i : Nat) {x : Str} (hN : X.N.Nodup) (hi : X.N[i]? = some x) (hx : L2.Loc X.env.scope x) (hf : X.fn x = true ∨ X.env.scope.names.lookup x = some .local) : XG X (.Name x pos) (gName i) := ⟨jg_name i hN hi hx hf⟩
theorem xjgs_nil {X : L2.Cx}  : XGs X [] (gNames []) := ⟨jgs_nil ⟩
theorem xjgs_cons {X : L2.Cx} (i : Nat) {is : List Nat} {e : Expr} {es : List Expr} (h1 : XG X e (gName i)) (h2 : XGs X es (gNames is)) (hs : (assignEach (e :: es) X.env).map (·.2) = assign e X.env :: (assignEach es X.env).map (·.2)) : XGs X (e :: es) (gNames (i :: is)) := ⟨jgs_cons i h1.out h2.out hs⟩
theorem xjg_tup {X : L2.Cx} {pos : Pos} {is : List Nat} {es : List Expr} {k : Nat} (hc : X.calm = true) (h : XGs X es (gNames is)) (hn : (assignEach es X.env).length = is.length) (hst : (assignEach es X.env).findIdx? (·.1) = none) : XG X (.Tuple es k pos) (gTup is) := ⟨jg_tup hc h.out hn hst⟩
theorem xjs_asg {X : L2.Cx} {pos : Pos} {tg e : Expr} {fa : Ex} {g : Tgt} (ha : XE X e fa) (hg : XG X tg g) (hs : swapsWithSole [tg] e pos.line X.env = pure false) (hw : swappedStores [tg] e X.env = pure none) (h1 : (assignEach [tg] X.env).map (·.2) = [assign tg X.env]) : XS X (.Assign [tg] e pos) (sAsg g fa) := ⟨js_asg ha.out hg.out hs hw h1⟩
theorem xjs_for {X : L2.Cx} {pos : Pos} {tg iter : Expr} {body : List Stmt} {it : Itr} {g : Tgt} {f : Sm} (hp : PassesOwn (model X.prog X.w) X.A X.env X.xe) (hc : X.calm = true) (hi : XI X tg iter it) (hg : XG X tg g) (hb : XSs X body f) (hs : ∀ x, foldedSetIterable iter X.env x = pure x) : XS X (.For tg iter body [] pos) (sFor it g f) := ⟨js_for hp hc hi.out hg.out hb.out hs⟩
theorem xji_rng1 {X : L2.Cx} {pos : Pos} {tg a : Expr} {fa : Ex} {p : Pos} (hg : L2.Gl X "range") (hm : X.mg "range" = none) (ha : XE X a fa) (hs : starEach [a] X.env = (false, eval a X.env) :: starEach [] X.env) : XI X tg (.Call (.Name "range" p) [a] [] pos) (iRng1 fa) := ⟨ji_rng1 hg hm ha.out hs⟩
theorem xji_rng2 {X : L2.Cx} {pos : Pos} {tg a b : Expr} {fa fb : Ex} {p : Pos} (hg : L2.Gl X "range") (hm : X.mg "range" = none) (ha : XE X a fa) (hb : XE X b fb) (hs : starEach [a, b] X.env = (false, eval a X.env) :: starEach [b] X.env) (hs2 : starEach [b] X.env = (false, eval b X.env) :: starEach [] X.env) : XI X tg (.Call (.Name "range" p) [a, b] [] pos) (iRng2 fa fb) := ⟨ji_rng2 hg hm ha.out hb.out hs hs2⟩
theorem xjs_freeze {X : L2.Cx} (i : Nat) {rest : List Stmt} {fs : List Sm} (h : XSs X rest (sBlk fs)) : XSs X rest (sBlk (sFreeze i :: fs)) := ⟨js_freeze i h.out⟩
theorem xjf_lst {X : L2.Cx} {pos : Pos} {es : List Expr} {fs : List Ex} (h : XA X es (eList fs)) (hl : fs.length ≤ 1000) : XF X (.List es pos) (eLst fs) := ⟨jf_lst h.out hl⟩
theorem xjs_ownL {X : L2.Cx} {pos : Pos} (i : Nat) {x : Str} {e : Expr} {f : Ex} {p2 : Pos} (hN : X.N.Nodup) (he : XF X e f) (hi : X.N[i]? = some x) (hx : L2.Loc X.env.scope x) (hf : X.fn x = true ∨ X.env.scope.names.lookup x = some .local) (hs : swapsWith e (some (.Name x p2)) pos.line X.env = pure false) : XS X (.Assign [.Name x p2] e pos) (sOwnL i f) := ⟨js_ownL i hN he.out hi hx hf hs⟩
theorem xje_lenO {X : L2.Cx} {pos : Pos} (i : Nat) {x : Str} {p p2 : Pos} (hg : L2.Gl X "len") (hm : X.mg "len" = none) (hN : X.N[i]? = some x) (hv : L2.Vis X.env.scope x) (hd : (x == ("__debug__" : Str)) = false) (hcd : (x == ("__classdict__" : Str)) = false) (hs : starEach [.Name x p2] X.env = (false, eval (.Name x p2) X.env) :: starEach [] X.env) : XE X (.Call (.Name "len" p) [.Name x p2] [] pos) (eLenL i) := ⟨je_lenO i hg hm hN hv hd hcd hs⟩
theorem xje_ixO {X : L2.Cx} {pos : Pos} (i : Nat) {x : Str} {b : Expr} {fb : Ex} {p2 : Pos} (hb : XE X b fb) (hN : X.N[i]? = some x) (hv : L2.Vis X.env.scope x) (hd : (x == ("__debug__" : Str)) = false) (hcd : (x == ("__classdict__" : Str)) = false) (hs : L2.PlainIx b) : XE X (.Subscript (.Name x p2) b pos) (eIxL i fb) := ⟨je_ixO i hb.out hN hv hd hcd hs⟩
theorem xje_call {X : L2.Cx} {pos : Pos} {x : Str} {k j n : Nat} {m : List D → R D} {e : Expr} {es : List Expr} {fs : List Ex} {p : Pos} (d : Df X.prog X.w X.K X.mg X.base x k n m) (hr : L2.Room j X.A) (hg : L2.Gl X x) (ha : XA X (e :: es) (eList fs)) (hk : k ≤ j) (hn : fs.length = n) (hdb : (x == ("__debug__" : Str)) = false) (he : starEach (e :: es) X.env = (false, eval e X.env) :: starEach es X.env) (hpl : (backTo pos (starEach es X.env)).any (·.1) = false) : XE X (.Call (.Name x p) (e :: es) [] pos) (eCall m fs) := ⟨je_call d hr hg ha.out hk hn hdb he hpl⟩
theorem xje_call0 {X : L2.Cx} {pos : Pos} {x : Str} {k j : Nat} {m : List D → R D} {p : Pos} (d : Df X.prog X.w X.K X.mg X.base x k 0 m) (hr : L2.Room j X.A) (hg : L2.Gl X x) (hk : k ≤ j) (hdb : (x == ("__debug__" : Str)) = false) : XE X (.Call (.Name x p) [] [] pos) (eCall m []) := ⟨je_call0 d hr hg hk hdb⟩
theorem xji_seq {X : L2.Cx} {tg l : Expr} {fa : Ex} (ha : XE X l fa) : XI X tg l (iSeq fa) := ⟨ji_seq ha.out⟩
theorem xje_globD {X : Cx} {pos : Pos} {x : Str} {d : D} (g : GlD X.prog X.w X.K X.mg x d) (hg : L2.Gl X x) (hd : (x == ("__debug__" : Str)) = false) : XE X (.Name x pos) (eC d) := ⟨je_globD g hg hd⟩
theorem xje_ix {X : L2.Cx} {pos : Pos} {a b : Expr} {fa fb : Ex} (ha : XE X a fa) (hb : XE X b fb) (hs : L2.PlainIx b) : XE X (.Subscript a b pos) (e2 oIx fa fb) := ⟨je_ix ha.out hb.out hs⟩
theorem xjs_setO {X : L2.Cx} {pos : Pos} (i : Nat) {x : Str} {e k : Expr} {f g : Ex} {p2 p3 : Pos} (he : XE X e f) (hk : XE X k g) (hN : X.N[i]? = some x) (hv : L2.Vis X.env.scope x) (hd : (x == ("__debug__" : Str)) = false) (hcd : (x == ("__classdict__" : Str)) = false) (ha : SetAsn X.env (.Name x p2) k p3) (hs : swapsWithSole [.Subscript (.Name x p2) k p3] e pos.line X.env = pure false) (hw : swappedStores [.Subscript (.Name x p2) k p3] e X.env = pure none) (h1 : (assignEach [.Subscript (.Name x p2) k p3] X.env).map (·.2) = [assign (.Subscript (.Name x p2) k p3) X.env]) : XS X (.Assign [.Subscript (.Name x p2) k p3] e pos) (sSetO i g f) := ⟨js_setO i he.out hk.out hN hv hd hcd ha hs hw h1⟩
theorem xjs_extend {X : L2.Cx} {pos : Pos} (i : Nat) {x : Str} {e : Expr} {f : Ex} {p2 apos cpos : Pos} (he : XF X e f) (hN : X.N[i]? = some x) (hv : L2.Vis X.env.scope x) (hd : (x == ("__debug__" : Str)) = false) (hcd : (x == ("__classdict__" : Str)) = false) (hbase : attributeBase (.Name x p2) "extend" X.env (eval (.Name x p2) X.env) = eval (.Name x p2) X.env) (hfew : ((backTo cpos (starEach [e] X.env)).all (fun x => !x.1) && (backToKw cpos (keywordEach [] X.env)).all (fun x => x.1.isSome)       && decide (([e] : List Expr).length + ([] : List Keyword).length + (if ([] : List Keyword).isEmpty then 0 else 1) < 30)) = true) (hline : (apos.endLine == cpos.line) = true) (hs : starEach [e] X.env = (false, eval e X.env) :: starEach [] X.env) (hsw : swapsWith (.Call (.Attribute (.Name x p2) "extend" apos) [e] [] cpos) none pos.line X.env = pure false) : XS X (.Expr (.Call (.Attribute (.Name x p2) "extend" apos) [e] [] cpos) pos) (sExtend i f) := ⟨js_extend i he.out hN hv hd hcd hbase hfew hline hs hsw⟩
theorem xjf_list {X : L2.Cx} {pos : Pos} {a : Expr} {fa : Ex} {p : Pos} (hgl : L2.Gl X "list") (hm : X.mg "list" = none) (ha : XE X a fa) (hs : starEach [a] X.env = (false, eval a X.env) :: starEach [] X.env) : XF X (.Call (.Name "list" p) [a] [] pos) (e1 oList fa) := ⟨jf_list hgl hm ha.out hs⟩
theorem xjf_call {X : L2.Cx} {pos : Pos} {x : Str} {k j n : Nat} {m : List D → R D} {e : Expr} {es : List Expr} {fs : List Ex} {p : Pos} (d : DfN X.prog X.w X.K X.mg X.base x k n m) (hr : L2.Room j X.A) (hg : L2.Gl X x) (ha : XA X (e :: es) (eList fs)) (hk : k ≤ j) (hn : fs.length = n) (hdb : (x == ("__debug__" : Str)) = false) (he : starEach (e :: es) X.env = (false, eval e X.env) :: starEach es X.env) (hpl : (backTo pos (starEach es X.env)).any (·.1) = false) : XF X (.Call (.Name x p) (e :: es) [] pos) (eCall m fs) := ⟨jf_call d hr hg ha.out hk hn hdb he hpl⟩
theorem xje_callN {X : L2.Cx} {pos : Pos} {x : Str} {k j n N : Nat} {body : Sm} {m : List D → R D} {e : Expr} {es : List Expr} {fs : List Ex} {p : Pos} (d : DfN X.prog X.w X.K X.mg X.base x k n m) (hm : m = fnN N body) (hr : L2.Room j X.A) (hg : L2.Gl X x) (ha : XA X (e :: es) (eList fs)) (hk : k ≤ j) (hn : fs.length = n) (hdb : (x == ("__debug__" : Str)) = false) (he : starEach (e :: es) X.env = (false, eval e X.env) :: starEach es X.env) (hpl : (backTo pos (starEach es X.env)).any (·.1) = false) : XE X (.Call (.Name x p) (e :: es) [] pos) (eCall m fs) := ⟨je_callN d hm hr hg ha.out hk hn hdb he hpl⟩
theorem xjs_retF {X : L2.Cx} {pos : Pos} {a : Expr} {fa : Ex} (ha : XF X a fa) (hl : ∀ ρ d, fa ρ = .ok d → ∃ ds, d = .lst ds) : XS X (.Return (some a) pos) (sRetF fa) := ⟨js_retF ha.out hl⟩
theorem xjf_listRng {X : L2.Cx} {pos : Pos} {a b : Expr} {fa fb : Ex} {p p2 pos2 : Pos} (hc : X.calm = true) (hg : L2.Gl X "list") (hm : X.mg "list" = none) (hg2 : L2.Gl X "range") (hm2 : X.mg "range" = none) (ha : XE X a fa) (hb : XE X b fb) (hs0 : starEach [.Call (.Name "range" p2) [a, b] [] pos2] X.env = (false, eval (.Call (.Name "range" p2) [a, b] [] pos2) X.env) :: starEach [] X.env) (hs : starEach [a, b] X.env = (false, eval a X.env) :: starEach [b] X.env) (hs2 : starEach [b] X.env = (false, eval b X.env) :: starEach [] X.env) : XF X (.Call (.Name "list" p) [.Call (.Name "range" p2) [a, b] [] pos2] [] pos) (e2 oListRng fa fb) := ⟨jf_listRng hc hg hm hg2 hm2 ha.out hb.out hs0 hs hs2⟩
theorem xjs_pop {X : L2.Cx} {pos : Pos} (j i : Nat) {x y : Str} {e : Expr} {f : Ex} {p2 p3 apos cpos : Pos} (nd : X.N.Nodup) (he : XE X e f) (hj : X.N[j]? = some y) (hN : X.N[i]? = some x) (hx : L2.Loc X.env.scope y) (hv : L2.Vis X.env.scope x) (hf : X.fn y = true ∨ X.env.scope.names.lookup y = some .local) (hd : (x == ("__debug__" : Str)) = false) (hcd : (x == ("__classdict__" : Str)) = false) (hbase : attributeBase (.Name x p2) "pop" X.env (eval (.Name x p2) X.env) = eval (.Name x p2) X.env) (hfew : ((backTo cpos (starEach [e] X.env)).all (fun x => !x.1) && (backToKw cpos (keywordEach [] X.env)).all (fun x => x.1.isSome)       && decide (([e] : List Expr).length + ([] : List Keyword).length + (if ([] : List Keyword).isEmpty then 0 else 1) < 30)) = true) (hline : (apos.endLine == cpos.line) = true) (hs : starEach [e] X.env = (false, eval e X.env) :: starEach [] X.env) (hsw : swapsWith (.Call (.Attribute (.Name x p2) "pop" apos) [e] [] cpos) (some (.Name y p3)) pos.line X.env = pure false) : XS X (.Assign [.Name y p3] (.Call (.Attribute (.Name x p2) "pop" apos) [e] [] cpos) pos) (sPop j i f) := ⟨js_pop j i nd he.out hj hN hx hv hf hd hcd hbase hfew hline hs hsw⟩
theorem xji_enum {X : L2.Cx} {pos : Pos} {elts : List Expr} {k : Nat} {tp : Pos} {a : Expr} {fa : Ex} {p : Pos} (hg : L2.Gl X "enumerate") (hm : X.mg "enumerate" = none) (ha : XE X a fa) (hs : starEach [a] X.env = (false, eval a X.env) :: starEach [] X.env) : XI X (.Tuple elts k tp) (.Call (.Name "enumerate" p) [a] [] pos) (iEnumC 0 fa) := ⟨ji_enum hg hm ha.out hs⟩
theorem xji_revA {X : L2.Cx} {pos : Pos} {tg a : Expr} {fa : Ex} {p : Pos} (hg : L2.Gl X "reversed") (hm : X.mg "reversed" = none) (ha : XE X a fa) (hs : starEach [a] X.env = (false, eval a X.env) :: starEach [] X.env) : XI X tg (.Call (.Name "reversed" p) [a] [] pos) (iRevA fa) := ⟨ji_revA hg hm ha.out hs⟩
theorem xjs_freezeN {X : L2.Cx} (i : Nat) {rest : List Stmt} {fs : List Sm} (h : XSs X rest (sBlk fs)) : XSs X rest (sBlk (sFreezeN i :: fs)) := ⟨js_freezeN i h.out⟩
theorem xjn_nil {X : L2.Cx}  : XN X [] 0 := ⟨jn_nil ⟩
theorem xjn_cons {X : L2.Cx} {pos : Pos} {n : Nat} {es : List Expr} (h : XN X es n) (hs : starEach (.List [] pos :: es) X.env = (false, eval (.List [] pos) X.env) :: starEach es X.env) : XN X (.List [] pos :: es) (n + 1) := ⟨jn_cons h.out hs⟩
theorem xjs_ownN {X : L2.Cx} {pos : Pos} (i n : Nat) {x : Str} {es : List Expr} {p1 p2 : Pos} (hN : X.N.Nodup) (he : XN X es n) (hn : n ≤ 1000) (hi : X.N[i]? = some x) (hx : L2.Loc X.env.scope x) (hf : X.fn x = true ∨ X.env.scope.names.lookup x = some .local) (hs : swapsWith (.List es p1) (some (.Name x p2)) pos.line X.env = pure false) : XS X (.Assign [.Name x p2] (.List es p1) pos) (sOwnN i n) := ⟨js_ownN i n hN he.out hn hi hx hf hs⟩
theorem xjs_appendN {X : L2.Cx} {pos : Pos} (i : Nat) {x : Str} {b e : Expr} {f g : Ex} {p2 p3 apos cpos : Pos} (hb : XE X b g) (he : XE X e f) (hN : X.N[i]? = some x) (hv : L2.Vis X.env.scope x) (hd : (x == ("__debug__" : Str)) = false) (hcd : (x == ("__classdict__" : Str)) = false) (hix : L2.PlainIx b) (hbase : attributeBase (.Subscript (.Name x p2) b p3) "append" X.env (eval (.Subscript (.Name x p2) b p3) X.env) = eval (.Subscript (.Name x p2) b p3) X.env) (hfew : ((backTo cpos (starEach [e] X.env)).all (fun x => !x.1) && (backToKw cpos (keywordEach [] X.env)).all (fun x => x.1.isSome)       && decide (([e] : List Expr).length + ([] : List Keyword).length + (if ([] : List Keyword).isEmpty then 0 else 1) < 30)) = true) (hline : (apos.endLine == cpos.line) = true) (hs : starEach [e] X.env = (false, eval e X.env) :: starEach [] X.env) (hsw : swapsWith (.Call (.Attribute (.Subscript (.Name x p2) b p3) "append" apos) [e] [] cpos) none pos.line X.env = pure false) : XS X (.Expr (.Call (.Attribute (.Subscript (.Name x p2) b p3) "append" apos) [e] [] cpos) pos) (sAppendN i g f) := ⟨js_appendN i hb.out he.out hN hv hd hcd hix hbase hfew hline hs hsw⟩
theorem xjg_tupA {X : L2.Cx} {pos : Pos} {is : List Nat} {es : List Expr} {k : Nat} (hc : X.calm = true) (h : XGs X es (gNames is)) (hn : (assignEach es X.env).length = is.length) (hst : (assignEach es X.env).findIdx? (·.1) = none) : XG X (.Tuple es k pos) (gTupA is) := ⟨jg_tupA hc h.out hn hst⟩
theorem xjm_nil {X : L2.Cx}  : XM X [] [] := ⟨jm_nil ⟩
theorem xjm_cons {X : L2.Cx} {e : Expr} {es : List Expr} {f : Ex} {fs : List Ex} (he : XF X e f) (h : XM X es fs) (hs : starEach (e :: es) X.env = (false, eval e X.env) :: starEach es X.env) : XM X (e :: es) (f :: fs) := ⟨jm_cons he.out h.out hs⟩
theorem xjs_ownF {X : L2.Cx} {pos : Pos} (i : Nat) {x : Str} {es : List Expr} {fs : List Ex} {p1 p2 : Pos} (hN : X.N.Nodup) (he : XM X es fs) (hn : fs.length ≤ 1000) (hi : X.N[i]? = some x) (hx : L2.Loc X.env.scope x) (hf : X.fn x = true ∨ X.env.scope.names.lookup x = some .local) (hs : swapsWith (.List es p1) (some (.Name x p2)) pos.line X.env = pure false) : XS X (.Assign [.Name x p2] (.List es p1) pos) (sOwnF i fs) := ⟨js_ownF i hN he.out hn hi hx hf hs⟩
/-- a comprehension -/
theorem xjf_comp {X : L2.Cx} {pos : Pos} (tn fv : List Str) (fvi : List Nat) {elt iter target : Expr} {ifs : List Expr} {scope : Scope} {it : Itr} {tg : Tgt} {cs : List Tst} {el : Ex} (hxe : ∀ e s, ¬ X.xe e s) (hc : X.calm = true) (ok : CompOk X scope tn fv fvi) (hi : XI X target iter it) (low : Low tn.length tg)
    (ht : ∀ cl C s H fp, XG (cxC X scope cl C (tn ++ fv) s H fp) target tg) (hcs : ∀ cl C s H fp, XCs (cxC X scope cl C (tn ++ fv) s H fp) ifs cs) (hel : ∀ cl C s H fp, XE (cxC X scope cl C (tn ++ fv) s H fp) elt el)
    (hs : ∀ x, foldedSetIterable iter X.env x = pure x) : XF X (.ListComp elt [⟨target, iter, ifs, 0⟩] scope pos) (eComp it tn.length fvi tg cs el) :=
  ⟨je_comp tn fv fvi hxe hc ok hi.out low (fun cl C s H fp => (ht cl C s H fp).out) (fun cl C s H fp => (hcs cl C s H fp).out) (fun cl C s H fp => (hel cl C s H fp).out) hs⟩
theorem xje_comp {X : L2.Cx} {e : Expr} {it : Itr} {n : Nat} {fv : List Nat} {tg : Tgt} {cs : List Tst} {el : Ex} (h : XF X e (eComp it n fv tg cs el)) : XE X e (eComp it n fv tg cs el) := ⟨je_of_jf h.out comp_lst⟩
theorem xjs_compS {X : L2.Cx} {pos py spos : Pos} {y : Str} (i : Nat) (tn fv : List Str) (fvi : List Nat) {elt iter target : Expr} {ifs : List Expr} {scope : Scope} {it : Itr} {tg : Tgt} {cs : List Tst} {el : Ex} (hxe : ∀ e s, ¬ X.xe e s) (hc : X.calm = true) (ok : CompOk X scope tn fv fvi) (hi : XI X target iter it) (low : Low tn.length tg)
    (ht : ∀ cl C s H fp, XG (cxC X scope cl C (tn ++ fv) s H fp) target tg) (hcs : ∀ cl C s H fp, XCs (cxC X scope cl C (tn ++ fv) s H fp) ifs cs) (hel : ∀ cl C s H fp, XE (cxC X scope cl C (tn ++ fv) s H fp) elt el)
    (hs : ∀ x, foldedSetIterable iter X.env x = pure x) (hN : X.N.Nodup) (hy : X.N[i]? = some y) (hx : L2.Loc X.env.scope y) (hf : X.fn y = true ∨ X.env.scope.names.lookup y = some .local)
    (hsw : swapsWith (.ListComp elt [⟨target, iter, ifs, 0⟩] scope pos) (some (.Name y py)) spos.line X.env = pure true) : XS X (.Assign [.Name y py] (.ListComp elt [⟨target, iter, ifs, 0⟩] scope pos) spos) (sAsg (gName i) (eComp it tn.length fvi tg cs el)) :=
  ⟨sm_compS i (ps_comp i tn fv fvi hxe hc ok hi.out low (fun cl C s H fp => (ht cl C s H fp).out) (fun cl C s H fp => (hcs cl C s H fp).out) (fun cl C s H fp => (hel cl C s H fp).out) hs hN hy hx hf hsw) comp_lst⟩
theorem xjcs_nil {X : L2.Cx} : XCs X [] [] := ⟨.nil⟩
theorem xjcs_cons {X : L2.Cx} {e : Expr} {es : List Expr} {c : Tst} {cs : List Tst} (h : XT X e c) (r : XCs X es cs) : XCs X (e :: es) (c :: cs) := ⟨.cons h.out r.out⟩
end PL
set_option Elab.async false
set_option linter.all false
set_option maxRecDepth 100000
set_option maxHeartbeats 400000
namespace PL
namespace K54
open PySem PySem.Spec
open L2 (Hp XK)
def top (i : Nat) : Stmt := PySem.Challenge.pw_underfloor_k54_deeds_on_turns.main.body.getD i (.Pass ⟨0, 0, 0, 0⟩)
abbrev st_law_turns : Stmt := top 14
theorem sc_law_turns : L2.FnScope ["_law_number_here", "_law_spare", "_law_rows", "_law_k", "_law_task", "_law_way"] ["_law_number_here"] (L2.defScope st_law_turns) := ⟨rfl, rfl, rfl, by decide +kernel, rfl, by decide +kernel, by decide +kernel⟩
theorem d_law_turns {P : Program} {w : World} {K : PySem.W.Frag} {mg : Str → Option Value} {base : Heap} {f : Addr} {fd : FuncData} (Fu : L2.Fun K "_law_turns" "_law_turns" st_law_turns f fd) (hm : mg "_law_turns" = some (.ref f))  (mg_len : mg "len" = none) (mg_list : mg "list" = none) (mg_range : mg "range" = none) (mg_tuple : mg "tuple" = none) : Df P w K mg base "_law_turns" 1 1 m_law_turns := by
  have sc := sc_law_turns
  refine df_of (k := 0) Fu hm sc (Fu.binds (ps := ["_law_number_here"]) fun _ _ _ _ _ _ us hl => match us, hl with | [_], _ => rfl) (fun cdv A outer s H E hr => ?_)
  exact ((xjs_cons (xjs_ownL 1 sc.nd (xjf_listRng (by rfl) (by rfl) mg_list (by rfl) mg_range xje_int xje_int (st1 (by rfl)) (st1 (by rfl)) (st1 (by rfl))) (by rfl) (by exact Or.inl rfl) (by exact .inl rfl) (sw1 (by rfl))) (xjs_cons (xjs_ownN 2 5 sc.nd (xjn_cons (xjn_cons (xjn_cons (xjn_cons (xjn_cons xjn_nil (st1 (by rfl))) (st1 (by rfl))) (st1 (by rfl))) (st1 (by rfl))) (st1 (by rfl))) (by decide) (by rfl) (by exact Or.inl rfl) (by exact .inl rfl) (sw1 (by rfl))) (xjs_cons (xjs_for (f := m_law_turns_l1) PassesOwn.never rfl (xji_rng1 (by rfl) mg_range (xje_op L2.op_mod l_mod (xje_var 0 (by rfl) (by exact Or.inl rfl) (by decide) (by decide)) xje_int) (st1 (by rfl))) (xjg_name 3 sc.nd (by rfl) (by exact Or.inl rfl) (by first | exact .inl rfl | exact .inr rfl)) (by delta m_law_turns_l1; exact (xjs_cons (xjs_asg (xje_op op_divW l_divW (xje_var 0 (by rfl) (by exact Or.inl rfl) (by decide) (by decide)) xje_int) (xjg_name 0 sc.nd (by rfl) (by exact Or.inl rfl) (by first | exact .inl rfl | exact .inr rfl)) (sws1 (by rfl)) (sto2 (by rfl)) (asn1 (by rfl))) (xjs_cons (xjs_pop 4 1 sc.nd (xje_op L2.op_mod l_mod (xje_var 0 (by rfl) (by exact Or.inl rfl) (by decide) (by decide)) (xje_lenO 1 (by rfl) mg_len (by rfl) (by exact Or.inl rfl) (by decide) (by decide) (st1 (by rfl)))) (by rfl) (by rfl) (by exact Or.inl rfl) (by exact Or.inl rfl) (by exact .inl rfl) (by decide) (by decide) base1 (few1 (by rfl) (by decide)) (by rfl) (st1 (by rfl)) (sw1 (by rfl))) (xjs_cons (xjs_asg (xje_op op_divW l_divW (xje_var 0 (by rfl) (by exact Or.inl rfl) (by decide) (by decide)) xje_int) (xjg_name 0 sc.nd (by rfl) (by exact Or.inl rfl) (by first | exact .inl rfl | exact .inr rfl)) (sws1 (by rfl)) (sto2 (by rfl)) (asn1 (by rfl))) (xjs_cons (xjs_asg (xje_op L2.op_mod l_mod (xje_var 0 (by rfl) (by exact Or.inl rfl) (by decide) (by decide)) xje_int) (xjg_name 5 sc.nd (by rfl) (by exact Or.inl rfl) (by first | exact .inl rfl | exact .inr rfl)) (sws1 (by rfl)) (sto2 (by rfl)) (asn1 (by rfl))) (xjs_cons (xjs_if (xjt_cmp (op_eqD hr.units) l_eq bin_eq (xje_var 5 (by rfl) (by exact Or.inl rfl) (by decide) (by decide)) xje_int (L2.nomark _)) (xjs_one (xjs_appendN 2 xje_int (xje_tup (xja_cons (xje_var 4 (by rfl) (by exact Or.inl rfl) (by decide) (by decide)) (xja_cons xje_int xja_nil (st1 (by rfl))) (st1 (by rfl))) (by decide)) (by rfl) (by exact Or.inl rfl) (by decide) (by decide) (pix1 (by rfl)) baseS (few1 (by rfl) (by decide)) (by rfl) (st1 (by rfl)) (sw1 (by rfl)))) (xjs_one (xjs_if (xjt_cmp L2.op_lt l_lt bin_lt (xje_var 5 (by rfl) (by exact Or.inl rfl) (by decide) (by decide)) xje_int (L2.nomark _)) (xjs_one (xjs_appendN 2 (xje_var 5 (by rfl) (by exact Or.inl rfl) (by decide) (by decide)) (xje_tup (xja_cons (xje_var 4 (by rfl) (by exact Or.inl rfl) (by decide) (by decide)) (xja_cons (xje_op L2.op_mod l_mod (xje_op op_divW l_divW (xje_var 0 (by rfl) (by exact Or.inl rfl) (by decide) (by decide)) xje_int) xje_int) xja_nil (st1 (by rfl))) (st1 (by rfl))) (by decide)) (by rfl) (by exact Or.inl rfl) (by decide) (by decide) (pix1 (by rfl)) baseS (few1 (by rfl) (by decide)) (by rfl) (st1 (by rfl)) (sw1 (by rfl)))) xjs_nil'))) (xjs_cons (xjs_asg (xje_op op_divW l_divW (xje_var 0 (by rfl) (by exact Or.inl rfl) (by decide) (by decide)) xje_int) (xjg_name 0 sc.nd (by rfl) (by exact Or.inl rfl) (by first | exact .inl rfl | exact .inr rfl)) (sws1 (by rfl)) (sto2 (by rfl)) (asn1 (by rfl))) xjs_nil))))))) (fold1 (by rfl))) (xjs_freezeN 2 (xjs_cons (xjs_ret (xje_t1 L2.call_tuple_of l_tuple (by rfl) mg_tuple bt_tuple (xje_var 2 (by rfl) (by exact Or.inl rfl) (by decide) (by decide)) (st1 (by rfl)) (by decide) (by decide))) xjs_nil)))))).out
abbrev st_law_number : Stmt := top 13
theorem sc_law_number : L2.FnScope ["_law_script", "_law_k", "_law_cell"] ["_law_script", "_law_k"] (L2.defScope st_law_number) := ⟨rfl, rfl, rfl, by decide +kernel, rfl, by decide +kernel, by decide +kernel⟩
theorem d_law_number {P : Program} {w : World} {K : PySem.W.Frag} {mg : Str → Option Value} {base : Heap} {f : Addr} {fd : FuncData} (Fu : L2.Fun K "_law_number" "_law_number" st_law_number f fd) (hm : mg "_law_number" = some (.ref f))  (mg_len : mg "len" = none) : Df P w K mg base "_law_number" 1 2 m_law_number := by
  have sc := sc_law_number
  refine df_of (k := 0) Fu hm sc (Fu.binds (ps := ["_law_script", "_law_k"]) fun _ _ _ _ _ _ us hl => match us, hl with | [_, _], _ => rfl) (fun cdv A outer s H E hr => ?_)
  exact ((xjs_cons (xjs_asg xje_int (xjg_name 2 sc.nd (by rfl) (by exact Or.inl rfl) (by first | exact .inl rfl | exact .inr rfl)) (sws1 (by rfl)) (sto2 (by rfl)) (asn1 (by rfl))) (xjs_cons (xjs_if (xjt_cmp L2.op_lt l_lt bin_lt (xje_var 1 (by rfl) (by exact Or.inl rfl) (by decide) (by decide)) (xje_b1 call_len l_len (by rfl) mg_len bt_len (xje_var 0 (by rfl) (by exact Or.inl rfl) (by decide) (by decide)) (st1 (by rfl)) (by decide) (by decide)) (L2.nomark _)) (xjs_one (xjs_asg (xje_ix (xje_var 0 (by rfl) (by exact Or.inl rfl) (by decide) (by decide)) (xje_var 1 (by rfl) (by exact Or.inl rfl) (by decide) (by decide)) (pix1 (by rfl))) (xjg_name 2 sc.nd (by rfl) (by exact Or.inl rfl) (by first | exact .inl rfl | exact .inr rfl)) (sws1 (by rfl)) (sto2 (by rfl)) (asn1 (by rfl)))) xjs_nil') (xjs_cons (xjs_ret (xje_op op_mulW l_mulW (xje_op op_add l_add (xje_op L2.op_mod l_mod (xje_var 2 (by rfl) (by exact Or.inl rfl) (by decide) (by decide)) (xje_op op_powW l_powW (xje_op op_powW l_powW xje_int xje_int) xje_int)) xje_int) (xje_op op_powW l_powW (xje_op op_powW l_powW xje_int xje_int) xje_int))) xjs_nil)))).out
abbrev st_law_next : Stmt := top 16
theorem sc_law_next : L2.FnScope ["_law_rows", "_law_order", "_law_task", "_law_behind", "_law_rank", "_law_one", "_law_passed"] ["_law_rows"] (L2.defScope st_law_next) := ⟨rfl, rfl, rfl, by decide +kernel, rfl, by decide +kernel, by decide +kernel⟩
theorem d_law_next {P : Program} {w : World} {K : PySem.W.Frag} {mg : Str → Option Value} {base : Heap} {f : Addr} {fd : FuncData} (Fu : L2.Fun K "_law_next" "_law_next" st_law_next f fd) (hm : mg "_law_next" = some (.ref f))   : Df P w K mg base "_law_next" 1 1 m_law_next := by
  have sc := sc_law_next
  refine df_of (k := 0) Fu hm sc (Fu.binds (ps := ["_law_rows"]) fun _ _ _ _ _ _ us hl => match us, hl with | [_], _ => rfl) (fun cdv A outer s H E hr => ?_)
  exact ((xjs_cons (xjs_asg (xje_op op_add l_add (xje_op op_add l_add (xje_op op_add l_add (xje_op op_add l_add (xje_ix (xje_var 0 (by rfl) (by exact Or.inl rfl) (by decide) (by decide)) xje_int (pix1 (by rfl))) (xje_ix (xje_var 0 (by rfl) (by exact Or.inl rfl) (by decide) (by decide)) xje_int (pix1 (by rfl)))) (xje_ix (xje_var 0 (by rfl) (by exact Or.inl rfl) (by decide) (by decide)) xje_int (pix1 (by rfl)))) (xje_ix (xje_var 0 (by rfl) (by exact Or.inl rfl) (by decide) (by decide)) xje_int (pix1 (by rfl)))) (xje_ix (xje_var 0 (by rfl) (by exact Or.inl rfl) (by decide) (by decide)) xje_int (pix1 (by rfl)))) (xjg_name 1 sc.nd (by rfl) (by exact Or.inl rfl) (by first | exact .inl rfl | exact .inr rfl)) (sws1 (by rfl)) (sto2 (by rfl)) (asn1 (by rfl))) (xjs_cons (xjs_if (xjt_cmp (op_eqD hr.units) l_eq bin_eq (xje_var 1 (by rfl) (by exact Or.inl rfl) (by decide) (by decide)) (xje_lst xja_nil (by decide)) (L2.nomark _)) (xjs_one (xjs_ret (xje_lst (xja_cons (xje_var 0 (by rfl) (by exact Or.inl rfl) (by decide) (by decide)) (xja_cons xje_non xja_nil (st1 (by rfl))) (st1 (by rfl))) (by decide)))) xjs_nil') (xjs_cons (xjs_asg (xje_ix (xje_ix (xje_var 1 (by rfl) (by exact Or.inl rfl) (by decide) (by decide)) xje_int (pix1 (by rfl))) xje_int (pix1 (by rfl))) (xjg_name 2 sc.nd (by rfl) (by exact Or.inr rfl) (by first | exact .inl rfl | exact .inr rfl)) (sws1 (by rfl)) (sto2 (by rfl)) (asn1 (by rfl))) (xjs_cons (xjs_ownF 3 sc.nd (xjm_cons (xjf_lst xja_nil (by decide)) (xjm_cons (xjf_lst xja_nil (by decide)) (xjm_cons (xjf_lst xja_nil (by decide)) (xjm_cons (xjf_lst xja_nil (by decide)) (xjm_cons (xjf_comp ["_law_one"] ["_law_task"] [2] (fun _ _ h => h) (by rfl) (compOk_mk (L2.defScope st_law_next) ["_law_rows", "_law_order", "_law_task", "_law_behind", "_law_rank", "_law_one", "_law_passed"] (by rfl) (by rfl) (by decide +kernel)) (xji_seq (xje_ix (xje_var 0 (by rfl) (by exact Or.inl rfl) (by decide) (by decide)) xje_int (pix1 (by rfl)))) (low_name (by decide)) (fun cl C s H fp => by exact (xjg_name 0 (show List.Nodup (["_law_one", "_law_task"] : List Str) from by decide +kernel) (by rfl) (by exact Or.inl rfl) (by first | exact .inl rfl | exact .inr rfl))) (fun cl C s H fp => by exact (xjcs_cons (xjt_cmp (op_neD hr.units) l_ne bin_ne (xje_ix (xje_var 0 (by rfl) (by first | exact Or.inl rfl | exact Or.inr (Or.inl rfl) | exact Or.inr (Or.inr rfl)) (by decide) (by decide)) xje_int (pix1 (by rfl))) (xje_var 1 (by rfl) (by first | exact Or.inl rfl | exact Or.inr (Or.inl rfl) | exact Or.inr (Or.inr rfl)) (by decide) (by decide)) (L2.nomark _)) xjcs_nil)) (fun cl C s H fp => by exact (xje_var 0 (by rfl) (by first | exact Or.inl rfl | exact Or.inr (Or.inl rfl) | exact Or.inr (Or.inr rfl)) (by decide) (by decide))) (fold1 (by rfl))) xjm_nil (st1 (by rfl))) (st1 (by rfl))) (st1 (by rfl))) (st1 (by rfl))) (st1 (by rfl))) (by decide) (by rfl) (by exact Or.inl rfl) (by exact .inl rfl) (sw1 (by rfl))) (xjs_cons (xjs_for (f := m_law_next_l2) PassesOwn.never rfl (xji_seq (xje_lst (xja_cons xje_int (xja_cons xje_int (xja_cons xje_int (xja_cons xje_int xja_nil (st1 (by rfl))) (st1 (by rfl))) (st1 (by rfl))) (st1 (by rfl))) (by decide))) (xjg_name 4 sc.nd (by rfl) (by exact Or.inl rfl) (by first | exact .inl rfl | exact .inr rfl)) (by delta m_law_next_l2; exact (xjs_one (xjs_for (f := m_law_next_l1) PassesOwn.never rfl (xji_seq (xje_ix (xje_var 0 (by rfl) (by exact Or.inl rfl) (by decide) (by decide)) (xje_var 4 (by rfl) (by exact Or.inl rfl) (by decide) (by decide)) (pix1 (by rfl)))) (xjg_tup (by rfl) (xjgs_cons 5 (xjg_name 5 sc.nd (by rfl) (by exact Or.inl rfl) (by first | exact .inl rfl | exact .inr rfl)) (xjgs_cons 6 (xjg_name 6 sc.nd (by rfl) (by exact Or.inl rfl) (by first | exact .inl rfl | exact .inr rfl)) xjgs_nil (asn1 (by rfl))) (asn1 (by rfl))) asnL (asnF (by rfl))) (by delta m_law_next_l1; exact (xjs_one (xjs_if (xjt_bool (xjw_and (xjt_cmp (op_neD hr.units) l_ne bin_ne (xje_var 5 (by rfl) (by exact Or.inl rfl) (by decide) (by decide)) (xje_var 2 (by rfl) (by exact Or.inr (Or.inl rfl)) (by decide) (by decide)) (L2.nomark _)) (xjw_and1 (xjt_cmp (op_eqD hr.units) l_eq bin_eq (xje_var 6 (by rfl) (by exact Or.inl rfl) (by decide) (by decide)) xje_int (L2.nomark _))))) (xjs_one (xjs_appendN 3 xje_int (xje_tup (xja_cons (xje_var 5 (by rfl) (by exact Or.inl rfl) (by decide) (by decide)) (xja_cons xje_int xja_nil (st1 (by rfl))) (st1 (by rfl))) (by decide)) (by rfl) (by exact Or.inl rfl) (by decide) (by decide) (pix1 (by rfl)) baseS (few1 (by rfl) (by decide)) (by rfl) (st1 (by rfl)) (sw1 (by rfl)))) (xjs_one (xjs_if (xjt_cmp (op_neD hr.units) l_ne bin_ne (xje_var 5 (by rfl) (by exact Or.inl rfl) (by decide) (by decide)) (xje_var 2 (by rfl) (by exact Or.inr (Or.inl rfl)) (by decide) (by decide)) (L2.nomark _)) (xjs_one (xjs_appendN 3 (xje_var 4 (by rfl) (by exact Or.inl rfl) (by decide) (by decide)) (xje_tup (xja_cons (xje_var 5 (by rfl) (by exact Or.inl rfl) (by decide) (by decide)) (xja_cons (xje_op op_add l_add (xje_var 6 (by rfl) (by exact Or.inl rfl) (by decide) (by decide)) xje_int) xja_nil (st1 (by rfl))) (st1 (by rfl))) (by decide)) (by rfl) (by exact Or.inl rfl) (by decide) (by decide) (pix1 (by rfl)) baseS (few1 (by rfl) (by decide)) (by rfl) (st1 (by rfl)) (sw1 (by rfl)))) xjs_nil'))))) (fold1 (by rfl))))) (fold1 (by rfl))) (xjs_freezeN 3 (xjs_cons (xjs_ret (xje_lst (xja_cons (xje_var 3 (by rfl) (by exact Or.inl rfl) (by decide) (by decide)) (xja_cons (xje_var 2 (by rfl) (by exact Or.inr (Or.inl rfl)) (by decide) (by decide)) xja_nil (st1 (by rfl))) (st1 (by rfl))) (by decide))) xjs_nil)))))))).out
abbrev st_passed_on : Stmt := top 9
theorem sc_passed_on : L2.FnScope ["turns", "rows", "fifth", "row", "short"] ["turns"] (L2.defScope st_passed_on) := ⟨rfl, rfl, rfl, by decide +kernel, rfl, by decide +kernel, by decide +kernel⟩
theorem d_passed_on {P : Program} {w : World} {K : PySem.W.Frag} {mg : Str → Option Value} {base : Heap} {f : Addr} {fd : FuncData} (Fu : L2.Fun K "passed_on" "passed_on" st_passed_on f fd) (hm : mg "passed_on" = some (.ref f))  (mg_list : mg "list" = none) (mg_reversed : mg "reversed" = none) (mg_tuple : mg "tuple" = none) (gl_RANKS : GlD P w K mg "RANKS" g_RANKS) (gl_FIFTH : GlD P w K mg "FIFTH" g_FIFTH) (gl_MOST_PASSED : GlD P w K mg "MOST_PASSED" g_MOST_PASSED) : Df P w K mg base "passed_on" 1 1 m_passed_on := by
  have sc := sc_passed_on
  refine df_of (k := 0) Fu hm sc (Fu.binds (ps := ["turns"]) fun _ _ _ _ _ _ us hl => match us, hl with | [_], _ => rfl) (fun cdv A outer s H E hr => ?_)
  exact ((xjs_cons (xjs_compS 1 ["row"] [] [] (fun _ _ h => h) (by rfl) (compOk_mk (L2.defScope st_passed_on) ["turns", "rows", "fifth", "row", "short"] (by rfl) (by rfl) (by decide +kernel)) (xji_seq (xje_sl (xje_var 0 (by rfl) (by exact Or.inl rfl) (by decide) (by decide)) xjo_none (xjo_some (xje_globD gl_RANKS (by rfl) (by decide))))) (low_name (by decide)) (fun cl C s H fp => by exact (xjg_name 0 (show List.Nodup (["row"] : List Str) from by decide +kernel) (by rfl) (by exact Or.inl rfl) (by first | exact .inl rfl | exact .inr rfl))) (fun cl C s H fp => by exact xjcs_nil) (fun cl C s H fp => by exact (xje_comp (xjf_comp ["task", "passed"] [] [] (fun _ _ h => h) (by rfl) (compOk_mk (({ kind := .function, names := [(".0", .local), ("row", .local)], isGenerator := false, isCoroutine := false } : Scope)) ["row"] (by rfl) (by rfl) (by decide +kernel)) (xji_seq (xje_var 0 (by rfl) (by first | exact Or.inl rfl | exact Or.inr (Or.inl rfl) | exact Or.inr (Or.inr rfl)) (by decide) (by decide))) (low_tup (by decide)) (fun cl C s H fp => by exact (xjg_tup (by rfl) (xjgs_cons 0 (xjg_name 0 (show List.Nodup (["task", "passed"] : List Str) from by decide +kernel) (by rfl) (by exact Or.inl rfl) (by first | exact .inl rfl | exact .inr rfl)) (xjgs_cons 1 (xjg_name 1 (show List.Nodup (["task", "passed"] : List Str) from by decide +kernel) (by rfl) (by exact Or.inl rfl) (by first | exact .inl rfl | exact .inr rfl)) xjgs_nil (asn1 (by rfl))) (asn1 (by rfl))) asnL (asnF (by rfl)))) (fun cl C s H fp => by exact xjcs_nil) (fun cl C s H fp => by exact (xje_tup (xja_cons (xje_var 0 (by rfl) (by first | exact Or.inl rfl | exact Or.inr (Or.inl rfl) | exact Or.inr (Or.inr rfl)) (by decide) (by decide)) (xja_cons (xje_op op_add l_add (xje_var 1 (by rfl) (by first | exact Or.inl rfl | exact Or.inr (Or.inl rfl) | exact Or.inr (Or.inr rfl)) (by decide) (by decide)) xje_int) xja_nil (st1 (by rfl))) (st1 (by rfl))) (by decide))) (fold1 (by rfl))))) (fold1 (by rfl)) sc.nd (by rfl) (by exact Or.inl rfl) (by exact .inl rfl) (by rfl)) (xjs_cons (xjs_ownL 2 sc.nd (xjf_list (by rfl) mg_list (xje_ix (xje_var 0 (by rfl) (by exact Or.inl rfl) (by decide) (by decide)) (xje_globD gl_FIFTH (by rfl) (by decide)) (pix1 (by rfl))) (st1 (by rfl))) (by rfl) (by exact Or.inl rfl) (by exact .inl rfl) (sw1 (by rfl))) (xjs_cons (xjs_for (f := m_passed_on_l1) PassesOwn.never rfl (xji_revA (by rfl) mg_reversed (xje_var 1 (by rfl) (by exact Or.inl rfl) (by decide) (by decide)) (st1 (by rfl))) (xjg_name 3 sc.nd (by rfl) (by exact Or.inl rfl) (by first | exact .inl rfl | exact .inr rfl)) (by delta m_passed_on_l1; exact (xjs_one (xjs_extend 2 (xjf_comp ["pair"] [] [] (fun _ _ h => h) (by rfl) (compOk_mk (L2.defScope st_passed_on) ["turns", "rows", "fifth", "row", "short"] (by rfl) (by rfl) (by decide +kernel)) (xji_seq (xje_var 3 (by rfl) (by exact Or.inl rfl) (by decide) (by decide))) (low_name (by decide)) (fun cl C s H fp => by exact (xjg_name 0 (show List.Nodup (["pair"] : List Str) from by decide +kernel) (by rfl) (by exact Or.inl rfl) (by first | exact .inl rfl | exact .inr rfl))) (fun cl C s H fp => by exact (xjcs_cons (xjt_cmp (op_eqD hr.units) l_eq bin_eq (xje_ix (xje_var 0 (by rfl) (by first | exact Or.inl rfl | exact Or.inr (Or.inl rfl) | exact Or.inr (Or.inr rfl)) (by decide) (by decide)) xje_int (pix1 (by rfl))) (xje_globD gl_MOST_PASSED (by rfl) (by decide)) (L2.nomark _)) xjcs_nil)) (fun cl C s H fp => by exact (xje_var 0 (by rfl) (by first | exact Or.inl rfl | exact Or.inr (Or.inl rfl) | exact Or.inr (Or.inr rfl)) (by decide) (by decide))) (fold1 (by rfl))) (by rfl) (by exact Or.inl rfl) (by decide) (by decide) base1 (few1 (by rfl) (by decide)) (by rfl) (st1 (by rfl)) (sw1 (by rfl))))) (fold1 (by rfl))) (xjs_cons (xjs_compS 4 ["row"] [] [] (fun _ _ h => h) (by rfl) (compOk_mk (L2.defScope st_passed_on) ["turns", "rows", "fifth", "row", "short"] (by rfl) (by rfl) (by decide +kernel)) (xji_seq (xje_var 1 (by rfl) (by exact Or.inl rfl) (by decide) (by decide))) (low_name (by decide)) (fun cl C s H fp => by exact (xjg_name 0 (show List.Nodup (["row"] : List Str) from by decide +kernel) (by rfl) (by exact Or.inl rfl) (by first | exact .inl rfl | exact .inr rfl))) (fun cl C s H fp => by exact xjcs_nil) (fun cl C s H fp => by exact (xje_comp (xjf_comp ["pair"] [] [] (fun _ _ h => h) (by rfl) (compOk_mk (({ kind := .function, names := [(".0", .local), ("row", .local)], isGenerator := false, isCoroutine := false } : Scope)) ["row"] (by rfl) (by rfl) (by decide +kernel)) (xji_seq (xje_var 0 (by rfl) (by first | exact Or.inl rfl | exact Or.inr (Or.inl rfl) | exact Or.inr (Or.inr rfl)) (by decide) (by decide))) (low_name (by decide)) (fun cl C s H fp => by exact (xjg_name 0 (show List.Nodup (["pair"] : List Str) from by decide +kernel) (by rfl) (by exact Or.inl rfl) (by first | exact .inl rfl | exact .inr rfl))) (fun cl C s H fp => by exact (xjcs_cons (xjt_cmp L2.op_lt l_lt bin_lt (xje_ix (xje_var 0 (by rfl) (by first | exact Or.inl rfl | exact Or.inr (Or.inl rfl) | exact Or.inr (Or.inr rfl)) (by decide) (by decide)) xje_int (pix1 (by rfl))) (xje_globD gl_MOST_PASSED (by rfl) (by decide)) (L2.nomark _)) xjcs_nil)) (fun cl C s H fp => by exact (xje_var 0 (by rfl) (by first | exact Or.inl rfl | exact Or.inr (Or.inl rfl) | exact Or.inr (Or.inr rfl)) (by decide) (by decide))) (fold1 (by rfl))))) (fold1 (by rfl)) sc.nd (by rfl) (by exact Or.inl rfl) (by exact .inl rfl) (by rfl)) (xjs_freeze 2 (xjs_cons (xjs_ret (xje_t1 L2.call_tuple_of l_tuple (by rfl) mg_tuple bt_tuple (xje_op op_add l_add (xje_var 4 (by rfl) (by exact Or.inl rfl) (by decide) (by decide)) (xje_lst (xja_cons (xje_var 2 (by rfl) (by exact Or.inl rfl) (by decide) (by decide)) xja_nil (st1 (by rfl))) (by decide))) (st1 (by rfl)) (by decide) (by decide))) xjs_nil))))))).out
abbrev st_taken_out : Stmt := top 6
theorem sc_taken_out : L2.FnScope ["turns", "task"] ["turns", "task"] (L2.defScope st_taken_out) := ⟨rfl, rfl, rfl, by decide +kernel, rfl, by decide +kernel, by decide +kernel⟩
theorem d_taken_out {P : Program} {w : World} {K : PySem.W.Frag} {mg : Str → Option Value} {base : Heap} {f : Addr} {fd : FuncData} (Fu : L2.Fun K "taken_out" "taken_out" st_taken_out f fd) (hm : mg "taken_out" = some (.ref f))  (mg_tuple : mg "tuple" = none) : Df P w K mg base "taken_out" 1 2 m_taken_out := by
  have sc := sc_taken_out
  refine df_of (k := 0) Fu hm sc (Fu.binds (ps := ["turns", "task"]) fun _ _ _ _ _ _ us hl => match us, hl with | [_, _], _ => rfl) (fun cdv A outer s H E hr => ?_)
  exact ((xjs_one (xjs_ret (xje_t1 L2.call_tuple_of l_tuple (by rfl) mg_tuple bt_tuple (xje_comp (xjf_comp ["row"] ["task"] [1] (fun _ _ h => h) (by rfl) (compOk_mk (L2.defScope st_taken_out) ["turns", "task"] (by rfl) (by rfl) (by decide +kernel)) (xji_seq (xje_var 0 (by rfl) (by exact Or.inl rfl) (by decide) (by decide))) (low_name (by decide)) (fun cl C s H fp => by exact (xjg_name 0 (show List.Nodup (["row", "task"] : List Str) from by decide +kernel) (by rfl) (by exact Or.inl rfl) (by first | exact .inl rfl | exact .inr rfl))) (fun cl C s H fp => by exact xjcs_nil) (fun cl C s H fp => by exact (xje_comp (xjf_comp ["pair"] ["task"] [1] (fun _ _ h => h) (by rfl) (compOk_mk (({ kind := .function, names := [(".0", .local), ("row", .local), ("task", .cell)], isGenerator := false, isCoroutine := false } : Scope)) ["row", "task"] (by rfl) (by rfl) (by decide +kernel)) (xji_seq (xje_var 0 (by rfl) (by first | exact Or.inl rfl | exact Or.inr (Or.inl rfl) | exact Or.inr (Or.inr rfl)) (by decide) (by decide))) (low_name (by decide)) (fun cl C s H fp => by exact (xjg_name 0 (show List.Nodup (["pair", "task"] : List Str) from by decide +kernel) (by rfl) (by exact Or.inl rfl) (by first | exact .inl rfl | exact .inr rfl))) (fun cl C s H fp => by exact (xjcs_cons (xjt_cmp (op_neD hr.units) l_ne bin_ne (xje_ix (xje_var 0 (by rfl) (by first | exact Or.inl rfl | exact Or.inr (Or.inl rfl) | exact Or.inr (Or.inr rfl)) (by decide) (by decide)) xje_int (pix1 (by rfl))) (xje_var 1 (by rfl) (by first | exact Or.inl rfl | exact Or.inr (Or.inl rfl) | exact Or.inr (Or.inr rfl)) (by decide) (by decide)) (L2.nomark _)) xjcs_nil)) (fun cl C s H fp => by exact (xje_var 0 (by rfl) (by first | exact Or.inl rfl | exact Or.inr (Or.inl rfl) | exact Or.inr (Or.inr rfl)) (by decide) (by decide))) (fold1 (by rfl))))) (fold1 (by rfl)))) (st1 (by rfl)) (by decide) (by decide))))).out
abbrev st_next_turn : Stmt := top 8
theorem sc_next_turn : L2.FnScope ["turns", "rows", "task"] ["turns"] (L2.defScope st_next_turn) := ⟨rfl, rfl, rfl, by decide +kernel, rfl, by decide +kernel, by decide +kernel⟩
theorem d_next_turn {P : Program} {w : World} {K : PySem.W.Frag} {mg : Str → Option Value} {base : Heap} {f : Addr} {fd : FuncData} (Fu : L2.Fun K "next_turn" "next_turn" st_next_turn f fd) (hm : mg "next_turn" = some (.ref f))  (mg_len : mg "len" = none) (mg_reversed : mg "reversed" = none) (df_taken_out : Df P w K mg base "taken_out" 1 2 m_taken_out) (df_passed_on : Df P w K mg base "passed_on" 1 1 m_passed_on) : Df P w K mg base "next_turn" 2 1 m_next_turn := by
  have sc := sc_next_turn
  refine df_of (k := 1) Fu hm sc (Fu.binds (ps := ["turns"]) fun _ _ _ _ _ _ us hl => match us, hl with | [_], _ => rfl) (fun cdv A outer s H E hr => ?_)
  exact ((xjs_cons (xjs_compS 1 ["row"] [] [] (fun _ _ h => h) (by rfl) (compOk_mk (L2.defScope st_next_turn) ["turns", "rows", "task"] (by rfl) (by rfl) (by decide +kernel)) (xji_revA (by rfl) mg_reversed (xje_var 0 (by rfl) (by exact Or.inl rfl) (by decide) (by decide)) (st1 (by rfl))) (low_name (by decide)) (fun cl C s H fp => by exact (xjg_name 0 (show List.Nodup (["row"] : List Str) from by decide +kernel) (by rfl) (by exact Or.inl rfl) (by first | exact .inl rfl | exact .inr rfl))) (fun cl C s H fp => by exact (xjcs_cons (xjt_cmp L2.op_gt l_gt bin_gt (xje_b1 call_len l_len (by rfl) mg_len bt_len (xje_var 0 (by rfl) (by first | exact Or.inl rfl | exact Or.inr (Or.inl rfl) | exact Or.inr (Or.inr rfl)) (by decide) (by decide)) (st1 (by rfl)) (by decide) (by decide)) xje_int (L2.nomark _)) xjcs_nil)) (fun cl C s H fp => by exact (xje_var 0 (by rfl) (by first | exact Or.inl rfl | exact Or.inr (Or.inl rfl) | exact Or.inr (Or.inr rfl)) (by decide) (by decide))) (fold1 (by rfl)) sc.nd (by rfl) (by exact Or.inl rfl) (by exact .inl rfl) (by rfl)) (xjs_cons (xjs_if (xjt_cmp (op_eqD hr.units) l_eq bin_eq (xje_b1 call_len l_len (by rfl) mg_len bt_len (xje_var 1 (by rfl) (by exact Or.inl rfl) (by decide) (by decide)) (st1 (by rfl)) (by decide) (by decide)) xje_int (L2.nomark _)) (xjs_one (xjs_ret (xje_tup (xja_cons (xje_var 0 (by rfl) (by exact Or.inl rfl) (by decide) (by decide)) (xja_cons xje_non xja_nil (st1 (by rfl))) (st1 (by rfl))) (by decide)))) xjs_nil') (xjs_cons (xjs_asg (xje_ix (xje_ix (xje_ix (xje_var 1 (by rfl) (by exact Or.inl rfl) (by decide) (by decide)) xje_int (pix1 (by rfl))) xje_int (pix1 (by rfl))) xje_int (pix1 (by rfl))) (xjg_name 2 sc.nd (by rfl) (by exact Or.inl rfl) (by first | exact .inl rfl | exact .inr rfl)) (sws1 (by rfl)) (sto2 (by rfl)) (asn1 (by rfl))) (xjs_cons (xjs_ret (xje_tup (xja_cons (xje_call df_passed_on hr (by rfl) (xja_cons (xje_call df_taken_out hr (by rfl) (xja_cons (xje_var 0 (by rfl) (by exact Or.inl rfl) (by decide) (by decide)) (xja_cons (xje_var 2 (by rfl) (by exact Or.inl rfl) (by decide) (by decide)) xja_nil (st1 (by rfl))) (st1 (by rfl))) (by decide) (by rfl) (by decide) (st1 (by rfl)) (st_any (by rfl))) xja_nil (st1 (by rfl))) (by decide) (by rfl) (by decide) (st1 (by rfl)) (st_any (by rfl))) (xja_cons (xje_var 2 (by rfl) (by exact Or.inl rfl) (by decide) (by decide)) xja_nil (st1 (by rfl))) (st1 (by rfl))) (by decide))) xjs_nil))))).out
abbrev st_law_without : Stmt := top 15
theorem sc_law_without : L2.FnScope ["_law_rows", "_law_task"] ["_law_rows", "_law_task"] (L2.defScope st_law_without) := ⟨rfl, rfl, rfl, by decide +kernel, rfl, by decide +kernel, by decide +kernel⟩
theorem d_law_without {P : Program} {w : World} {K : PySem.W.Frag} {mg : Str → Option Value} {base : Heap} {f : Addr} {fd : FuncData} (Fu : L2.Fun K "_law_without" "_law_without" st_law_without f fd) (hm : mg "_law_without" = some (.ref f))   : DfN P w K mg base "_law_without" 1 2 m_law_without := by
  have sc := sc_law_without
  refine df_ofN (k := 0) Fu hm sc (Fu.binds (ps := ["_law_rows", "_law_task"]) fun _ _ _ _ _ _ us hl => match us, hl with | [_, _], _ => rfl) (fun cdv A outer s H E hr => ?_)
  exact ((xjs_one (xjs_retF (xjf_comp ["_law_row"] ["_law_task"] [1] (fun _ _ h => h) (by rfl) (compOk_mk (L2.defScope st_law_without) ["_law_rows", "_law_task"] (by rfl) (by rfl) (by decide +kernel)) (xji_seq (xje_var 0 (by rfl) (by exact Or.inl rfl) (by decide) (by decide))) (low_name (by decide)) (fun cl C s H fp => by exact (xjg_name 0 (show List.Nodup (["_law_row", "_law_task"] : List Str) from by decide +kernel) (by rfl) (by exact Or.inl rfl) (by first | exact .inl rfl | exact .inr rfl))) (fun cl C s H fp => by exact xjcs_nil) (fun cl C s H fp => by exact (xje_comp (xjf_comp ["_law_one"] ["_law_task"] [1] (fun _ _ h => h) (by rfl) (compOk_mk (({ kind := .function, names := [(".0", .local), ("_law_row", .local), ("_law_task", .cell)], isGenerator := false, isCoroutine := false } : Scope)) ["_law_row", "_law_task"] (by rfl) (by rfl) (by decide +kernel)) (xji_seq (xje_var 0 (by rfl) (by first | exact Or.inl rfl | exact Or.inr (Or.inl rfl) | exact Or.inr (Or.inr rfl)) (by decide) (by decide))) (low_name (by decide)) (fun cl C s H fp => by exact (xjg_name 0 (show List.Nodup (["_law_one", "_law_task"] : List Str) from by decide +kernel) (by rfl) (by exact Or.inl rfl) (by first | exact .inl rfl | exact .inr rfl))) (fun cl C s H fp => by exact (xjcs_cons (xjt_cmp (op_neD hr.units) l_ne bin_ne (xje_ix (xje_var 0 (by rfl) (by first | exact Or.inl rfl | exact Or.inr (Or.inl rfl) | exact Or.inr (Or.inr rfl)) (by decide) (by decide)) xje_int (pix1 (by rfl))) (xje_var 1 (by rfl) (by first | exact Or.inl rfl | exact Or.inr (Or.inl rfl) | exact Or.inr (Or.inr rfl)) (by decide) (by decide)) (L2.nomark _)) xjcs_nil)) (fun cl C s H fp => by exact (xje_var 0 (by rfl) (by first | exact Or.inl rfl | exact Or.inr (Or.inl rfl) | exact Or.inr (Or.inr rfl)) (by decide) (by decide))) (fold1 (by rfl))))) (fold1 (by rfl))) comp_lst))).out
abbrev st_made_ready : Stmt := top 7
theorem sc_made_ready : L2.FnScope ["turns", "task", "rank", "others"] ["turns", "task", "rank"] (L2.defScope st_made_ready) := ⟨rfl, rfl, rfl, by decide +kernel, rfl, by decide +kernel, by decide +kernel⟩
theorem d_made_ready {P : Program} {w : World} {K : PySem.W.Frag} {mg : Str → Option Value} {base : Heap} {f : Addr} {fd : FuncData} (Fu : L2.Fun K "made_ready" "made_ready" st_made_ready f fd) (hm : mg "made_ready" = some (.ref f))  (df_taken_out : Df P w K mg base "taken_out" 1 2 m_taken_out) : Df P w K mg base "made_ready" 2 3 m_made_ready := by
  have sc := sc_made_ready
  refine df_of (k := 1) Fu hm sc (Fu.binds (ps := ["turns", "task", "rank"]) fun _ _ _ _ _ _ us hl => match us, hl with | [_, _, _], _ => rfl) (fun cdv A outer s H E hr => ?_)
  exact ((xjs_cons (xjs_asg (xje_call df_taken_out hr (by rfl) (xja_cons (xje_var 0 (by rfl) (by exact Or.inl rfl) (by decide) (by decide)) (xja_cons (xje_var 1 (by rfl) (by exact Or.inl rfl) (by decide) (by decide)) xja_nil (st1 (by rfl))) (st1 (by rfl))) (by decide) (by rfl) (by decide) (st1 (by rfl)) (st_any (by rfl))) (xjg_name 3 sc.nd (by rfl) (by exact Or.inl rfl) (by first | exact .inl rfl | exact .inr rfl)) (sws1 (by rfl)) (sto2 (by rfl)) (asn1 (by rfl))) (xjs_cons (xjs_ret (xje_op op_add l_add (xje_op op_addE l_addE (xje_sl (xje_var 3 (by rfl) (by exact Or.inl rfl) (by decide) (by decide)) xjo_none (xjo_some (xje_var 2 (by rfl) (by exact Or.inl rfl) (by decide) (by decide)))) (xje_tup (xja_cons (xje_op op_add l_add (xje_ix (xje_var 3 (by rfl) (by exact Or.inl rfl) (by decide) (by decide)) (xje_var 2 (by rfl) (by exact Or.inl rfl) (by decide) (by decide)) (pix1 (by rfl))) (xje_lst (xja_cons (xje_tup (xja_cons (xje_var 1 (by rfl) (by exact Or.inl rfl) (by decide) (by decide)) (xja_cons xje_int xja_nil (st1 (by rfl))) (st1 (by rfl))) (by decide)) xja_nil (st1 (by rfl))) (by decide))) xja_nil (st1 (by rfl))) (by decide))) (xje_sl (xje_var 3 (by rfl) (by exact Or.inl rfl) (by decide) (by decide)) (xjo_some (xje_op op_add l_add (xje_var 2 (by rfl) (by exact Or.inl rfl) (by decide) (by decide)) xje_int)) xjo_none))) xjs_nil))).out
abbrev st_law_done : Stmt := top 20
theorem sc_law_done : L2.FnScope ["_law_turns_here", "_law_rows", "_law_number_here", "_law_task", "_law_rank", "_law_due", "_law_first", "_law_found"] ["_law_turns_here", "_law_rows", "_law_number_here"] (L2.defScope st_law_done) := ⟨rfl, rfl, rfl, by decide +kernel, rfl, by decide +kernel, by decide +kernel⟩
theorem d_law_done {P : Program} {w : World} {K : PySem.W.Frag} {mg : Str → Option Value} {base : Heap} {f : Addr} {fd : FuncData} (Fu : L2.Fun K "_law_done" "_law_done" st_law_done f fd) (hm : mg "_law_done" = some (.ref f))  (mg_bool : mg "bool" = none) (mg_isinstance : mg "isinstance" = none) (mg_len : mg "len" = none) (mg_tuple : mg "tuple" = none) (df_law_without : DfN P w K mg base "_law_without" 1 2 m_law_without) (df_made_ready : Df P w K mg base "made_ready" 2 3 m_made_ready) (df_taken_out : Df P w K mg base "taken_out" 1 2 m_taken_out) (df_law_next : Df P w K mg base "_law_next" 1 1 m_law_next) (df_next_turn : Df P w K mg base "next_turn" 2 1 m_next_turn) : Df P w K mg base "_law_done" 3 3 m_law_done := by
  have sc := sc_law_done
  refine df_of (k := 2) Fu hm sc (Fu.binds (ps := ["_law_turns_here", "_law_rows", "_law_number_here"]) fun _ _ _ _ _ _ us hl => match us, hl with | [_, _, _], _ => rfl) (fun cdv A outer s H E hr => ?_)
  exact ((xjs_cons (xjs_asg (xje_op op_add l_add xje_int (xje_op L2.op_mod l_mod (xje_op op_divW l_divW (xje_var 2 (by rfl) (by exact Or.inl rfl) (by decide) (by decide)) xje_int) xje_int)) (xjg_name 3 sc.nd (by rfl) (by exact Or.inl rfl) (by first | exact .inl rfl | exact .inr rfl)) (sws1 (by rfl)) (sto2 (by rfl)) (asn1 (by rfl))) (xjs_cons (xjs_asg (xje_op L2.op_mod l_mod (xje_op op_divW l_divW (xje_var 2 (by rfl) (by exact Or.inl rfl) (by decide) (by decide)) xje_int) xje_int) (xjg_name 4 sc.nd (by rfl) (by exact Or.inl rfl) (by first | exact .inl rfl | exact .inr rfl)) (sws1 (by rfl)) (sto2 (by rfl)) (asn1 (by rfl))) (xjs_cons (xjs_if (xjt_cmp (op_eqD hr.units) l_eq bin_eq (xje_op L2.op_mod l_mod (xje_var 2 (by rfl) (by exact Or.inl rfl) (by decide) (by decide)) xje_int) xje_int (L2.nomark _)) (xjs_cons (xjs_ownL 5 sc.nd (xjf_call df_law_without hr (by rfl) (xja_cons (xje_var 1 (by rfl) (by exact Or.inl rfl) (by decide) (by decide)) (xja_cons (xje_var 3 (by rfl) (by exact Or.inl rfl) (by decide) (by decide)) xja_nil (st1 (by rfl))) (st1 (by rfl))) (by decide) (by rfl) (by decide) (st1 (by rfl)) (st_any (by rfl))) (by rfl) (by exact Or.inl rfl) (by exact .inl rfl) (sw1 (by rfl))) (xjs_cons (xjs_setO 5 (xje_op op_add l_add (xje_ixO 5 (xje_var 4 (by rfl) (by exact Or.inl rfl) (by decide) (by decide)) (by rfl) (by exact Or.inl rfl) (by decide) (by decide) (pix1 (by rfl))) (xje_lst (xja_cons (xje_tup (xja_cons (xje_var 3 (by rfl) (by exact Or.inl rfl) (by decide) (by decide)) (xja_cons xje_int xja_nil (st1 (by rfl))) (st1 (by rfl))) (by decide)) xja_nil (st1 (by rfl))) (by decide))) (xje_var 4 (by rfl) (by exact Or.inl rfl) (by decide) (by decide)) (by rfl) (by exact Or.inl rfl) (by decide) (by decide) (by delta SetAsn; intro _; rfl) (sws1 (by rfl)) (sto1 (by rfl)) (asn1 (by rfl))) (xjs_freeze 5 (xjs_cons (xjs_ret (xje_lst (xja_cons (xje_call df_made_ready hr (by rfl) (xja_cons (xje_var 0 (by rfl) (by exact Or.inl rfl) (by decide) (by decide)) (xja_cons (xje_var 3 (by rfl) (by exact Or.inl rfl) (by decide) (by decide)) (xja_cons (xje_var 4 (by rfl) (by exact Or.inl rfl) (by decide) (by decide)) xja_nil (st1 (by rfl))) (st1 (by rfl))) (st1 (by rfl))) (by decide) (by rfl) (by decide) (st1 (by rfl)) (st_any (by rfl))) (xja_cons (xje_var 5 (by rfl) (by exact Or.inl rfl) (by decide) (by decide)) xja_nil (st1 (by rfl))) (st1 (by rfl))) (by decide))) xjs_nil)))) xjs_nil') (xjs_cons (xjs_if (xjt_bool (xjw_and (xjt_cmp (op_eqD hr.units) l_eq bin_eq (xje_op L2.op_mod l_mod (xje_var 2 (by rfl) (by exact Or.inl rfl) (by decide) (by decide)) xje_int) xje_int (L2.nomark _)) (xjw_and1 (xjt_cmp (op_eqD hr.units) l_eq bin_eq (xje_op L2.op_mod l_mod (xje_op op_divW l_divW (xje_var 2 (by rfl) (by exact Or.inl rfl) (by decide) (by decide)) xje_int) xje_int) xje_int (L2.nomark _))))) (xjs_one (xjs_ret (xje_lst (xja_cons (xje_call df_taken_out hr (by rfl) (xja_cons (xje_var 0 (by rfl) (by exact Or.inl rfl) (by decide) (by decide)) (xja_cons (xje_var 3 (by rfl) (by exact Or.inl rfl) (by decide) (by decide)) xja_nil (st1 (by rfl))) (st1 (by rfl))) (by decide) (by rfl) (by decide) (st1 (by rfl)) (st_any (by rfl))) (xja_cons (xje_callN df_law_without (by rfl) hr (by rfl) (xja_cons (xje_var 1 (by rfl) (by exact Or.inl rfl) (by decide) (by decide)) (xja_cons (xje_var 3 (by rfl) (by exact Or.inl rfl) (by decide) (by decide)) xja_nil (st1 (by rfl))) (st1 (by rfl))) (by decide) (by rfl) (by decide) (st1 (by rfl)) (st_any (by rfl))) xja_nil (st1 (by rfl))) (st1 (by rfl))) (by decide)))) xjs_nil') (xjs_cons (xjs_asg (xje_call df_law_next hr (by rfl) (xja_cons (xje_var 1 (by rfl) (by exact Or.inl rfl) (by decide) (by decide)) xja_nil (st1 (by rfl))) (by decide) (by rfl) (by decide) (st1 (by rfl)) (st_any (by rfl))) (xjg_tupA (by rfl) (xjgs_cons 5 (xjg_name 5 sc.nd (by rfl) (by exact Or.inl rfl) (by first | exact .inl rfl | exact .inr rfl)) (xjgs_cons 6 (xjg_name 6 sc.nd (by rfl) (by exact Or.inl rfl) (by first | exact .inl rfl | exact .inr rfl)) xjgs_nil (asn1 (by rfl))) (asn1 (by rfl))) asnL (asnF (by rfl))) (sws1 (by rfl)) (sto1 (by rfl)) (asn1 (by rfl))) (xjs_cons (xjs_asg (xje_call df_next_turn hr (by rfl) (xja_cons (xje_var 0 (by rfl) (by exact Or.inl rfl) (by decide) (by decide)) xja_nil (st1 (by rfl))) (by decide) (by rfl) (by decide) (st1 (by rfl)) (st_any (by rfl))) (xjg_name 7 sc.nd (by rfl) (by exact Or.inl rfl) (by first | exact .inl rfl | exact .inr rfl)) (sws1 (by rfl)) (sto2 (by rfl)) (asn1 (by rfl))) (xjs_cons (xjs_if (xjt_bool (xjw_or (xjt_not (xjt_val (xje_isA .tuple (xje_var 7 (by rfl) (by exact Or.inl rfl) (by decide) (by decide)) (by rfl) mg_isinstance (by rfl) mg_tuple bt_tuple (st1 (by rfl)) (st1 (by rfl)) (by decide) (by decide)) (tru1 (by rfl)))) (xjw_or (xjt_cmp (op_neD hr.units) l_ne bin_ne (xje_b1 call_len l_len (by rfl) mg_len bt_len (xje_var 7 (by rfl) (by exact Or.inl rfl) (by decide) (by decide)) (st1 (by rfl)) (by decide) (by decide)) xje_int (L2.nomark _)) (xjw_or (xjt_cmp (op_neD hr.units) l_ne bin_ne (xje_ix (xje_var 7 (by rfl) (by exact Or.inl rfl) (by decide) (by decide)) xje_int (pix1 (by rfl))) (xje_var 6 (by rfl) (by exact Or.inl rfl) (by decide) (by decide)) (L2.nomark _)) (xjw_or1 (xjt_val (xje_isA .bool (xje_ix (xje_var 7 (by rfl) (by exact Or.inl rfl) (by decide) (by decide)) xje_int (pix1 (by rfl))) (by rfl) mg_isinstance (by rfl) mg_bool bt_bool (st1 (by rfl)) (st1 (by rfl)) (by decide) (by decide)) (tru1 (by rfl)))))))) (xjs_one (xjs_ret (xje_lst (xja_cons xje_non (xja_cons (xje_var 5 (by rfl) (by exact Or.inl rfl) (by decide) (by decide)) xja_nil (st1 (by rfl))) (st1 (by rfl))) (by decide)))) xjs_nil') (xjs_cons (xjs_ret (xje_lst (xja_cons (xje_ix (xje_var 7 (by rfl) (by exact Or.inl rfl) (by decide) (by decide)) xje_int (pix1 (by rfl))) (xja_cons (xje_var 5 (by rfl) (by exact Or.inl rfl) (by decide) (by decide)) xja_nil (st1 (by rfl))) (st1 (by rfl))) (by decide))) xjs_nil))))))))).out
abbrev st_law_whole : Stmt := top 17
theorem sc_law_whole : L2.FnScope ["_law_found"] ["_law_found"] (L2.defScope st_law_whole) := ⟨rfl, rfl, rfl, by decide +kernel, rfl, by decide +kernel, by decide +kernel⟩
theorem d_law_whole {P : Program} {w : World} {K : PySem.W.Frag} {mg : Str → Option Value} {base : Heap} {f : Addr} {fd : FuncData} (Fu : L2.Fun K "_law_whole" "_law_whole" st_law_whole f fd) (hm : mg "_law_whole" = some (.ref f))  (mg_bool : mg "bool" = none) (mg_int : mg "int" = none) (mg_isinstance : mg "isinstance" = none) : Df P w K mg base "_law_whole" 1 1 m_law_whole := by
  have sc := sc_law_whole
  refine df_of (k := 0) Fu hm sc (Fu.binds (ps := ["_law_found"]) fun _ _ _ _ _ _ us hl => match us, hl with | [_], _ => rfl) (fun cdv A outer s H E hr => ?_)
  exact ((xjs_one (xjs_ret (xje_and (xje_isA .int (xje_var 0 (by rfl) (by exact Or.inl rfl) (by decide) (by decide)) (by rfl) mg_isinstance (by rfl) mg_int bt_int (st1 (by rfl)) (st1 (by rfl)) (by decide) (by decide)) (xje_one (xje_not (xje_isA .bool (xje_var 0 (by rfl) (by exact Or.inl rfl) (by decide) (by decide)) (by rfl) mg_isinstance (by rfl) mg_bool bt_bool (st1 (by rfl)) (st1 (by rfl)) (by decide) (by decide)))))))).out
abbrev st_law_are : Stmt := top 18
theorem sc_law_are : L2.FnScope ["_law_found", "_law_rows", "_law_row", "_law_one"] ["_law_found", "_law_rows"] (L2.defScope st_law_are) := ⟨rfl, rfl, rfl, by decide +kernel, rfl, by decide +kernel, by decide +kernel⟩
theorem d_law_are {P : Program} {w : World} {K : PySem.W.Frag} {mg : Str → Option Value} {base : Heap} {f : Addr} {fd : FuncData} (Fu : L2.Fun K "_law_are" "_law_are" st_law_are f fd) (hm : mg "_law_are" = some (.ref f))  (mg_isinstance : mg "isinstance" = none) (mg_len : mg "len" = none) (mg_list : mg "list" = none) (mg_tuple : mg "tuple" = none) (df_law_whole : Df P w K mg base "_law_whole" 1 1 m_law_whole) : Df P w K mg base "_law_are" 2 2 m_law_are := by
  have sc := sc_law_are
  refine df_of (k := 1) Fu hm sc (Fu.binds (ps := ["_law_found", "_law_rows"]) fun _ _ _ _ _ _ us hl => match us, hl with | [_, _], _ => rfl) (fun cdv A outer s H E hr => ?_)
  exact ((xjs_cons (xjs_if (xjt_bool (xjw_or (xjt_not (xjt_val (xje_isA .tuple (xje_var 0 (by rfl) (by exact Or.inl rfl) (by decide) (by decide)) (by rfl) mg_isinstance (by rfl) mg_tuple bt_tuple (st1 (by rfl)) (st1 (by rfl)) (by decide) (by decide)) (tru1 (by rfl)))) (xjw_or (xjt_cmp (op_neD hr.units) l_ne bin_ne (xje_b1 call_len l_len (by rfl) mg_len bt_len (xje_var 0 (by rfl) (by exact Or.inl rfl) (by decide) (by decide)) (st1 (by rfl)) (by decide) (by decide)) xje_int (L2.nomark _)) (xjw_or1 (xjt_cmp (op_neD hr.units) l_ne bin_ne (xje_t1 L2.call_list_of l_list (by rfl) mg_list bt_list (xje_var 0 (by rfl) (by exact Or.inl rfl) (by decide) (by decide)) (st1 (by rfl)) (by decide) (by decide)) (xje_var 1 (by rfl) (by exact Or.inl rfl) (by decide) (by decide)) (L2.nomark _)))))) (xjs_one (xjs_ret xje_bl)) xjs_nil') (xjs_cons (xjs_for (f := m_law_are_l2) PassesOwn.never rfl (xji_seq (xje_var 0 (by rfl) (by exact Or.inl rfl) (by decide) (by decide))) (xjg_name 2 sc.nd (by rfl) (by exact Or.inl rfl) (by first | exact .inl rfl | exact .inr rfl)) (by delta m_law_are_l2; exact (xjs_one (xjs_for (f := m_law_are_l1) PassesOwn.never rfl (xji_seq (xje_var 2 (by rfl) (by exact Or.inl rfl) (by decide) (by decide))) (xjg_name 3 sc.nd (by rfl) (by exact Or.inl rfl) (by first | exact .inl rfl | exact .inr rfl)) (by delta m_law_are_l1; exact (xjs_cons (xjs_if (xjt_bool (xjw_or (xjt_not (xjt_val (xje_isA .list (xje_var 2 (by rfl) (by exact Or.inl rfl) (by decide) (by decide)) (by rfl) mg_isinstance (by rfl) mg_list bt_list (st1 (by rfl)) (st1 (by rfl)) (by decide) (by decide)) (tru1 (by rfl)))) (xjw_or1 (xjt_not (xjt_val (xje_isA .tuple (xje_var 3 (by rfl) (by exact Or.inl rfl) (by decide) (by decide)) (by rfl) mg_isinstance (by rfl) mg_tuple bt_tuple (st1 (by rfl)) (st1 (by rfl)) (by decide) (by decide)) (tru1 (by rfl))))))) (xjs_one (xjs_ret xje_bl)) xjs_nil') (xjs_cons (xjs_if (xjt_bool (xjw_or (xjt_not (xjt_val (xje_call df_law_whole hr (by rfl) (xja_cons (xje_ix (xje_var 3 (by rfl) (by exact Or.inl rfl) (by decide) (by decide)) xje_int (pix1 (by rfl))) xja_nil (st1 (by rfl))) (by decide) (by rfl) (by decide) (st1 (by rfl)) (st_any (by rfl))) (tru1 (by rfl)))) (xjw_or1 (xjt_not (xjt_val (xje_call df_law_whole hr (by rfl) (xja_cons (xje_ix (xje_var 3 (by rfl) (by exact Or.inl rfl) (by decide) (by decide)) xje_int (pix1 (by rfl))) xja_nil (st1 (by rfl))) (by decide) (by rfl) (by decide) (st1 (by rfl)) (st_any (by rfl))) (tru1 (by rfl))))))) (xjs_one (xjs_ret xje_bl)) xjs_nil') xjs_nil))) (fold1 (by rfl))))) (fold1 (by rfl))) (xjs_cons (xjs_ret xje_bl) xjs_nil)))).out
abbrev st_no_turns : Stmt := top 5
theorem sc_no_turns : L2.FnScope [] [] (L2.defScope st_no_turns) := ⟨rfl, rfl, rfl, by decide +kernel, rfl, by decide +kernel, by decide +kernel⟩
theorem d_no_turns {P : Program} {w : World} {K : PySem.W.Frag} {mg : Str → Option Value} {base : Heap} {f : Addr} {fd : FuncData} (Fu : L2.Fun K "no_turns" "no_turns" st_no_turns f fd) (hm : mg "no_turns" = some (.ref f))   : Df P w K mg base "no_turns" 1 0 m_no_turns := by
  have sc := sc_no_turns
  refine df_of (k := 0) Fu hm sc (Fu.binds (ps := []) fun _ _ _ _ _ _ us hl => match us, hl with | [], _ => rfl) (fun cdv A outer s H E hr => ?_)
  refine (xjs_one ?_).out
  refine xjs_ret ?_
  exact (xje_tup (xja_cons (xje_lst xja_nil (by decide)) (xja_cons (xje_lst xja_nil (by decide)) (xja_cons (xje_lst xja_nil (by decide)) (xja_cons (xje_lst xja_nil (by decide)) (xja_cons (xje_lst xja_nil (by decide)) xja_nil (st1 (by rfl))) (st1 (by rfl))) (st1 (by rfl))) (st1 (by rfl))) (st1 (by rfl))) (by decide))
abbrev st_rows_of : Stmt := top 10
theorem sc_rows_of : L2.FnScope ["rank"] ["rank"] (L2.defScope st_rows_of) := ⟨rfl, rfl, rfl, by decide +kernel, rfl, by decide +kernel, by decide +kernel⟩
theorem d_rows_of {P : Program} {w : World} {K : PySem.W.Frag} {mg : Str → Option Value} {base : Heap} {f : Addr} {fd : FuncData} (Fu : L2.Fun K "rows_of" "rows_of" st_rows_of f fd) (hm : mg "rows_of" = some (.ref f))   : Df P w K mg base "rows_of" 1 1 m_rows_of := by
  have sc := sc_rows_of
  refine df_of (k := 0) Fu hm sc (Fu.binds (ps := ["rank"]) fun _ _ _ _ _ _ us hl => match us, hl with | [_], _ => rfl) (fun cdv A outer s H E hr => ?_)
  exact ((xjs_one (xjs_ret (xje_op op_mulW l_mulW xje_int (xje_op op_add l_add (xje_var 0 (by rfl) (by exact Or.inl rfl) (by decide) (by decide)) xje_int))))).out
abbrev st_standing : Stmt := top 11
theorem sc_standing : L2.FnScope ["turns", "task", "number", "row", "place", "pair"] ["turns", "task"] (L2.defScope st_standing) := ⟨rfl, rfl, rfl, by decide +kernel, rfl, by decide +kernel, by decide +kernel⟩
theorem d_standing {P : Program} {w : World} {K : PySem.W.Frag} {mg : Str → Option Value} {base : Heap} {f : Addr} {fd : FuncData} (Fu : L2.Fun K "standing" "standing" st_standing f fd) (hm : mg "standing" = some (.ref f))  (mg_enumerate : mg "enumerate" = none) : Df P w K mg base "standing" 1 2 m_standing := by
  have sc := sc_standing
  refine df_of (k := 0) Fu hm sc (Fu.binds (ps := ["turns", "task"]) fun _ _ _ _ _ _ us hl => match us, hl with | [_, _], _ => rfl) (fun cdv A outer s H E hr => ?_)
  exact ((xjs_cons (xjs_for (f := m_standing_l2) PassesOwn.never rfl (xji_enum (by rfl) mg_enumerate (xje_var 0 (by rfl) (by exact Or.inl rfl) (by decide) (by decide)) (st1 (by rfl))) (xjg_tup (by rfl) (xjgs_cons 2 (xjg_name 2 sc.nd (by rfl) (by exact Or.inl rfl) (by first | exact .inl rfl | exact .inr rfl)) (xjgs_cons 3 (xjg_name 3 sc.nd (by rfl) (by exact Or.inl rfl) (by first | exact .inl rfl | exact .inr rfl)) xjgs_nil (asn1 (by rfl))) (asn1 (by rfl))) asnL (asnF (by rfl))) (by delta m_standing_l2; exact (xjs_one (xjs_for (f := m_standing_l1) PassesOwn.never rfl (xji_enum (by rfl) mg_enumerate (xje_var 3 (by rfl) (by exact Or.inl rfl) (by decide) (by decide)) (st1 (by rfl))) (xjg_tup (by rfl) (xjgs_cons 4 (xjg_name 4 sc.nd (by rfl) (by exact Or.inl rfl) (by first | exact .inl rfl | exact .inr rfl)) (xjgs_cons 5 (xjg_name 5 sc.nd (by rfl) (by exact Or.inl rfl) (by first | exact .inl rfl | exact .inr rfl)) xjgs_nil (asn1 (by rfl))) (asn1 (by rfl))) asnL (asnF (by rfl))) (by delta m_standing_l1; exact (xjs_one (xjs_if (xjt_cmp (op_eqD hr.units) l_eq bin_eq (xje_ix (xje_var 5 (by rfl) (by exact Or.inl rfl) (by decide) (by decide)) xje_int (pix1 (by rfl))) (xje_var 1 (by rfl) (by exact Or.inl rfl) (by decide) (by decide)) (L2.nomark _)) (xjs_one (xjs_ret (xje_tup (xja_cons (xje_var 2 (by rfl) (by exact Or.inl rfl) (by decide) (by decide)) (xja_cons (xje_var 4 (by rfl) (by exact Or.inl rfl) (by decide) (by decide)) (xja_cons (xje_ix (xje_var 5 (by rfl) (by exact Or.inl rfl) (by decide) (by decide)) xje_int (pix1 (by rfl))) xja_nil (st1 (by rfl))) (st1 (by rfl))) (st1 (by rfl))) (by decide)))) xjs_nil'))) (fold1 (by rfl))))) (fold1 (by rfl))) (xjs_cons (xjs_ret xje_non) xjs_nil))).out
abbrev st_law_stands : Stmt := top 19
theorem sc_law_stands : L2.FnScope ["_law_turns_here", "_law_rows", "_law_task", "_law_due", "_law_k", "_law_place", "_law_found"] ["_law_turns_here", "_law_rows", "_law_task"] (L2.defScope st_law_stands) := ⟨rfl, rfl, rfl, by decide +kernel, rfl, by decide +kernel, by decide +kernel⟩
theorem d_law_stands {P : Program} {w : World} {K : PySem.W.Frag} {mg : Str → Option Value} {base : Heap} {f : Addr} {fd : FuncData} (Fu : L2.Fun K "_law_stands" "_law_stands" st_law_stands f fd) (hm : mg "_law_stands" = some (.ref f))  (mg_isinstance : mg "isinstance" = none) (mg_len : mg "len" = none) (mg_range : mg "range" = none) (mg_tuple : mg "tuple" = none) (df_standing : Df P w K mg base "standing" 1 2 m_standing) (df_law_whole : Df P w K mg base "_law_whole" 1 1 m_law_whole) : Df P w K mg base "_law_stands" 2 3 m_law_stands := by
  have sc := sc_law_stands
  refine df_of (k := 1) Fu hm sc (Fu.binds (ps := ["_law_turns_here", "_law_rows", "_law_task"]) fun _ _ _ _ _ _ us hl => match us, hl with | [_, _, _], _ => rfl) (fun cdv A outer s H E hr => ?_)
  exact ((xjs_cons (xjs_asg xje_non (xjg_name 3 sc.nd (by rfl) (by exact Or.inl rfl) (by first | exact .inl rfl | exact .inr rfl)) (sws1 (by rfl)) (sto2 (by rfl)) (asn1 (by rfl))) (xjs_cons (xjs_for (f := m_law_stands_l2) PassesOwn.never rfl (xji_rng1 (by rfl) mg_range xje_int (st1 (by rfl))) (xjg_name 4 sc.nd (by rfl) (by exact Or.inl rfl) (by first | exact .inl rfl | exact .inr rfl)) (by delta m_law_stands_l2; exact (xjs_one (xjs_for (f := m_law_stands_l1) PassesOwn.never rfl (xji_rng1 (by rfl) mg_range (xje_b1 call_len l_len (by rfl) mg_len bt_len (xje_ix (xje_var 1 (by rfl) (by exact Or.inl rfl) (by decide) (by decide)) (xje_var 4 (by rfl) (by exact Or.inl rfl) (by decide) (by decide)) (pix1 (by rfl))) (st1 (by rfl)) (by decide) (by decide)) (st1 (by rfl))) (xjg_name 5 sc.nd (by rfl) (by exact Or.inl rfl) (by first | exact .inl rfl | exact .inr rfl)) (by delta m_law_stands_l1; exact (xjs_one (xjs_if (xjt_cmp (op_eqD hr.units) l_eq bin_eq (xje_ix (xje_ix (xje_ix (xje_var 1 (by rfl) (by exact Or.inl rfl) (by decide) (by decide)) (xje_var 4 (by rfl) (by exact Or.inl rfl) (by decide) (by decide)) (pix1 (by rfl))) (xje_var 5 (by rfl) (by exact Or.inl rfl) (by decide) (by decide)) (pix1 (by rfl))) xje_int (pix1 (by rfl))) (xje_var 2 (by rfl) (by exact Or.inl rfl) (by decide) (by decide)) (L2.nomark _)) (xjs_one (xjs_asg (xje_tup (xja_cons (xje_var 4 (by rfl) (by exact Or.inl rfl) (by decide) (by decide)) (xja_cons (xje_var 5 (by rfl) (by exact Or.inl rfl) (by decide) (by decide)) (xja_cons (xje_ix (xje_ix (xje_ix (xje_var 1 (by rfl) (by exact Or.inl rfl) (by decide) (by decide)) (xje_var 4 (by rfl) (by exact Or.inl rfl) (by decide) (by decide)) (pix1 (by rfl))) (xje_var 5 (by rfl) (by exact Or.inl rfl) (by decide) (by decide)) (pix1 (by rfl))) xje_int (pix1 (by rfl))) xja_nil (st1 (by rfl))) (st1 (by rfl))) (st1 (by rfl))) (by decide)) (xjg_name 3 sc.nd (by rfl) (by exact Or.inl rfl) (by first | exact .inl rfl | exact .inr rfl)) (sws1 (by rfl)) (sto2 (by rfl)) (asn1 (by rfl)))) xjs_nil'))) (fold1 (by rfl))))) (fold1 (by rfl))) (xjs_cons (xjs_asg (xje_call df_standing hr (by rfl) (xja_cons (xje_var 0 (by rfl) (by exact Or.inl rfl) (by decide) (by decide)) (xja_cons (xje_var 2 (by rfl) (by exact Or.inl rfl) (by decide) (by decide)) xja_nil (st1 (by rfl))) (st1 (by rfl))) (by decide) (by rfl) (by decide) (st1 (by rfl)) (st_any (by rfl))) (xjg_name 6 sc.nd (by rfl) (by exact Or.inl rfl) (by first | exact .inl rfl | exact .inr rfl)) (sws1 (by rfl)) (sto2 (by rfl)) (asn1 (by rfl))) (xjs_cons (xjs_if (xjt_bool (xjw_or (xjt_isN (xje_var 6 (by rfl) (by exact Or.inl rfl) (by decide) (by decide))) (xjw_or1 (xjt_isN (xje_var 3 (by rfl) (by exact Or.inl rfl) (by decide) (by decide)))))) (xjs_one (xjs_ret (xje_cmp (op_eqD hr.units) l_eq (xje_var 6 (by rfl) (by exact Or.inl rfl) (by decide) (by decide)) (xje_var 3 (by rfl) (by exact Or.inl rfl) (by decide) (by decide)) (L2.nomark _)))) xjs_nil') (xjs_cons (xjs_ret (xje_and (xje_isA .tuple (xje_var 6 (by rfl) (by exact Or.inl rfl) (by decide) (by decide)) (by rfl) mg_isinstance (by rfl) mg_tuple bt_tuple (st1 (by rfl)) (st1 (by rfl)) (by decide) (by decide)) (xje_and (xje_cmp (op_eqD hr.units) l_eq (xje_comp (xjf_comp ["_law_thing"] [] [] (fun _ _ h => h) (by rfl) (compOk_mk (L2.defScope st_law_stands) ["_law_turns_here", "_law_rows", "_law_task", "_law_due", "_law_k", "_law_place", "_law_found"] (by rfl) (by rfl) (by decide +kernel)) (xji_seq (xje_var 6 (by rfl) (by exact Or.inl rfl) (by decide) (by decide))) (low_name (by decide)) (fun cl C s H fp => by exact (xjg_name 0 (show List.Nodup (["_law_thing"] : List Str) from by decide +kernel) (by rfl) (by exact Or.inl rfl) (by first | exact .inl rfl | exact .inr rfl))) (fun cl C s H fp => by exact (xjcs_cons (xjt_not (xjt_val (xje_call df_law_whole hr (by rfl) (xja_cons (xje_var 0 (by rfl) (by first | exact Or.inl rfl | exact Or.inr (Or.inl rfl) | exact Or.inr (Or.inr rfl)) (by decide) (by decide)) xja_nil (st1 (by rfl))) (by decide) (by rfl) (by decide) (st1 (by rfl)) (st_any (by rfl))) (tru1 (by rfl)))) xjcs_nil)) (fun cl C s H fp => by exact (xje_var 0 (by rfl) (by first | exact Or.inl rfl | exact Or.inr (Or.inl rfl) | exact Or.inr (Or.inr rfl)) (by decide) (by decide))) (fold1 (by rfl)))) (xje_lst xja_nil (by decide)) (L2.nomark _)) (xje_one (xje_cmp (op_eqD hr.units) l_eq (xje_var 6 (by rfl) (by exact Or.inl rfl) (by decide) (by decide)) (xje_var 3 (by rfl) (by exact Or.inl rfl) (by decide) (by decide)) (L2.nomark _)))))) xjs_nil)))))).out
abbrev st_law : Stmt := top 21
theorem sc_law : L2.FnScope ["_law_script", "_law_turns_here", "_law_k", "_law_number_here", "_law_rows", "_law_found", "_law_due"] ["_law_script"] (L2.defScope st_law) := ⟨rfl, rfl, rfl, by decide +kernel, rfl, by decide +kernel, by decide +kernel⟩
theorem x_law {P : Program} {w : World} {K : PySem.W.Frag} {mg : Str → Option Value} {base : Heap} {f : Addr} {fd : FuncData} (Fu : L2.Fun K "law" "law" st_law f fd) (hm : mg "law" = some (.ref f))  (mg_len : mg "len" = none) (mg_list : mg "list" = none) (mg_max : mg "max" = none) (mg_min : mg "min" = none) (mg_range : mg "range" = none) (mg_tuple : mg "tuple" = none) (gl_BOUND : GlD P w K mg "BOUND" g_BOUND) (df_law_number : Df P w K mg base "_law_number" 1 2 m_law_number) (df_law_turns : Df P w K mg base "_law_turns" 1 1 m_law_turns) (df_no_turns : Df P w K mg base "no_turns" 1 0 m_no_turns) (df_law_are : Df P w K mg base "_law_are" 2 2 m_law_are) (df_rows_of : Df P w K mg base "rows_of" 1 1 m_rows_of) (df_law_done : Df P w K mg base "_law_done" 3 3 m_law_done) (df_law_stands : Df P w K mg base "_law_stands" 2 3 m_law_stands) : L2.FnOk P w K mg base L2.CX0 4 f fd ["_law_script"] (spM ⟨K, P, w⟩ m_law 1) := by
  have sc := sc_law
  refine fnok_of (k := 3) Fu sc (fun cdv A outer s H E hr => ?_)
  exact ((xjs_cons (xjs_asg (xje_call df_law_turns hr (by rfl) (xja_cons (xje_call df_law_number hr (by rfl) (xja_cons (xje_var 0 (by rfl) (by exact Or.inl rfl) (by decide) (by decide)) (xja_cons xje_int xja_nil (st1 (by rfl))) (st1 (by rfl))) (by decide) (by rfl) (by decide) (st1 (by rfl)) (st_any (by rfl))) xja_nil (st1 (by rfl))) (by decide) (by rfl) (by decide) (st1 (by rfl)) (st_any (by rfl))) (xjg_name 1 sc.nd (by rfl) (by exact Or.inl rfl) (by first | exact .inl rfl | exact .inr rfl)) (sws1 (by rfl)) (sto2 (by rfl)) (asn1 (by rfl))) (xjs_cons (xjs_if (xjt_bool (xjw_or (xjt_not (xjt_val (xje_call df_law_are hr (by rfl) (xja_cons (xje_call0 df_no_turns hr (by rfl) (by decide) (by decide)) (xja_cons (xje_lst (xja_cons (xje_lst xja_nil (by decide)) (xja_cons (xje_lst xja_nil (by decide)) (xja_cons (xje_lst xja_nil (by decide)) (xja_cons (xje_lst xja_nil (by decide)) (xja_cons (xje_lst xja_nil (by decide)) xja_nil (st1 (by rfl))) (st1 (by rfl))) (st1 (by rfl))) (st1 (by rfl))) (st1 (by rfl))) (by decide)) xja_nil (st1 (by rfl))) (st1 (by rfl))) (by decide) (by rfl) (by decide) (st1 (by rfl)) (st_any (by rfl))) (tru1 (by rfl)))) (xjw_or1 (xjt_cmp (op_neD hr.units) l_ne bin_ne (xje_comp (xjf_comp ["_law_rank"] [] [] (fun _ _ h => h) (by rfl) (compOk_mk (L2.defScope st_law) ["_law_script", "_law_turns_here", "_law_k", "_law_number_here", "_law_rows", "_law_found", "_law_due"] (by rfl) (by rfl) (by decide +kernel)) (xji_rng1 (by rfl) mg_range xje_int (st1 (by rfl))) (low_name (by decide)) (fun cl C s H fp => by exact (xjg_name 0 (show List.Nodup (["_law_rank"] : List Str) from by decide +kernel) (by rfl) (by exact Or.inl rfl) (by first | exact .inl rfl | exact .inr rfl))) (fun cl C s H fp => by exact xjcs_nil) (fun cl C s H fp => by exact (xje_call df_rows_of hr (by rfl) (xja_cons (xje_var 0 (by rfl) (by first | exact Or.inl rfl | exact Or.inr (Or.inl rfl) | exact Or.inr (Or.inr rfl)) (by decide) (by decide)) xja_nil (st1 (by rfl))) (by decide) (by rfl) (by decide) (st1 (by rfl)) (st_any (by rfl)))) (fold1 (by rfl)))) (xje_lst (xja_cons xje_int (xja_cons xje_int (xja_cons xje_int (xja_cons xje_int xja_nil (st1 (by rfl))) (st1 (by rfl))) (st1 (by rfl))) (st1 (by rfl))) (by decide)) (L2.nomark _))))) (xjs_one (xjs_ret xje_bl)) xjs_nil') (xjs_cons (xjs_for (f := m_law_l1) PassesOwn.never rfl (xji_rng2 (by rfl) mg_range xje_int (xje_b2 (L2.call_max2 rfl) l_max (by rfl) mg_max bt_max xje_int (xje_b2 (L2.call_min2 rfl) l_min (by rfl) mg_min bt_min xje_int (xje_b1 call_len l_len (by rfl) mg_len bt_len (xje_var 0 (by rfl) (by exact Or.inl rfl) (by decide) (by decide)) (st1 (by rfl)) (by decide) (by decide)) (st1 (by rfl)) (st1 (by rfl)) (by decide) (by decide)) (st1 (by rfl)) (st1 (by rfl)) (by decide) (by decide)) (st1 (by rfl)) (st1 (by rfl))) (xjg_name 2 sc.nd (by rfl) (by exact Or.inl rfl) (by first | exact .inl rfl | exact .inr rfl)) (by delta m_law_l1; exact (xjs_cons (xjs_asg (xje_call df_law_number hr (by rfl) (xja_cons (xje_var 0 (by rfl) (by exact Or.inl rfl) (by decide) (by decide)) (xja_cons (xje_var 2 (by rfl) (by exact Or.inl rfl) (by decide) (by decide)) xja_nil (st1 (by rfl))) (st1 (by rfl))) (by decide) (by rfl) (by decide) (st1 (by rfl)) (st_any (by rfl))) (xjg_name 3 sc.nd (by rfl) (by exact Or.inl rfl) (by first | exact .inl rfl | exact .inr rfl)) (sws1 (by rfl)) (sto2 (by rfl)) (asn1 (by rfl))) (xjs_cons (xjs_compS 4 ["_law_row"] [] [] (fun _ _ h => h) (by rfl) (compOk_mk (L2.defScope st_law) ["_law_script", "_law_turns_here", "_law_k", "_law_number_here", "_law_rows", "_law_found", "_law_due"] (by rfl) (by rfl) (by decide +kernel)) (xji_seq (xje_var 1 (by rfl) (by exact Or.inl rfl) (by decide) (by decide))) (low_name (by decide)) (fun cl C s H fp => by exact (xjg_name 0 (show List.Nodup (["_law_row"] : List Str) from by decide +kernel) (by rfl) (by exact Or.inl rfl) (by first | exact .inl rfl | exact .inr rfl))) (fun cl C s H fp => by exact xjcs_nil) (fun cl C s H fp => by exact (xje_t1 L2.call_list_of l_list (by rfl) mg_list bt_list (xje_var 0 (by rfl) (by first | exact Or.inl rfl | exact Or.inr (Or.inl rfl) | exact Or.inr (Or.inr rfl)) (by decide) (by decide)) (st1 (by rfl)) (by decide) (by decide))) (fold1 (by rfl)) sc.nd (by rfl) (by exact Or.inl rfl) (by exact .inl rfl) (by rfl)) (xjs_cons (xjs_asg (xje_call df_law_done hr (by rfl) (xja_cons (xje_var 1 (by rfl) (by exact Or.inl rfl) (by decide) (by decide)) (xja_cons (xje_var 4 (by rfl) (by exact Or.inl rfl) (by decide) (by decide)) (xja_cons (xje_var 3 (by rfl) (by exact Or.inl rfl) (by decide) (by decide)) xja_nil (st1 (by rfl))) (st1 (by rfl))) (st1 (by rfl))) (by decide) (by rfl) (by decide) (st1 (by rfl)) (st_any (by rfl))) (xjg_tupA (by rfl) (xjgs_cons 5 (xjg_name 5 sc.nd (by rfl) (by exact Or.inl rfl) (by first | exact .inl rfl | exact .inr rfl)) (xjgs_cons 6 (xjg_name 6 sc.nd (by rfl) (by exact Or.inl rfl) (by first | exact .inl rfl | exact .inr rfl)) xjgs_nil (asn1 (by rfl))) (asn1 (by rfl))) asnL (asnF (by rfl))) (sws1 (by rfl)) (sto1 (by rfl)) (asn1 (by rfl))) (xjs_cons (xjs_if (xjt_bool (xjw_or (xjt_isN (xje_var 5 (by rfl) (by exact Or.inl rfl) (by decide) (by decide))) (xjw_or (xjt_not (xjt_val (xje_call df_law_are hr (by rfl) (xja_cons (xje_var 5 (by rfl) (by exact Or.inl rfl) (by decide) (by decide)) (xja_cons (xje_var 6 (by rfl) (by exact Or.inl rfl) (by decide) (by decide)) xja_nil (st1 (by rfl))) (st1 (by rfl))) (by decide) (by rfl) (by decide) (st1 (by rfl)) (st_any (by rfl))) (tru1 (by rfl)))) (xjw_or1 (xjt_cmp (op_neD hr.units) l_ne bin_ne (xje_comp (xjf_comp ["_law_row"] [] [] (fun _ _ h => h) (by rfl) (compOk_mk (L2.defScope st_law) ["_law_script", "_law_turns_here", "_law_k", "_law_number_here", "_law_rows", "_law_found", "_law_due"] (by rfl) (by rfl) (by decide +kernel)) (xji_seq (xje_var 1 (by rfl) (by exact Or.inl rfl) (by decide) (by decide))) (low_name (by decide)) (fun cl C s H fp => by exact (xjg_name 0 (show List.Nodup (["_law_row"] : List Str) from by decide +kernel) (by rfl) (by exact Or.inl rfl) (by first | exact .inl rfl | exact .inr rfl))) (fun cl C s H fp => by exact xjcs_nil) (fun cl C s H fp => by exact (xje_t1 L2.call_list_of l_list (by rfl) mg_list bt_list (xje_var 0 (by rfl) (by first | exact Or.inl rfl | exact Or.inr (Or.inl rfl) | exact Or.inr (Or.inr rfl)) (by decide) (by decide)) (st1 (by rfl)) (by decide) (by decide))) (fold1 (by rfl)))) (xje_var 4 (by rfl) (by exact Or.inl rfl) (by decide) (by decide)) (L2.nomark _)))))) (xjs_one (xjs_ret xje_bl)) xjs_nil') (xjs_cons (xjs_if (xjt_bool (xjw_or (xjt_not (xjt_val (xje_call df_law_stands hr (by rfl) (xja_cons (xje_var 5 (by rfl) (by exact Or.inl rfl) (by decide) (by decide)) (xja_cons (xje_var 6 (by rfl) (by exact Or.inl rfl) (by decide) (by decide)) (xja_cons (xje_op op_add l_add xje_int (xje_op L2.op_mod l_mod (xje_op op_divW l_divW (xje_var 3 (by rfl) (by exact Or.inl rfl) (by decide) (by decide)) xje_int) xje_int)) xja_nil (st1 (by rfl))) (st1 (by rfl))) (st1 (by rfl))) (by decide) (by rfl) (by decide) (st1 (by rfl)) (st_any (by rfl))) (tru1 (by rfl)))) (xjw_or1 (xjt_not (xjt_val (xje_call df_law_stands hr (by rfl) (xja_cons (xje_var 5 (by rfl) (by exact Or.inl rfl) (by decide) (by decide)) (xja_cons (xje_var 6 (by rfl) (by exact Or.inl rfl) (by decide) (by decide)) (xja_cons (xje_op op_add l_add xje_int (xje_op L2.op_mod l_mod (xje_op op_divW l_divW (xje_var 3 (by rfl) (by exact Or.inl rfl) (by decide) (by decide)) xje_int) xje_int)) xja_nil (st1 (by rfl))) (st1 (by rfl))) (st1 (by rfl))) (by decide) (by rfl) (by decide) (st1 (by rfl)) (st_any (by rfl))) (tru1 (by rfl))))))) (xjs_one (xjs_ret xje_bl)) xjs_nil') (xjs_cons (xjs_asg (xje_t1 L2.call_tuple_of l_tuple (by rfl) mg_tuple bt_tuple (xje_comp (xjf_comp ["_law_row"] [] [] (fun _ _ h => h) (by rfl) (compOk_mk (L2.defScope st_law) ["_law_script", "_law_turns_here", "_law_k", "_law_number_here", "_law_rows", "_law_found", "_law_due"] (by rfl) (by rfl) (by decide +kernel)) (xji_seq (xje_var 6 (by rfl) (by exact Or.inl rfl) (by decide) (by decide))) (low_name (by decide)) (fun cl C s H fp => by exact (xjg_name 0 (show List.Nodup (["_law_row"] : List Str) from by decide +kernel) (by rfl) (by exact Or.inl rfl) (by first | exact .inl rfl | exact .inr rfl))) (fun cl C s H fp => by exact xjcs_nil) (fun cl C s H fp => by exact (xje_t1 L2.call_list_of l_list (by rfl) mg_list bt_list (xje_var 0 (by rfl) (by first | exact Or.inl rfl | exact Or.inr (Or.inl rfl) | exact Or.inr (Or.inr rfl)) (by decide) (by decide)) (st1 (by rfl)) (by decide) (by decide))) (fold1 (by rfl)))) (st1 (by rfl)) (by decide) (by decide)) (xjg_name 1 sc.nd (by rfl) (by exact Or.inl rfl) (by first | exact .inl rfl | exact .inr rfl)) (sws1 (by rfl)) (sto2 (by rfl)) (asn1 (by rfl))) xjs_nil))))))) (fold1 (by rfl))) (xjs_cons (xjs_ret (xje_and (xje_cmp (op_eqD hr.units) l_eq (xje_globD gl_BOUND (by rfl) (by decide)) xje_int (L2.nomark _)) (xje_one (xje_cmp (op_eqD hr.units) l_eq (xje_call0 df_no_turns hr (by rfl) (by decide) (by decide)) (xje_tup (xja_cons (xje_lst xja_nil (by decide)) (xja_cons (xje_lst xja_nil (by decide)) (xja_cons (xje_lst xja_nil (by decide)) (xja_cons (xje_lst xja_nil (by decide)) (xja_cons (xje_lst xja_nil (by decide)) xja_nil (st1 (by rfl))) (st1 (by rfl))) (st1 (by rfl))) (st1 (by rfl))) (st1 (by rfl))) (by decide)) (L2.nomark _))))) xjs_nil))))).out
theorem all_mk {w : World} {K : PySem.W.Frag} {h : Heap} {mg : Str → Option Value} {fa f0 f1 f2 f3 f4 f5 f6 f7 f8 f9 f10 f11 f12 f13 f14 f15 : Addr} (X : K.In h) (G : h.Ns mainGlobals mg) (hfa : mg "law" = some (.ref fa))
    {od0 an0 od1 an1 od2 an2 od3 an3 od4 an4 od5 an5 od6 an6 od7 an7 od8 an8 od9 an9 od10 an10 od11 an11 od12 an12 od13 an13 od14 an14 od15 an15 : Option Addr} {sl0 sl1 sl2 sl3 sl4 sl5 sl6 sl7 sl8 sl9 sl10 sl11 sl12 sl13 sl14 sl15 : Array (Option Value)} {oc0 kV0 dc0 pm0 cd0 ct0 oc1 kV1 dc1 pm1 cd1 ct1 oc2 kV2 dc2 pm2 cd2 ct2 oc3 kV3 dc3 pm3 cd3 ct3 oc4 kV4 dc4 pm4 cd4 ct4 oc5 kV5 dc5 pm5 cd5 ct5 oc6 kV6 dc6 pm6 cd6 ct6 oc7 kV7 dc7 pm7 cd7 ct7 oc8 kV8 dc8 pm8 cd8 ct8 oc9 kV9 dc9 pm9 cd9 ct9 oc10 kV10 dc10 pm10 cd10 ct10 oc11 kV11 dc11 pm11 cd11 ct11 oc12 kV12 dc12 pm12 cd12 ct12 oc13 kV13 dc13 pm13 cd13 ct13 oc14 kV14 dc14 pm14 cd14 ct14 oc15 kV15 dc15 pm15 cd15 ct15 : Value}
    (a0 : PySem.W.nsIn K mainGlobals "_law_turns" = some (some (.ref f0))) (l0 : K.lookup f0 = some ⟨oc0, od0, .func (PySem.W.fnOf "_law_turns" "_law_turns" (L2.defArgs st_law_turns) (L2.defBody st_law_turns) (L2.defScope st_law_turns) .none kV0 dc0 pm0 an0 cd0 ct0), sl0⟩) (c0 : PySem.W.codeIn K cd0 "_law_turns" = true) (k0 : PySem.W.keepIn K (.ref f0) = true)
    (a1 : PySem.W.nsIn K mainGlobals "_law_number" = some (some (.ref f1))) (l1 : K.lookup f1 = some ⟨oc1, od1, .func (PySem.W.fnOf "_law_number" "_law_number" (L2.defArgs st_law_number) (L2.defBody st_law_number) (L2.defScope st_law_number) .none kV1 dc1 pm1 an1 cd1 ct1), sl1⟩) (c1 : PySem.W.codeIn K cd1 "_law_number" = true) (k1 : PySem.W.keepIn K (.ref f1) = true)
    (a2 : PySem.W.nsIn K mainGlobals "_law_next" = some (some (.ref f2))) (l2 : K.lookup f2 = some ⟨oc2, od2, .func (PySem.W.fnOf "_law_next" "_law_next" (L2.defArgs st_law_next) (L2.defBody st_law_next) (L2.defScope st_law_next) .none kV2 dc2 pm2 an2 cd2 ct2), sl2⟩) (c2 : PySem.W.codeIn K cd2 "_law_next" = true) (k2 : PySem.W.keepIn K (.ref f2) = true)
    (a3 : PySem.W.nsIn K mainGlobals "passed_on" = some (some (.ref f3))) (l3 : K.lookup f3 = some ⟨oc3, od3, .func (PySem.W.fnOf "passed_on" "passed_on" (L2.defArgs st_passed_on) (L2.defBody st_passed_on) (L2.defScope st_passed_on) .none kV3 dc3 pm3 an3 cd3 ct3), sl3⟩) (c3 : PySem.W.codeIn K cd3 "passed_on" = true) (k3 : PySem.W.keepIn K (.ref f3) = true)
    (a4 : PySem.W.nsIn K mainGlobals "taken_out" = some (some (.ref f4))) (l4 : K.lookup f4 = some ⟨oc4, od4, .func (PySem.W.fnOf "taken_out" "taken_out" (L2.defArgs st_taken_out) (L2.defBody st_taken_out) (L2.defScope st_taken_out) .none kV4 dc4 pm4 an4 cd4 ct4), sl4⟩) (c4 : PySem.W.codeIn K cd4 "taken_out" = true) (k4 : PySem.W.keepIn K (.ref f4) = true)
    (a5 : PySem.W.nsIn K mainGlobals "next_turn" = some (some (.ref f5))) (l5 : K.lookup f5 = some ⟨oc5, od5, .func (PySem.W.fnOf "next_turn" "next_turn" (L2.defArgs st_next_turn) (L2.defBody st_next_turn) (L2.defScope st_next_turn) .none kV5 dc5 pm5 an5 cd5 ct5), sl5⟩) (c5 : PySem.W.codeIn K cd5 "next_turn" = true) (k5 : PySem.W.keepIn K (.ref f5) = true)
    (a6 : PySem.W.nsIn K mainGlobals "_law_without" = some (some (.ref f6))) (l6 : K.lookup f6 = some ⟨oc6, od6, .func (PySem.W.fnOf "_law_without" "_law_without" (L2.defArgs st_law_without) (L2.defBody st_law_without) (L2.defScope st_law_without) .none kV6 dc6 pm6 an6 cd6 ct6), sl6⟩) (c6 : PySem.W.codeIn K cd6 "_law_without" = true) (k6 : PySem.W.keepIn K (.ref f6) = true)
    (a7 : PySem.W.nsIn K mainGlobals "made_ready" = some (some (.ref f7))) (l7 : K.lookup f7 = some ⟨oc7, od7, .func (PySem.W.fnOf "made_ready" "made_ready" (L2.defArgs st_made_ready) (L2.defBody st_made_ready) (L2.defScope st_made_ready) .none kV7 dc7 pm7 an7 cd7 ct7), sl7⟩) (c7 : PySem.W.codeIn K cd7 "made_ready" = true) (k7 : PySem.W.keepIn K (.ref f7) = true)
    (a8 : PySem.W.nsIn K mainGlobals "_law_done" = some (some (.ref f8))) (l8 : K.lookup f8 = some ⟨oc8, od8, .func (PySem.W.fnOf "_law_done" "_law_done" (L2.defArgs st_law_done) (L2.defBody st_law_done) (L2.defScope st_law_done) .none kV8 dc8 pm8 an8 cd8 ct8), sl8⟩) (c8 : PySem.W.codeIn K cd8 "_law_done" = true) (k8 : PySem.W.keepIn K (.ref f8) = true)
    (a9 : PySem.W.nsIn K mainGlobals "_law_whole" = some (some (.ref f9))) (l9 : K.lookup f9 = some ⟨oc9, od9, .func (PySem.W.fnOf "_law_whole" "_law_whole" (L2.defArgs st_law_whole) (L2.defBody st_law_whole) (L2.defScope st_law_whole) .none kV9 dc9 pm9 an9 cd9 ct9), sl9⟩) (c9 : PySem.W.codeIn K cd9 "_law_whole" = true) (k9 : PySem.W.keepIn K (.ref f9) = true)
    (a10 : PySem.W.nsIn K mainGlobals "_law_are" = some (some (.ref f10))) (l10 : K.lookup f10 = some ⟨oc10, od10, .func (PySem.W.fnOf "_law_are" "_law_are" (L2.defArgs st_law_are) (L2.defBody st_law_are) (L2.defScope st_law_are) .none kV10 dc10 pm10 an10 cd10 ct10), sl10⟩) (c10 : PySem.W.codeIn K cd10 "_law_are" = true) (k10 : PySem.W.keepIn K (.ref f10) = true)
    (a11 : PySem.W.nsIn K mainGlobals "no_turns" = some (some (.ref f11))) (l11 : K.lookup f11 = some ⟨oc11, od11, .func (PySem.W.fnOf "no_turns" "no_turns" (L2.defArgs st_no_turns) (L2.defBody st_no_turns) (L2.defScope st_no_turns) .none kV11 dc11 pm11 an11 cd11 ct11), sl11⟩) (c11 : PySem.W.codeIn K cd11 "no_turns" = true) (k11 : PySem.W.keepIn K (.ref f11) = true)
    (a12 : PySem.W.nsIn K mainGlobals "rows_of" = some (some (.ref f12))) (l12 : K.lookup f12 = some ⟨oc12, od12, .func (PySem.W.fnOf "rows_of" "rows_of" (L2.defArgs st_rows_of) (L2.defBody st_rows_of) (L2.defScope st_rows_of) .none kV12 dc12 pm12 an12 cd12 ct12), sl12⟩) (c12 : PySem.W.codeIn K cd12 "rows_of" = true) (k12 : PySem.W.keepIn K (.ref f12) = true)
    (a13 : PySem.W.nsIn K mainGlobals "standing" = some (some (.ref f13))) (l13 : K.lookup f13 = some ⟨oc13, od13, .func (PySem.W.fnOf "standing" "standing" (L2.defArgs st_standing) (L2.defBody st_standing) (L2.defScope st_standing) .none kV13 dc13 pm13 an13 cd13 ct13), sl13⟩) (c13 : PySem.W.codeIn K cd13 "standing" = true) (k13 : PySem.W.keepIn K (.ref f13) = true)
    (a14 : PySem.W.nsIn K mainGlobals "_law_stands" = some (some (.ref f14))) (l14 : K.lookup f14 = some ⟨oc14, od14, .func (PySem.W.fnOf "_law_stands" "_law_stands" (L2.defArgs st_law_stands) (L2.defBody st_law_stands) (L2.defScope st_law_stands) .none kV14 dc14 pm14 an14 cd14 ct14), sl14⟩) (c14 : PySem.W.codeIn K cd14 "_law_stands" = true) (k14 : PySem.W.keepIn K (.ref f14) = true)
    (a15 : PySem.W.nsIn K mainGlobals "law" = some (some (.ref f15))) (l15 : K.lookup f15 = some ⟨oc15, od15, .func (PySem.W.fnOf "law" "law" (L2.defArgs st_law) (L2.defBody st_law) (L2.defScope st_law) .none kV15 dc15 pm15 an15 cd15 ct15), sl15⟩) (c15 : PySem.W.codeIn K cd15 "law" = true) (k15 : PySem.W.keepIn K (.ref f15) = true)
    (z_bool : PySem.W.nsIn K mainGlobals "bool" = some none)
    (z_enumerate : PySem.W.nsIn K mainGlobals "enumerate" = some none)
    (z_int : PySem.W.nsIn K mainGlobals "int" = some none)
    (z_isinstance : PySem.W.nsIn K mainGlobals "isinstance" = some none)
    (z_len : PySem.W.nsIn K mainGlobals "len" = some none)
    (z_list : PySem.W.nsIn K mainGlobals "list" = some none)
    (z_max : PySem.W.nsIn K mainGlobals "max" = some none)
    (z_min : PySem.W.nsIn K mainGlobals "min" = some none)
    (z_range : PySem.W.nsIn K mainGlobals "range" = some none)
    (z_reversed : PySem.W.nsIn K mainGlobals "reversed" = some none)
    (z_tuple : PySem.W.nsIn K mainGlobals "tuple" = some none)
    (gl_FIFTH : GlD PySem.Challenge.pw_underfloor_k54_deeds_on_turns w K mg "FIFTH" g_FIFTH)
    (gl_RANKS : GlD PySem.Challenge.pw_underfloor_k54_deeds_on_turns w K mg "RANKS" g_RANKS)
    (gl_MOST_PASSED : GlD PySem.Challenge.pw_underfloor_k54_deeds_on_turns w K mg "MOST_PASSED" g_MOST_PASSED)
    (gl_BOUND : GlD PySem.Challenge.pw_underfloor_k54_deeds_on_turns w K mg "BOUND" g_BOUND) :
    ∃ fd : FuncData, (∀ (s : Shared) (v : Value), BindsTo s fd ⟨[v], []⟩ [("_law_script", v)]) ∧ ∀ base : Heap, K.In base → base.Ns mainGlobals mg → L2.FnOk PySem.Challenge.pw_underfloor_k54_deeds_on_turns w K mg base L2.CX0 4 fa fd ["_law_script"] (spM ⟨K, PySem.Challenge.pw_underfloor_k54_deeds_on_turns, w⟩ m_law 1) := by
  have e := hfa.symm.trans (PySem.W.mg_of X G a15)
  cases e
  have mg_bool := PySem.W.mg_none_of X G z_bool
  have mg_enumerate := PySem.W.mg_none_of X G z_enumerate
  have mg_int := PySem.W.mg_none_of X G z_int
  have mg_isinstance := PySem.W.mg_none_of X G z_isinstance
  have mg_len := PySem.W.mg_none_of X G z_len
  have mg_list := PySem.W.mg_none_of X G z_list
  have mg_max := PySem.W.mg_none_of X G z_max
  have mg_min := PySem.W.mg_none_of X G z_min
  have mg_range := PySem.W.mg_none_of X G z_range
  have mg_reversed := PySem.W.mg_none_of X G z_reversed
  have mg_tuple := PySem.W.mg_none_of X G z_tuple
  refine ⟨PySem.W.fnOf "law" "law" (L2.defArgs st_law) (L2.defBody st_law) (L2.defScope st_law) .none kV15 dc15 pm15 an15 cd15 ct15, fun s v => .of_eq rfl, fun base _ _ => ?_⟩
  have df_law_turns := d_law_turns (P := PySem.Challenge.pw_underfloor_k54_deeds_on_turns) (w := w) (base := base) (L2.fun_mk (st := st_law_turns) l0 c0 k0) (PySem.W.mg_of X G a0) mg_len mg_list mg_range mg_tuple
  have df_law_number := d_law_number (P := PySem.Challenge.pw_underfloor_k54_deeds_on_turns) (w := w) (base := base) (L2.fun_mk (st := st_law_number) l1 c1 k1) (PySem.W.mg_of X G a1) mg_len
  have df_law_next := d_law_next (P := PySem.Challenge.pw_underfloor_k54_deeds_on_turns) (w := w) (base := base) (L2.fun_mk (st := st_law_next) l2 c2 k2) (PySem.W.mg_of X G a2) 
  have df_passed_on := d_passed_on (P := PySem.Challenge.pw_underfloor_k54_deeds_on_turns) (w := w) (base := base) (L2.fun_mk (st := st_passed_on) l3 c3 k3) (PySem.W.mg_of X G a3) mg_list mg_reversed mg_tuple gl_RANKS gl_FIFTH gl_MOST_PASSED
  have df_taken_out := d_taken_out (P := PySem.Challenge.pw_underfloor_k54_deeds_on_turns) (w := w) (base := base) (L2.fun_mk (st := st_taken_out) l4 c4 k4) (PySem.W.mg_of X G a4) mg_tuple
  have df_next_turn := d_next_turn (P := PySem.Challenge.pw_underfloor_k54_deeds_on_turns) (w := w) (base := base) (L2.fun_mk (st := st_next_turn) l5 c5 k5) (PySem.W.mg_of X G a5) mg_len mg_reversed df_taken_out df_passed_on
  have df_law_without := d_law_without (P := PySem.Challenge.pw_underfloor_k54_deeds_on_turns) (w := w) (base := base) (L2.fun_mk (st := st_law_without) l6 c6 k6) (PySem.W.mg_of X G a6) 
  have df_made_ready := d_made_ready (P := PySem.Challenge.pw_underfloor_k54_deeds_on_turns) (w := w) (base := base) (L2.fun_mk (st := st_made_ready) l7 c7 k7) (PySem.W.mg_of X G a7) df_taken_out
  have df_law_done := d_law_done (P := PySem.Challenge.pw_underfloor_k54_deeds_on_turns) (w := w) (base := base) (L2.fun_mk (st := st_law_done) l8 c8 k8) (PySem.W.mg_of X G a8) mg_bool mg_isinstance mg_len mg_tuple df_law_without df_made_ready df_taken_out df_law_next df_next_turn
  have df_law_whole := d_law_whole (P := PySem.Challenge.pw_underfloor_k54_deeds_on_turns) (w := w) (base := base) (L2.fun_mk (st := st_law_whole) l9 c9 k9) (PySem.W.mg_of X G a9) mg_bool mg_int mg_isinstance
  have df_law_are := d_law_are (P := PySem.Challenge.pw_underfloor_k54_deeds_on_turns) (w := w) (base := base) (L2.fun_mk (st := st_law_are) l10 c10 k10) (PySem.W.mg_of X G a10) mg_isinstance mg_len mg_list mg_tuple df_law_whole
  have df_no_turns := d_no_turns (P := PySem.Challenge.pw_underfloor_k54_deeds_on_turns) (w := w) (base := base) (L2.fun_mk (st := st_no_turns) l11 c11 k11) (PySem.W.mg_of X G a11) 
  have df_rows_of := d_rows_of (P := PySem.Challenge.pw_underfloor_k54_deeds_on_turns) (w := w) (base := base) (L2.fun_mk (st := st_rows_of) l12 c12 k12) (PySem.W.mg_of X G a12) 
  have df_standing := d_standing (P := PySem.Challenge.pw_underfloor_k54_deeds_on_turns) (w := w) (base := base) (L2.fun_mk (st := st_standing) l13 c13 k13) (PySem.W.mg_of X G a13) mg_enumerate
  have df_law_stands := d_law_stands (P := PySem.Challenge.pw_underfloor_k54_deeds_on_turns) (w := w) (base := base) (L2.fun_mk (st := st_law_stands) l14 c14 k14) (PySem.W.mg_of X G a14) mg_isinstance mg_len mg_range mg_tuple df_standing df_law_whole
  have df_law := x_law (P := PySem.Challenge.pw_underfloor_k54_deeds_on_turns) (w := w) (base := base) (L2.fun_mk (st := st_law) l15 c15 k15) (PySem.W.mg_of X G a15) mg_len mg_list mg_max mg_min mg_range mg_tuple gl_BOUND df_law_number df_law_turns df_no_turns df_law_are df_rows_of df_law_done df_law_stands
  exact df_law
end K54
end PL
set_option linter.all false
set_option maxRecDepth 4000
set_option Elab.async false
set_option maxHeartbeats 400000
namespace PL
namespace K54
open PySem G
theorem lists_ok {T : List (List Pr)} (hl : T.length ≤ 1000) {it : Itr} {ρ : En} (hi : it ρ = .ok (T.map rowD)) : (eComp it 1 [] (gName 0) [] (e1 oList (eVar 0))) ρ = .ok (lD T) := by
  refine eComp_ok (ds := T.map rowD) hi (by rw [List.length_map]; omega) ?_
  show compL _ _ _ [.un] _ = _
  exact compL_map rowD rowD fun r _ => ⟨[.sh (rowD r)], rfl, e_one (o := oList) (x := rowD r) rfl rfl⟩
theorem step {ns : List Int} {T : List (List Pr)} (h : Inv T) (k : Nat) (s3 s4 s5 s6 : Slot) : ∃ T' t3 t4 t5 t6, Inv T' ∧
    m_law_l1 [.sh (.lst (ns.map .int)), .sh (tD T), .sh (.int k), s3, s4, s5, s6] = .ok (.next [.sh (.lst (ns.map .int)), .sh (tD T'), .sh (.int k), t3, t4, t5, t6]) := by
  obtain ⟨N, _, eN⟩ := number_ok (ns := ns) (k := k) (by omega)
  obtain ⟨T', hT', eD⟩ := done_ok h N
  obtain ⟨L, hL⟩ : ∃ L, D.lst (ns.map .int) = L := ⟨_, rfl⟩
  rw [hL] at eN ⊢
  have l5 : T.length ≤ 1000 := by rw [h.five]; decide
  have l5' : T'.length ≤ 1000 := by rw [hT'.five]; decide
  have a1 : (sAsg (gName 3) (eCall m_law_number [eVar 0, eVar 2])) [.sh L, .sh (tD T), .sh (.int k), s3, s4, s5, s6] = .ok (.next [.sh L, .sh (tD T), .sh (.int k), .sh (.int N), s4, s5, s6]) := s_asg (d := .int N) (e_call2 rfl rfl eN)
  have a2 : (sAsg (gName 4) (eComp (iSeq (eVar 1)) 1 [] (gName 0) [] (e1 oList (eVar 0)))) [.sh L, .sh (tD T), .sh (.int k), .sh (.int N), s4, s5, s6] = .ok (.next [.sh L, .sh (tD T), .sh (.int k), .sh (.int N), .sh (lD T), s5, s6]) := s_asg (d := lD T) (lists_ok l5 rfl)
  have a3 : (sAsg (gTupA [5, 6]) (eCall m_law_done [eVar 1, eVar 4, eVar 3])) [.sh L, .sh (tD T), .sh (.int k), .sh (.int N), .sh (lD T), s5, s6] = .ok (.next [.sh L, .sh (tD T), .sh (.int k), .sh (.int N), .sh (lD T), .sh (tD T'), .sh (lD T')]) := by
    show ((eCall m_law_done [eVar 1, eVar 4, eVar 3]) _).bind _ = _
    rw [e_call3 (f := m_law_done) rfl rfl rfl eD, R.bind_ok]
    rfl
  have ll := lay_lD T
  refine ⟨T', .sh (.int N), .sh (lD T), .sh (tD T'), .sh (lD T'), hT', ?_⟩
  rw [m_law_l1, blk a1, blk a2, blk a3]
  rw [blk (sIf_nil (t_or (b := false) (c := false) (t_v (e_one (o := oIsN) (x := tD T') rfl rfl)) (t_or (b := false) (c := false) (t_not (b := true) (t_v (e_call2 rfl rfl (are_ok hT'.five)))) (t_v (e_two (o := oNe) (x := lD T) (y := lD T) (lists_ok l5 rfl) rfl (ne_self ll.1 ll.2))))))]
  rw [blk (sIf_nil (t_or (b := false) (c := false) (t_not (b := true) (t_v (e_call3 rfl rfl (e_add (i := 1) rfl (e_mod (e_divW (i := N) (u := 600) rfl rfl ⟨by decide, by decide⟩) rfl (by decide))) (stands_ok hT' _)))) (t_not (b := true) (t_v (e_call3 rfl rfl (e_add (i := 1) rfl (e_mod (e_divW (i := N) (u := 3) rfl rfl ⟨by decide, by decide⟩) rfl (by decide))) (stands_ok hT' _))))))]
  rw [blk (s_asg (d := tD T') (e_one (o := oTuple) (x := lD T') (lists_ok l5' rfl) rfl))]
  rfl
theorem loop {ns : List Int} : ∀ (ds : List D), (∀ d ∈ ds, ∃ k : Nat, d = .int k) → ∀ (T : List (List Pr)) (s2 s3 s4 s5 s6 : Slot), Inv T →
    ∃ ρ', forL (gName 2) m_law_l1 ds [.sh (.lst (ns.map .int)), .sh (tD T), s2, s3, s4, s5, s6] = .ok (.next ρ')
  | [], _, T, s2, s3, s4, s5, s6, _ => ⟨_, rfl⟩
  | d :: ds, h, T, s2, s3, s4, s5, s6, hI => by
    obtain ⟨k, rfl⟩ := h d List.mem_cons_self
    obtain ⟨T', t3, t4, t5, t6, hT', e⟩ := step (ns := ns) hI k s3 s4 s5 s6
    obtain ⟨ρ', ih⟩ := loop (ns := ns) ds (fun x hx => h x (List.mem_cons_of_mem _ hx)) T' (.sh (.int k)) t3 t4 t5 t6 hT'
    refine ⟨ρ', ?_⟩
    rw [forL, show gName 2 (.int k) [.sh (.lst (ns.map .int)), .sh (tD T), s2, s3, s4, s5, s6] = .ok [.sh (.lst (ns.map .int)), .sh (tD T), .sh (.int k), s3, s4, s5, s6] from rfl, R.bind_ok, e, R.bind_ok]
    exact ih
theorem law_true (ns : List Int) (_h : ns.length ≤ 63) : m_law [.lst (ns.map .int)] = .ok (.bl true) := by
  obtain ⟨N, _, eN⟩ := number_ok (ns := ns) (k := 0) (by decide)
  obtain ⟨T, eT, hT⟩ := turns_ok N
  have hare : m_law_are [tD [[], [], [], [], []], .lst [.lst [], .lst [], .lst [], .lst [], .lst []]] = .ok (.bl true) := are_ok (T := [[], [], [], [], []]) rfl
  rw [m_law]
  refine fn_ret ?_
  show sBlk _ [.sh (.lst (ns.map .int)), .un, .un, .un, .un, .un, .un] = _
  rw [blk (s_asg (d := tD T) (e_call1 (e_call2 (y := .int 0) rfl rfl eN) eT))]
  show sBlk _ [.sh (.lst (ns.map .int)), .sh (tD T), .un, .un, .un, .un, .un] = _
  obtain ⟨m, hm, em⟩ : ∃ m : Int, (0 ≤ m ∧ m ≤ 63) ∧ (e2 oMax (eC (.int 2)) (e2 oMin (eC (.int 61)) (e1 oLen (eVar 0)))) [.sh (.lst (ns.map .int)), .sh (tD T), .un, .un, .un, .un, .un] = .ok (.int m) := by
    have e1 : (e1 oLen (eVar 0)) [.sh (.lst (ns.map .int)), .sh (tD T), .un, .un, .un, .un, .un] = .ok (.int ns.length) := e_one (x := .lst (ns.map .int)) rfl (by show R.ok (D.int ((ns.map D.int).length : Int)) = _; rw [List.length_map])
    exact ⟨_, by omega, e_two (o := oMax) (x := .int 2) rfl (e_two (o := oMin) (x := .int 61) rfl e1 rfl) rfl⟩
  obtain ⟨ρ', e⟩ := loop (ns := ns) (rangeL 1 m) (fun d hd => by
    obtain ⟨k, rfl, h0, _⟩ := rangeL_mem hd
    exact ⟨k.toNat, by rw [Int.toNat_of_nonneg (by omega)]⟩) T .un .un .un .un .un hT
  have c1 : (tOr (tNot (tV (eCall m_law_are [eCall m_no_turns [], eLst [eLst [], eLst [], eLst [], eLst [], eLst []]]))) (tV (e2 oNe (eComp (iRng1 (eC (.int 4))) 1 [] (gName 0) [] (eCall m_rows_of [eVar 0])) (eLst [eC (.int 4), eC (.int 8), eC (.int 12), eC (.int 16)])))) [.sh (.lst (ns.map .int)), .sh (tD T), .un, .un, .un, .un, .un] = .ok false := by
    refine t_or (b := false) (c := false) (t_not (b := true) (t_v (e_call2 (x := tD [[], [], [], [], []]) (y := .lst [.lst [], .lst [], .lst [], .lst [], .lst []]) rfl rfl hare))) (t_v (e_two (o := oNe) (x := .lst [.int 4, .int 8, .int 12, .int 16]) (y := .lst [.int 4, .int 8, .int 12, .int 16]) ?_ rfl (ne_self rfl (show (1 : Nat) ≤ 60 by decide))))
    refine eComp_ok (ds := ([0, 1, 2, 3] : List Int).map .int) rfl (by decide) ?_
    show compL _ _ _ [.un] _ = _
    refine (compL_map D.int (fun i => D.int (4 * (i + 1))) (xs := [0, 1, 2, 3]) fun i hi => ⟨[.sh (.int i)], rfl, e_call1 rfl ?_⟩).trans rfl
    rw [m_rows_of]
    refine fn_ret (s_ret (e_two (o := oMulW) (x := .int 4) (y := .int (i + 1)) rfl rfl ?_))
    show (if _ then _ else _) = _
    rw [if_pos (by
      simp only [List.mem_cons, List.not_mem_nil, or_false] at hi
      rw [show wid 4 = true by decide, wid_of (n := 10) (by omega) (by decide)]; rfl)]
  rw [blk (sIf_nil c1)]
  rw [blk (a := sFor _ _ _) (for_seq (iRng2_ok (I := 1) rfl em (inR_of (by omega) (by omega)) (inR_of (by omega) (by omega))) e)]
  refine blk_ret (s_ret (e_andB (x := true) (y := true) (e_two (o := oEq) (x := .int 23) (y := .int 23) rfl rfl (by rw [eq_int]; rfl)) fun _ => e_two (o := oEq) (x := tD [[], [], [], [], []]) (y := tD [[], [], [], [], []]) rfl rfl (eq_self rfl (show (2 : Nat) ≤ 60 by decide))))
end K54
end PL
open PySem PySem.W PyProof.Rows
set_option maxRecDepth 100000 in
set_option maxHeartbeats 0 in
theorem PySem.Challenge.cw_underfloor_k54_deeds_on_turns_holds : PySem.Challenge.rw_underfloor_k54_deeds_on_turns.Holds := by
  w_on; o_law; k_head; (case hw => w_witness2)
  k_fill
  refine PL.walk (l := PySem.Challenge.rw_underfloor_k54_deeds_on_turns) (k := 4) (x := "_law_script") (m := PL.K54.m_law) rfl rfl ⟨rfl, by decide, by decide⟩ (fun w h Y => PySem.W.kIn_of Y) ?F PL.K54.law_true
  case F =>
    intro w mg fa h KX G hmg
    refine' PL.K54.all_mk KX G hmg ?a0 ?l0 ?c0 ?k0 ?a1 ?l1 ?c1 ?k1 ?a2 ?l2 ?c2 ?k2 ?a3 ?l3 ?c3 ?k3 ?a4 ?l4 ?c4 ?k4 ?a5 ?l5 ?c5 ?k5 ?a6 ?l6 ?c6 ?k6 ?a7 ?l7 ?c7 ?k7 ?a8 ?l8 ?c8 ?k8 ?a9 ?l9 ?c9 ?k9 ?a10 ?l10 ?c10 ?k10 ?a11 ?l11 ?c11 ?k11 ?a12 ?l12 ?c12 ?k12 ?a13 ?l13 ?c13 ?k13 ?a14 ?l14 ?c14 ?k14 ?a15 ?l15 ?c15 ?k15 ?z_bool ?z_enumerate ?z_int ?z_isinstance ?z_len ?z_list ?z_max ?z_min ?z_range ?z_reversed ?z_tuple ?gl_FIFTH ?gl_RANKS ?gl_MOST_PASSED ?gl_BOUND
    (case a0 => k_is)
    (case l0 => k_is)
    (case c0 => k_is)
    (case k0 => k_is)
    (case a1 => k_is)
    (case l1 => k_is)
    (case c1 => k_is)
    (case k1 => k_is)
    (case a2 => k_is)
    (case l2 => k_is)
    (case c2 => k_is)
    (case k2 => k_is)
    (case a3 => k_is)
    (case l3 => k_is)
    (case c3 => k_is)
    (case k3 => k_is)
    (case a4 => k_is)
    (case l4 => k_is)
    (case c4 => k_is)
    (case k4 => k_is)
    (case a5 => k_is)
    (case l5 => k_is)
    (case c5 => k_is)
    (case k5 => k_is)
    (case a6 => k_is)
    (case l6 => k_is)
    (case c6 => k_is)
    (case k6 => k_is)
    (case a7 => k_is)
    (case l7 => k_is)
    (case c7 => k_is)
    (case k7 => k_is)
    (case a8 => k_is)
    (case l8 => k_is)
    (case c8 => k_is)
    (case k8 => k_is)
    (case a9 => k_is)
    (case l9 => k_is)
    (case c9 => k_is)
    (case k9 => k_is)
    (case a10 => k_is)
    (case l10 => k_is)
    (case c10 => k_is)
    (case k10 => k_is)
    (case a11 => k_is)
    (case l11 => k_is)
    (case c11 => k_is)
    (case k11 => k_is)
    (case a12 => k_is)
    (case l12 => k_is)
    (case c12 => k_is)
    (case k12 => k_is)
    (case a13 => k_is)
    (case l13 => k_is)
    (case c13 => k_is)
    (case k13 => k_is)
    (case a14 => k_is)
    (case l14 => k_is)
    (case c14 => k_is)
    (case k14 => k_is)
    (case a15 => k_is)
    (case l15 => k_is)
    (case c15 => k_is)
    (case k15 => k_is)
    (case z_bool => k_is)
    (case z_enumerate => k_is)
    (case z_int => k_is)
    (case z_isinstance => k_is)
    (case z_len => k_is)
    (case z_list => k_is)
    (case z_max => k_is)
    (case z_min => k_is)
    (case z_range => k_is)
    (case z_reversed => k_is)
    (case z_tuple => k_is)
    (case gl_FIFTH => refine' PL.gl_flat KX G ?x1_FIFTH ?x2_FIFTH; (case x1_FIFTH => k_is); (case x2_FIFTH => exact ⟨_, rfl⟩))
    (case gl_RANKS => refine' PL.gl_flat KX G ?x1_RANKS ?x2_RANKS; (case x1_RANKS => k_is); (case x2_RANKS => exact ⟨_, rfl⟩))
    (case gl_MOST_PASSED => refine' PL.gl_flat KX G ?x1_MOST_PASSED ?x2_MOST_PASSED; (case x1_MOST_PASSED => k_is); (case x2_MOST_PASSED => exact ⟨_, rfl⟩))
    (case gl_BOUND => refine' PL.gl_flat KX G ?x1_BOUND ?x2_BOUND; (case x1_BOUND => k_is); (case x2_BOUND => exact ⟨_, rfl⟩))
