import PyProof.Rows.All
import Wide.All
import OpenK.AllK
import Wide.FinOn
import Lean
import PyProof.EqAt
import PyProof.EqKinds
import PyProof.TupleCall
import KE.KIntText
import Wide.Seal
import PySem.Challenge.RW_underfloor_k10_whole_there_and_back
set_option Elab.async false
set_option linter.all false
set_option maxRecDepth 100000
namespace L2
open PySem PySem.Spec PyProof.Rows
noncomputable abbrev Key := Sum Int Str
noncomputable def keyIs : Key → Value → Bool
  | .inl k, v => Value.isInt k v
  | .inr x, v => Value.isStrOf x v
noncomputable def keyH (w : World) : Key → Int
  | .inl k => hashInt k
  | .inr x => hashStr w x
theorem keyIs_shape : ∀ {k : Key} {v : Value}, keyIs k v = true → (∃ i t, k = Sum.inl i ∧ v = Value.int i t) ∨ (∃ x t, k = Sum.inr x ∧ v = Value.str x t)
  | .inl i, v, h => by
    obtain ⟨t, e⟩ := Value.isInt_shape (k := i) (v := v) h
    exact .inl ⟨i, t, rfl, e⟩
  | .inr x, v, h => by
    obtain ⟨t, e⟩ := Value.isStrOf_shape (x := x) (v := v) h
    exact .inr ⟨x, t, rfl, e⟩
theorem keyIs_int (i : Int) (t : Tok) : keyIs (.inl i) (.int i t) = true := by simp [keyIs, Value.isInt]
theorem keyIs_str (x : Str) (t : Tok) : keyIs (.inr x) (.str x t) = true := by simp [keyIs, Value.isStrOf]
theorem key_ll (a b : Int) : decide ((Sum.inl a : Key) = Sum.inl b) = (a == b) := by
  by_cases e : a = b
  · subst e; simp
  · have h : ¬ (Sum.inl a : Key) = Sum.inl b := fun q => e (Sum.inl.inj q)
    rw [decide_eq_false h]
    exact (beq_eq_false_iff_ne.mpr e).symm
theorem key_rr (a b : Str) : decide ((Sum.inr a : Key) = Sum.inr b) = decide (a = b) := by
  by_cases e : a = b
  · subst e; simp
  · have h : ¬ (Sum.inr a : Key) = Sum.inr b := fun q => e (Sum.inr.inj q)
    rw [decide_eq_false h, decide_eq_false e]
theorem key_lr (a : Int) (b : Str) : decide ((Sum.inl a : Key) = Sum.inr b) = false := decide_eq_false (fun q => nomatch q)
theorem key_rl (a : Str) (b : Int) : decide ((Sum.inr a : Key) = Sum.inl b) = false := decide_eq_false (fun q => nomatch q)
noncomputable def mixKind (prog : Program) (w : World) : PySem.KeyKind prog w Key where
  is := keyIs
  hash := keyH w
  inj := fun v a b ha hb => by
    rcases keyIs_shape ha with ⟨i, t, rfl, rfl⟩ | ⟨x, t, rfl, rfl⟩
    · rcases keyIs_shape hb with ⟨j, u, rfl, e⟩ | ⟨y, u, rfl, e⟩
      · injection e with e1 _; rw [e1]
      · exact nomatch e
    · rcases keyIs_shape hb with ⟨j, u, rfl, e⟩ | ⟨y, u, rfl, e⟩
      · exact nomatch e
      · injection e with e1 _; rw [e1]
  byValue := fun k v h => by
    rcases keyIs_shape h with ⟨i, t, rfl, rfl⟩ | ⟨x, t, rfl, rfl⟩ <;> rfl
  pyHash := fun hv h => by
    rcases keyIs_shape hv with ⟨i, t, rfl, rfl⟩ | ⟨x, t, rfl, rfl⟩
    · exact wpAny_pyHash_int h
    · exact wpAny_pyHash_str h
  eqBool := fun hu hv h => by
    rcases keyIs_shape hu with ⟨i, t, rfl, rfl⟩ | ⟨x, t, rfl, rfl⟩
    · rcases keyIs_shape hv with ⟨j, u, rfl, rfl⟩ | ⟨y, u, rfl, rfl⟩
      · rw [key_ll] at h; exact wpAny_eqBool_int h
      · rw [key_lr] at h; exact SeqAt.EqAt.int_str i t y u _ _ _ _ h
    · rcases keyIs_shape hv with ⟨j, u, rfl, rfl⟩ | ⟨y, u, rfl, rfl⟩
      · rw [key_rl] at h; exact SeqAt.EqAt.str_int x t j u _ _ _ _ h
      · rw [key_rr] at h; exact wpAny_eqBool_str h
  «strs» := fun k x t v h => by
    rcases keyIs_shape h with ⟨i, u, rfl, e⟩ | ⟨y, u, rfl, e⟩
    · exact nomatch e
    · injection e with e1 _
      subst e1
      cases v <;> rfl
theorem mixKind_int (prog : Program) (w : World) (i : Int) (t : Tok) : (mixKind prog w).is (.inl i) (.int i t) = true := keyIs_int i t
theorem mixKind_str (prog : Program) (w : World) (x : Str) (t : Tok) : (mixKind prog w).is (.inr x) (.str x t) = true := keyIs_str x t
end L2
namespace L2
open PySem PySem.Spec PyProof.Rows
inductive V where
  | non | bl (b : Bool) | int (i : Int) | str (x : Str) | byt (b : Array UInt8) | flt (b : UInt64) | ref (a : Addr) | ty (n : String)
  deriving DecidableEq
noncomputable def RelV : V → Value → Prop
  | .non, u => u = Value.none
  | .bl b, u => u = Value.bool b
  | .int i, u => ∃ t, u = Value.int i t
  | .str x, u => ∃ t, u = Value.str x t
  | .byt b, u => ∃ t, u = Value.bytes b t
  | .flt b, u => ∃ t, u = Value.float b t
  | .ref a, u => u = Value.ref a
  | .ty n, u => u = Value.type n
noncomputable abbrev Vals : List V → List Value → Prop := Paired RelV
theorem Vals.length {xs : List V} {us : List Value} (r : Vals xs us) : xs.length = us.length := Paired.length r
theorem Vals.get : ∀ {xs : List V} {us : List Value} {i : Nat} {x : V}, Vals xs us → xs[i]? = some x → ∃ u, us[i]? = some u ∧ RelV x u
  | _, _, _, _, .nil, e => by simp at e
  | _, _, 0, _, .cons r _, e => by simp at e; subst e; exact ⟨_, rfl, r⟩
  | _, _, i + 1, x, .cons _ t, e => by
    obtain ⟨u, h1, h2⟩ := Vals.get (i := i) (x := x) t (by simpa using e)
    exact ⟨u, by simpa using h1, h2⟩
theorem Vals.append : ∀ {xs ys : List V} {us ws : List Value}, Vals xs us → Vals ys ws → Vals (xs ++ ys) (us ++ ws)
  | _, _, _, _, .nil, s => s
  | _, _, _, _, .cons r t, s => .cons r (Vals.append t s)
theorem Vals.take : ∀ {xs : List V} {us : List Value} (n : Nat), Vals xs us → Vals (xs.take n) (us.take n)
  | _, _, 0, _ => .nil
  | _, _, _ + 1, .nil => .nil
  | _, _, n + 1, .cons r t => .cons r (Vals.take n t)
theorem Vals.drop : ∀ {xs : List V} {us : List Value} (n : Nat), Vals xs us → Vals (xs.drop n) (us.drop n)
  | _, _, 0, r => r
  | _, _, _ + 1, .nil => .nil
  | _, _, n + 1, .cons _ t => Vals.drop n t
noncomputable def RelO : Option V → Option Value → Prop
  | some v, some u => RelV v u
  | none, none => True
  | _, _ => False
noncomputable def KV {κ : Type} : List (κ × V) → List (κ × Value) → Prop := Paired fun (p : κ × V) (q : κ × Value) => p.1 = q.1 ∧ RelV p.2 q.2
noncomputable def kV : Key → V
  | .inl i => .int i
  | .inr x => .str x
inductive HO where
  | lst (xs : List V)
  | tup (xs : List V)
  | dK (kvs : List (Key × V)) | dT (kvs : List (List Key × V))
  | set (S : Int → Bool) (n : Nat)
  | ins (C dx : Addr) (fs : List (Str × V))
  | own (x : Addr)
  | xd (fs : List (Str × V))
  | met (f x : Addr)
  | rng (lo hi : Int)
  | frz (o : Obj) (u : HO)
  | tbl (ps : Array Value)
  | ext (φ : Heap → Prop)
noncomputable abbrev Hp := Addr → Option HO
noncomputable def upd (H : Hp) (a : Addr) (o : HO) : Hp := fun b => if b = a then some o else H b
theorem upd_same {H : Hp} {a : Addr} {o : HO} : upd H a o a = some o := by unfold upd; rw [if_pos rfl]
theorem upd_ne {H : Hp} {a b : Addr} {o : HO} (h : b ≠ a) : upd H a o b = H b := by unfold upd; rw [if_neg h]
theorem ne_of_none {H : Hp} {a b : Addr} {o : HO} (h : H a = some o) (h' : H b = none) : a ≠ b := by
  intro e; subst e; rw [h] at h'; cases h'
section
variable (P : Program) (w : World)
noncomputable def ObjOk (H : Hp) (h : Heap) (a : Addr) : HO → Prop
  | .lst xs => xs.length ≤ sizeLine ∧ ∃ (its : List Value) (n : Nat), Vals xs its ∧ h.get? a = some { cls := .type "list", data := .seq its.toArray n }
  | .tup xs => xs.length ≤ sizeLine ∧ ∃ its : List Value, Vals xs its ∧ IsTup h a its.toArray
  | .dK kvs => kvs.length ≤ sizeLine ∧ (a == sysModules) = false ∧ ∃ vs, KV kvs vs ∧ h.DictOf (mixKind P w) a vs
  | .dT kvs => kvs.length ≤ sizeLine ∧ (a == sysModules) = false ∧ ∃ xs : List (List Key × Addr × Value),
      Paired (fun (p : List Key × V) (q : List Key × Addr × Value) => p.1 = q.1 ∧ H q.2.1 = some (.tup (p.1.map kV)) ∧ RelV p.2 q.2.2) kvs xs ∧
      ∃ o es ep, h.get? a = some o ∧ o.ExactDict ∧ o.data = .dict es ep ∧ es.toList = xs.map (entryOfKey (tupleKind (mixKind P w))) ∧ (xs.map (·.1)).Nodup
  | .set S n => h.SetOf (intKind P w) a S n
  | .ins C dx fs => H dx = some (.own a) ∧ fs.length ≤ 1000 ∧ dx ≠ a ∧ h.get? a = some (PySem.W.instObj C dx) ∧
      ∃ mA, h.Ns1 dx mA ∧ (∀ f, RelO (fs.lookup f) (mA f)) ∧ PySem.Within mA (fs.map (·.1))
  | .own _ => ∃ o, h.get? a = some o
  | .xd fs => ∃ mA, h.Ns1 a mA ∧ ∀ f, RelO (fs.lookup f) (mA f)
  | .rng lo hi => ∃ t u v, h.get? a = some { cls := .type "range", data := .fields #[.int lo t, .int hi u, .int 1 v] }
  | .frz o u => h.get? a = some o ∧ ObjOk H h a u
  | .tbl ps => h.get? a = some { cls := .none, data := .fields ps }
  | .met f x => h.get? a = some (PySem.W.methodObj (.ref f) (.ref x))
  | .ext φ => φ h ∧ (∃ o, h.get? a = some o) ∧ ∀ h1 h2 : Heap, φ h1 → (∀ o, h1.get? a = some o → h2.get? a = some o) → φ h2
noncomputable def HOk (H : Hp) (h : Heap) : Prop := ∀ a o, H a = some o → ObjOk P w H h a o
end
section
variable {P : Program} {w : World} {H H' : Hp} {h h' : Heap} {a : Addr} {o : HO}
theorem ObjOk.lt (x : ObjOk P w H h a o) : a < h.objs.size := by
  cases o with
  | lst xs => obtain ⟨_, _, _, _, e⟩ := x; exact Heap.lt_size e
  | tup xs => obtain ⟨_, _, _, p⟩ := x; exact p.lt
  | dK kvs => obtain ⟨_, _, _, _, o, _, _, e, _⟩ := x; exact Heap.lt_size e
  | dT kvs => obtain ⟨_, _, _, _, o, _, _, e, _⟩ := x; exact Heap.lt_size e
  | set S n => obtain ⟨o, _, _, _, e, _⟩ := x; exact Heap.lt_size e
  | ins C dx fs => obtain ⟨_, _, _, e, _⟩ := x; exact Heap.lt_size e
  | own y => obtain ⟨_, e⟩ := x; exact Heap.lt_size e
  | xd fs => obtain ⟨_, ⟨_, _, _, e, _⟩, _⟩ := x; exact Heap.lt_size e
  | rng lo hi => obtain ⟨_, _, _, e⟩ := x; exact Heap.lt_size e
  | frz ob u => obtain ⟨e, _⟩ := x; exact Heap.lt_size e
  | tbl ps => exact Heap.lt_size (show h.get? a = some _ from x)
  | met f y => exact Heap.lt_size (show h.get? a = some _ from x)
  | ext φ => obtain ⟨_, ⟨_, e⟩, _⟩ := x; exact Heap.lt_size e
theorem Paired.mapP {α β : Type} {F G : α → β → Prop} : ∀ {l₁ : List α} {l₂ : List β}, Paired F l₁ l₂ → (∀ a b, F a b → G a b) → Paired G l₁ l₂
  | _, _, .nil, _ => .nil
  | _, _, .cons r t, f => .cons (f _ _ r) (Paired.mapP t f)
theorem ObjOk.stay (x : ObjOk P w H h a o) (k : ∀ b u, (b = a ∨ H b = some (.own a)) → h.get? b = some u → h'.get? b = some u)
    (ho : ∀ b, H b = some (.own a) → H' b = some (.own a)) (ht : ∀ b xs, H b = some (.tup xs) → H' b = some (.tup xs)) : ObjOk P w H' h' a o := by
  induction o with
  | lst xs => obtain ⟨z, its, n, r, e⟩ := x; exact ⟨z, its, n, r, k _ _ (.inl rfl) e⟩
  | tup xs => obtain ⟨z, its, r, ob, e, c⟩ := x; exact ⟨z, its, r, ob, k _ _ (.inl rfl) e, c⟩
  | dK kvs => obtain ⟨z, y, vs, r, ob, es, ep, e, c⟩ := x; exact ⟨z, y, vs, r, ob, es, ep, k _ _ (.inl rfl) e, c⟩
  | dT kvs =>
    obtain ⟨z, y, xs, r, ob, es, ep, e, c⟩ := x
    exact ⟨z, y, xs, Paired.mapP r fun p q z => ⟨z.1, ht _ _ z.2.1, z.2.2⟩, ob, es, ep, k _ _ (.inl rfl) e, c⟩
  | set S n => obtain ⟨ob, es, ep, t, e, c⟩ := x; exact ⟨ob, es, ep, t, k _ _ (.inl rfl) e, c⟩
  | ins C dx fs =>
    obtain ⟨d, z, ne, e, mA, ⟨od, es, ep, e2, c⟩, r⟩ := x
    exact ⟨ho _ d, z, ne, k _ _ (.inl rfl) e, mA, ⟨od, es, ep, k _ _ (.inr d) e2, c⟩, r⟩
  | own y => obtain ⟨ob, e⟩ := x; exact ⟨ob, k _ _ (.inl rfl) e⟩
  | xd fs => obtain ⟨mA, ⟨od, es, ep, e, c⟩, r⟩ := x; exact ⟨mA, ⟨od, es, ep, k _ _ (.inl rfl) e, c⟩, r⟩
  | rng lo hi => obtain ⟨t, u, v, e⟩ := x; exact ⟨t, u, v, k _ _ (.inl rfl) e⟩
  | frz ob u ih => obtain ⟨e, q⟩ := x; exact ⟨k _ _ (.inl rfl) e, ih q⟩
  | tbl ps =>
    have e : h.get? a = some { cls := .none, data := .fields ps } := x
    show h'.get? a = some { cls := .none, data := .fields ps }
    exact k a _ (.inl rfl) e
  | met f y =>
    have e : h.get? a = some (PySem.W.methodObj (.ref f) (.ref y)) := x
    show h'.get? a = some (PySem.W.methodObj (.ref f) (.ref y))
    exact k a _ (.inl rfl) e
  | ext φ => obtain ⟨p, ⟨o, e⟩, st⟩ := x; exact ⟨st _ _ p fun o q => k _ _ (.inl rfl) q, ⟨o, k _ _ (.inl rfl) e⟩, st⟩
theorem HOk.lt (x : HOk P w H h) (e : H a = some o) : a < h.objs.size := (x a o e).lt
theorem HOk.fresh (x : HOk P w H h) (e : h.objs.size ≤ a) : H a = none := by
  cases q : H a with
  | none => rfl
  | some u => exact absurd (Nat.lt_of_lt_of_le (x.lt q) e) (Nat.lt_irrefl _)
theorem HOk.kept (x : HOk P w H h) (k : ∀ b u, h.get? b = some u → h'.get? b = some u) : HOk P w H h' := fun a o e =>
  (x a o e).stay (fun b u _ q => k b u q) (fun _ q => q) fun _ _ q => q
theorem HOk.laid (x : HOk P w H h) (k : ∀ b u, h.get? b = some u → h'.get? b = some u) (hp : h.objs.size ≤ a) (new : ObjOk P w (upd H a o) h' a o) : HOk P w (upd H a o) h' := fun b u e => by
  have hn := x.fresh hp
  by_cases hb : b = a
  · subst hb; rw [upd_same] at e; cases e; exact new
  · rw [upd_ne hb] at e
    exact (x b u e).stay (fun c v _ q => k c v q) (fun c q => by rw [upd_ne (ne_of_none q hn)]; exact q) fun c xs q => by rw [upd_ne (ne_of_none q hn)]; exact q
end
noncomputable def Rd (H : Hp) (a : Addr) (u : HO) : Prop := H a = some u ∨ ∃ o, H a = some (.frz o u)
theorem Rd.ok {P : Program} {w : World} {H : Hp} {h : Heap} {a : Addr} {u : HO} (r : Rd H a u) (x : HOk P w H h) : ObjOk P w H h a u := by
  rcases r with r | ⟨o, r⟩
  · exact x a u r
  · obtain ⟨_, q⟩ := x a _ r
    exact q
noncomputable def Mut : Option HO → Prop
  | some (.lst _) => True
  | some (.dK _) => True
  | some (.dT _) => True
  | some (.set _ _) => True
  | some (.ins _ _ _) => True
  | some (.ext _) => True
  | _ => False
section
variable {P : Program} {w : World} {H : Hp} {h h' : Heap} {x e : Addr} {o' : HO}
theorem HOk.write (ok : HOk P w H h) (mu : Mut (H x)) (he : e = x ∨ H e = some (.own x)) (k : ∀ b u, b ≠ e → h.get? b = some u → h'.get? b = some u) (heo : ∃ u, h'.get? e = some u)
    (new : ObjOk P w (upd H x o') h' x o') : HOk P w (upd H x o') h' := fun b u q => by
  have nown : ∀ c y, H c = some (.own y) → c ≠ x := fun c y r z => by subst z; rw [r] at mu; exact mu
  have ntup : ∀ c xs, H c = some (.tup xs) → c ≠ x := fun c xs r z => by subst z; rw [r] at mu; exact mu
  by_cases hb : b = x
  · subst hb; rw [upd_same] at q; cases q; exact new
  · rw [upd_ne hb] at q
    by_cases hbe : b = e
    · have q' : H b = some (.own x) := by
        rcases he with z | z
        · exact absurd (hbe.trans z) hb
        · rw [hbe]; exact z
      rw [q] at q'; cases q'
      obtain ⟨v, hv⟩ := heo
      exact ⟨v, by rw [hbe]; exact hv⟩
    · refine (ok b u q).stay (fun c v hc r => k c v ?_ r) (fun c r => by rw [upd_ne (nown c b r)]; exact r) fun c xs r => by rw [upd_ne (ntup c xs r)]; exact r
      rcases hc with rfl | hc
      · exact hbe
      · rintro rfl
        rcases he with z | z
        · exact nown c b hc z
        · rw [hc] at z; cases z; exact hb rfl
end
structure Un (fs ex : List Addr) (H H' : Hp) (h h' : Heap) : Prop where
  keep : ∀ b o, h.get? b = some o → H b = none → b ∉ fs → b ∉ ex → h'.get? b = some o
  slot : ∀ b o, h.get? b = some o → H b = none → b ∈ fs → b ∉ ex → ∃ sl, h'.get? b = some { o with slots := sl }
  free : ∀ b o, h.get? b = some o → H b = none → b ∉ ex → H' b = none
  there : ∀ b o, h.get? b = some o → b ∉ ex → ∃ o', h'.get? b = some o'
  tups : ∀ b xs, H b = some (.tup xs) → H' b = some (.tup xs)
  frzs : ∀ b o u, H b = some (.frz o u) → H' b = some (.frz o u)
  tbls : ∀ b ps, H b = some (.tbl ps) → ∃ more, H' b = some (.tbl (ps ++ more))
section
variable {fs fs' ex ex' : List Addr} {H H1 H2 : Hp} {h h1 h2 h' : Heap} {a x e : Addr} {o : HO}
theorem Un.any (u : Un fs ex H H1 h h1) {b : Addr} {ob : Obj} (q : h.get? b = some ob) (n : H b = none) (hx : b ∉ ex) : ∃ sl, h1.get? b = some { ob with slots := sl } := by
  by_cases hb : b ∈ fs
  · exact u.slot b ob q n hb hx
  · exact ⟨ob.slots, u.keep b ob q n hb hx⟩
theorem Un.kept (k : ∀ b u, h.get? b = some u → h'.get? b = some u) : Un fs ex H H h h' :=
  ⟨fun b ob q _ _ _ => k b ob q, fun b ob q _ _ _ => ⟨ob.slots, k b ob q⟩, fun _ _ _ n _ => n, fun b ob q _ => ⟨ob, k b ob q⟩, fun _ _ q => q, fun _ _ _ q => q, fun _ ps q => ⟨#[], by rw [q]; simp⟩⟩
theorem Un.refl : Un fs ex H H h h := Un.kept fun _ _ q => q
theorem Un.laid (k : ∀ b u, h.get? b = some u → h'.get? b = some u) (hp : h.objs.size ≤ a) (hn : H a = none) : Un fs ex H (upd H a o) h h' where
  keep := fun b u q _ _ _ => k b u q
  slot := fun b u q _ _ _ => ⟨u.slots, k b u q⟩
  free := fun b u q n _ => by rw [upd_ne (Nat.ne_of_lt (Nat.lt_of_lt_of_le (Heap.lt_size q) hp))]; exact n
  there := fun b u q _ => ⟨u, k b u q⟩
  tups := fun b xs q => by rw [upd_ne (ne_of_none q hn)]; exact q
  frzs := fun b u xs q => by rw [upd_ne (ne_of_none q hn)]; exact q
  tbls := fun b ps q => ⟨#[], by rw [upd_ne (ne_of_none q hn), q]; simp⟩
theorem Un.write (mu : Mut (H x)) (he : e = x ∨ H e = some (.own x)) (k : ∀ b u, b ≠ e → h.get? b = some u → h'.get? b = some u) (heo : ∃ u, h'.get? e = some u) : Un fs ex H (upd H x o) h h' := by
  have hx : ∀ b, H b = none → b ≠ x := fun b n z => by subst z; rw [n] at mu; exact mu
  have hb : ∀ b, H b = none → b ≠ e := fun b n z => by
    subst z
    rcases he with r | r
    · exact hx b n r
    · rw [n] at r; cases r
  have hm : ∀ b u, H b = some u → ¬ Mut (some u) → b ≠ x := fun b u q nm z => by subst z; rw [q] at mu; exact nm mu
  refine ⟨fun b u q n _ _ => k b u (hb b n) q, fun b u q n _ _ => ⟨u.slots, k b u (hb b n) q⟩, fun b u q n _ => by rw [upd_ne (hx b n)]; exact n, fun b u q _ => ?_,
    fun b xs q => by rw [upd_ne (hm b _ q fun z => z)]; exact q, fun b u xs q => by rw [upd_ne (hm b _ q fun z => z)]; exact q, fun b ps q => ⟨#[], by rw [upd_ne (hm b _ q fun z => z), q]; simp⟩⟩
  by_cases hbe : b = e
  · subst hbe; exact heo
  · exact ⟨u, k b u hbe q⟩
end
noncomputable def trk (h : Heap) (H : Hp) : List Addr := (List.range h.objs.size).filter fun a => (H a).isSome
noncomputable def hidT (h : Heap) (H : Hp) : Heap := PySem.W.hideAll h (trk h H)
theorem hidT_size (h : Heap) (H : Hp) : (hidT h H).objs.size = h.objs.size := PySem.W.hideAll_size _ _
theorem hidT_get {h : Heap} {H : Hp} {b : Addr} {o : Obj} (e : h.get? b = some o) (n : H b = none) : (hidT h H).get? b = some o :=
  PySem.W.hideAll_get _ e fun hm => by
    have q : (H b).isSome = true := (List.mem_filter.mp hm).2
    rw [n] at q; simp at q
theorem of_hidT {h : Heap} {H : Hp} {b : Addr} {o : Obj} (e : (hidT h H).get? b = some o) : h.get? b = some o ∧ H b = none := by
  have e' : h.get? b = some o := PySem.W.of_hideAll (trk h H) e
  refine ⟨e', ?_⟩
  cases q : H b with
  | none => rfl
  | some x =>
    have hm : b ∈ trk h H := List.mem_filter.mpr ⟨List.mem_range.mpr (Heap.lt_size e'), by simp [q]⟩
    have z : (hidT h H).get? b = none := PySem.W.hideAll_none (trk h H) hm
    rw [z] at e; cases e
noncomputable def allNews (g h : Heap) (L : Addr) : List (Addr × Obj) := (List.range h.objs.size).filterMap fun a => if a = L ∨ (g.get? a).isSome = true then none else (h.get? a).map fun o => (a, o)
noncomputable def rest (g h : Heap) (L d : Addr) : List (Addr × Obj) := (allNews g h L).filter fun p => decide (p.1 ≠ d)
end L2
namespace L2
open PySem PySem.Spec PyProof.Rows
structure Mod (K : PySem.W.Frag) (mg : Str → Option Value) (base : Heap) : Prop where
  kin : K.In base
  glob : base.Ns mainGlobals mg
  blt : ∃ mb, base.Ns builtinsNs mb ∧ ∀ x : Str, x ≠ "__name__" → mb x = bootBuiltins x
  nolimit : base.NoLimit
structure Cx where
  prog : Program
  w : World
  K : PySem.W.Frag
  mg : Str → Option Value
  base : Heap
  A : Around
  N : List Str
  s₀ : Shared
  H₀ : Hp
  env : Env
  outer : List Env
  stack : List Env
  ex : List Addr
  fn : Str → Bool
  calm : Bool
  pn : List (Addr × Obj)
  xe : Value → Shared → Prop
noncomputable def frs (l : List Env) : List Addr := l.filterMap (·.frame)
noncomputable abbrev Cx.fs (X : Cx) : List Addr := frs X.outer
noncomputable def Vis (sc : Scope) (x : Str) : Prop := sc.names.lookup x = some .local ∨ sc.names.lookup x = some .cell ∨ sc.names.lookup x = some .free
noncomputable def Loc (sc : Scope) (x : Str) : Prop := sc.names.lookup x = some .local ∨ sc.names.lookup x = some .cell
noncomputable def Look (env : Env) (h : Heap) (m : Str → Option Value) (x : Str) (u : Value) : Prop :=
  (env.kindOf x = some .local ∧ m x = some u) ∨ ((env.kindOf x = some .cell ∨ env.kindOf x = some .free) ∧ ∃ c, env.cells.lookup x = some c ∧ h.IsCell c (some u))
structure Cx.Ok (X : Cx) : Prop where
  mod : Mod X.K X.mg X.base
  kind : X.env.scope.kind = .function
  glob : X.env.globals = mainGlobals
  blt : X.env.builtins = builtinsNs
  above : X.s₀.heap.objs.size ≤ X.env.locals
  inj : ∀ x y c, X.env.cells.lookup x = some c → X.env.cells.lookup y = some c → x = y
  has : ∀ x, (X.env.kindOf x = some .cell ∨ X.env.kindOf x = some .free) → ∃ c, X.env.cells.lookup x = some c
  cab : ∀ x c, X.fn x = true → X.env.cells.lookup x = some c → X.s₀.heap.objs.size ≤ c
  hd : X.calm = true → X.A.handled = none
  frames : X.A.frames = some X.stack
  stk : X.stack = X.outer ∨ (X.stack = X.env :: X.outer ∧ X.env.frame = some X.env.locals)
  exf : ∀ b ∈ X.ex, b ≠ X.env.locals ∧ ∀ x c, X.env.cells.lookup x = some c → c ≠ b
  bs : ∀ b o, X.base.get? b = some o → X.s₀.heap.get? b = some o ∧ X.H₀ b = none
  bsz : X.base.objs.size ≤ X.s₀.heap.objs.size
  noex : ∀ b o, X.base.get? b = some o → b ∉ X.ex
  exfs : ∀ b ∈ X.ex, b ∉ X.fs
  funs : X.s₀.heap.FunFrames X.base X.outer
  frf : ∀ b ∈ X.fs, X.H₀ b = none
structure Inv (X : Cx) (pins : List (Addr × Obj)) (σ : List (Option V)) (H : Hp) (s : Shared) : Prop where
  ok : X.Ok
  os : s.os = X.s₀.os
  bare : AllBare s.gens
  base : Un X.fs X.ex X.H₀ H X.s₀.heap s.heap
  loc : ∃ m, s.heap.Ns X.env.locals m ∧ ∀ (i : Nat) (x : Str) (v : V), X.N[i]? = some x → σ[i]? = some (some v) → Vis X.env.scope x → ∃ u, RelV v u ∧ Look X.env s.heap m x u
  cell : ∀ x c, X.env.cells.lookup x = some c → ∃ v, s.heap.IsCell c v
  free : H X.env.locals = none
  freeC : ∀ x c, X.env.cells.lookup x = some c → H c = none
  pin : ∀ p ∈ X.pn ++ pins, s.heap.get? p.1 = some p.2 ∧ H p.1 = none ∧ p.1 ≠ X.env.locals ∧ p.1 ∉ X.fs ∧ ∀ v, p.2.data ≠ .cell v
  hok : HOk X.prog X.w H s.heap
  len : σ.length = X.N.length
section
variable {X : Cx} {pins : List (Addr × Obj)} {σ : List (Option V)} {H H' : Hp} {s : Shared} {h' : Heap}
theorem Cx.Ok.nofr (ok : X.Ok) {b : Addr} {o : Obj} (e : X.base.get? b = some o) : b ∉ X.fs := fun hb => by
  have := (ok.funs.mem hb).1
  rw [e] at this; cases this
theorem Inv.bs (I : Inv X pins σ H s) : ∀ b o, X.base.get? b = some o → s.heap.get? b = some o ∧ H b = none := fun b o e =>
  ⟨I.base.keep b o (I.ok.bs b o e).1 (I.ok.bs b o e).2 (I.ok.nofr e) (I.ok.noex b o e), I.base.free b o (I.ok.bs b o e).1 (I.ok.bs b o e).2 (I.ok.noex b o e)⟩
theorem Inv.bk (I : Inv X pins σ H s) : ∀ b o, X.base.get? b = some o → s.heap.get? b = some o := fun b o e => (I.bs b o e).1
theorem Inv.mod (I : Inv X pins σ H s) : Mod X.K X.mg X.base := I.ok.mod
theorem Inv.kIn (I : Inv X pins σ H s) : X.K.In s.heap := I.ok.mod.kin.keeps I.bk
theorem Inv.lt (I : Inv X pins σ H s) : X.env.locals < s.heap.objs.size := let ⟨_, hn, _⟩ := I.loc; hn.lt
theorem Inv.sz (I : Inv X pins σ H s) : X.s₀.heap.objs.size ≤ s.heap.objs.size := Nat.le_trans I.ok.above (Nat.le_of_lt I.lt)
theorem Inv.nofs (I : Inv X pins σ H s) {a : Addr} (h : s.heap.objs.size ≤ a) : a ∉ X.fs := fun hb => by
  obtain ⟨_, o, ho, _⟩ := I.ok.funs.mem hb
  exact absurd (Nat.lt_of_lt_of_le (Heap.lt_size ho) (Nat.le_trans I.sz h)) (Nat.lt_irrefl _)
theorem Inv.cne (I : Inv X pins σ H s) : ∀ x c, X.env.cells.lookup x = some c → c ≠ X.env.locals := fun x c e z => by
  obtain ⟨v, o, ho, hd⟩ := I.cell x c e
  obtain ⟨m, ⟨o', es, ep, ho', hd', _⟩, _⟩ := I.loc
  rw [z, ho'] at ho; cases ho; rw [hd'] at hd; cases hd
theorem Inv.funs (I : Inv X pins σ H s) : s.heap.FunFrames X.base X.outer := by
  have all : ∀ (l : List Env), (∀ b ∈ frs l, b ∈ X.fs) → X.s₀.heap.FunFrames X.base l → s.heap.FunFrames X.base l := by
    intro l
    induction l with
    | nil => intro _ _; trivial
    | cons env r ih =>
      intro hs hl
      obtain ⟨hk, ⟨L, o, hf, hn, ho, hd⟩, hr⟩ := hl
      have hL : L ∈ X.fs := hs L (by unfold frs; rw [List.filterMap_cons, hf]; exact List.mem_cons_self)
      obtain ⟨sl, e⟩ := I.base.slot L o ho (I.ok.frf L hL) hL fun z => I.ok.exfs L z hL
      exact ⟨hk, ⟨L, _, hf, hn, e, hd⟩, ih (fun b hb => hs b (by unfold frs; rw [List.filterMap_cons, hf]; exact List.mem_cons_of_mem _ hb)) hr⟩
  exact all X.outer (fun _ hb => hb) I.ok.funs
theorem Inv.stack (I : Inv X pins σ H s) : s.heap.FunFrames X.base X.stack := by
  rcases I.ok.stk with e | ⟨e, hf⟩
  · rw [e]; exact I.funs
  · rw [e]
    obtain ⟨m, hn, _⟩ := I.loc
    refine .cons (by rw [I.ok.kind]; decide) hf hn ?_ I.funs
    exact Heap.get?_none_of_le (Nat.le_trans I.ok.bsz I.ok.above)
theorem Inv.stkSub (I : Inv X pins σ H s) : ∀ b ∈ frs X.stack, b ∈ X.env.locals :: X.fs := fun b hb => by
  rcases I.ok.stk with e | ⟨e, hf⟩
  · rw [e] at hb; exact List.mem_cons_of_mem _ hb
  · rw [e] at hb
    unfold frs at hb
    rw [List.filterMap_cons, hf] at hb
    exact hb
theorem Inv.stkFree (I : Inv X pins σ H s) : ∀ b ∈ frs X.stack, H b = none := fun b hb => by
  rcases List.mem_cons.mp (I.stkSub b hb) with e | hb
  · rw [e]; exact I.free
  · obtain ⟨_, o, ho, _⟩ := I.ok.funs.mem hb
    exact I.base.free b o ho (I.ok.frf b hb) fun z => I.ok.exfs b z hb
theorem Inv.step {g' : Array GenState} {t' : Nat} {d' : Drawn} {ch : List Addr} (I : Inv X pins σ H s)
    (hch : ∀ b ∈ ch, (b ∈ X.ex ∨ X.s₀.heap.objs.size ≤ b) ∧ b ≠ X.env.locals ∧ (∀ x c, X.env.cells.lookup x = some c → c ≠ b) ∧ ∀ p ∈ X.pn ++ pins, p.1 ≠ b)
    (keep : ∀ b o, b ≠ X.env.locals → b ∉ X.fs → b ∉ ch → s.heap.get? b = some o → H b = none → h'.get? b = some o)
    (slot : ∀ b o, b ≠ X.env.locals → b ∈ X.fs → b ∉ ch → s.heap.get? b = some o → H b = none → ∃ sl, h'.get? b = some { o with slots := sl }) (free : ∀ b o, b ∉ ch → s.heap.get? b = some o → H b = none → H' b = none)
    (there : ∀ b o, b ∉ ch → s.heap.get? b = some o → ∃ o', h'.get? b = some o')
    (tups : ∀ b xs, H b = some (.tup xs) → H' b = some (.tup xs)) (frzs : ∀ b o u, H b = some (.frz o u) → H' b = some (.frz o u)) (tbls : ∀ b ps, H b = some (.tbl ps) → ∃ more, H' b = some (.tbl (ps ++ more)))
    (ns : ∀ m, s.heap.Ns X.env.locals m → h'.Ns X.env.locals m) (hok : HOk X.prog X.w H' h') (hg : AllBare g') :
    Inv X pins σ H' { s with heap := h', gens := g', drawn := d', toks := t' } := by
  have neL : ∀ b o, X.s₀.heap.get? b = some o → b ≠ X.env.locals := fun b o e => Nat.ne_of_lt (Nat.lt_of_lt_of_le (Heap.lt_size e) I.ok.above)
  have neC : ∀ b o, X.s₀.heap.get? b = some o → b ∉ X.ex → b ∉ ch := fun b o e hx hb => by
    rcases (hch b hb).1 with z | z
    · exact hx z
    · exact absurd (Nat.lt_of_lt_of_le (Heap.lt_size e) z) (Nat.lt_irrefl _)
  have cellK : ∀ x c, X.env.cells.lookup x = some c → ∀ v, s.heap.IsCell c v → h'.IsCell c v := fun x c e v ⟨o, ho, hd⟩ => by
    have nch : c ∉ ch := fun z => (hch c z).2.2.1 x c e rfl
    by_cases hc : c ∈ X.fs
    · obtain ⟨sl, q⟩ := slot c o (I.cne x c e) hc nch ho (I.freeC x c e)
      exact ⟨_, q, hd⟩
    · exact ⟨o, keep c o (I.cne x c e) hc nch ho (I.freeC x c e), hd⟩
  refine ⟨I.ok, I.os, hg, ⟨fun b o e n hb hx => ?_, fun b o e n hb hx => ?_, fun b o e n hx => ?_, fun b o e hx => ?_, fun b xs e => tups b xs (I.base.tups b xs e), fun b o xs e => frzs b o xs (I.base.frzs b o xs e), fun b ps e => ?_⟩, ?_, fun x c e => ?_, ?_, fun x c e => ?_, fun p hp => ?_, hok, I.len⟩
  · exact keep b o (neL b o e) hb (neC b o e hx) (I.base.keep b o e n hb hx) (I.base.free b o e n hx)
  · obtain ⟨sl, e1⟩ := I.base.slot b o e n hb hx
    obtain ⟨sl', e2⟩ := slot b _ (neL b o e) hb (neC b o e hx) e1 (I.base.free b o e n hx)
    exact ⟨sl', e2⟩
  · obtain ⟨o', e1⟩ := I.base.there b o e hx
    exact free b o' (neC b o e hx) e1 (I.base.free b o e n hx)
  · obtain ⟨o', e1⟩ := I.base.there b o e hx
    exact there b o' (neC b o e hx) e1
  · obtain ⟨m1, e1⟩ := I.base.tbls b ps e
    obtain ⟨m2, e2⟩ := tbls b _ e1
    exact ⟨m1 ++ m2, by rw [e2, Array.append_assoc]⟩
  · obtain ⟨m, hn, hl⟩ := I.loc
    refine ⟨m, ns m hn, fun i x v e1 e2 e3 => ?_⟩
    obtain ⟨u, r, l⟩ := hl i x v e1 e2 e3
    refine ⟨u, r, ?_⟩
    rcases l with l | ⟨k, c, e, z⟩
    · exact .inl l
    · exact .inr ⟨k, c, e, cellK x c e _ z⟩
  · obtain ⟨v, z⟩ := I.cell x c e
    exact ⟨v, cellK x c e v z⟩
  · obtain ⟨m, ⟨o, _, _, ho, _⟩, _⟩ := I.loc
    exact free _ o (fun z => (hch _ z).2.1 rfl) ho I.free
  · obtain ⟨v, o, ho, hd⟩ := I.cell x c e
    exact free c o (fun z => (hch c z).2.2.1 x c e rfl) ho (I.freeC x c e)
  · obtain ⟨e, n, ne, nf, d⟩ := I.pin p hp
    have nch : p.1 ∉ ch := fun z => (hch p.1 z).2.2.2 p hp rfl
    exact ⟨keep p.1 p.2 ne nf nch e n, free p.1 p.2 nch e n, ne, nf, d⟩
theorem Inv.un {t' : Nat} (I : Inv X pins σ H s) (u : Un X.fs [] H H' s.heap h') (hok : HOk X.prog X.w H' h') : Inv X pins σ H' { s with heap := h', toks := t' } := by
  obtain ⟨m, ⟨o, es, ep, ho, r⟩, _⟩ := id I.loc
  obtain ⟨sl, hL⟩ := u.any ho I.free (by simp)
  exact I.step (g' := s.gens) (d' := s.drawn) (ch := []) (fun _ z => nomatch z) (fun b o _ hb _ e n => u.keep b o e n hb (by simp)) (fun b o _ hb _ e n => u.slot b o e n hb (by simp)) (fun b o _ e n => u.free b o e n (by simp)) (fun b o _ e => u.there b o e (by simp)) u.tups u.frzs u.tbls (fun m' hm => by
    obtain ⟨o', es', ep', ho', r'⟩ := hm
    rw [ho] at ho'; cases ho'
    exact ⟨_, es', ep', hL, r'⟩) hok I.bare
theorem Inv.call {g' : Array GenState} {t' : Nat} {d' : Drawn} {ch : List Addr} (I : Inv X pins σ H s) (u : Un (frs X.stack) ch H H' s.heap h') (hok : HOk X.prog X.w H' h') (hg : AllBare g')
    (hch : ∀ b ∈ ch, (b ∈ X.ex ∨ X.s₀.heap.objs.size ≤ b) ∧ b ≠ X.env.locals ∧ (∀ x c, X.env.cells.lookup x = some c → c ≠ b) ∧ ∀ p ∈ X.pn ++ pins, p.1 ≠ b) :
    Inv X pins σ H' { s with heap := h', gens := g', drawn := d', toks := t' } := by
  obtain ⟨m, ⟨o, es, ep, ho, r⟩, _⟩ := id I.loc
  obtain ⟨sl, hL⟩ := u.any ho I.free fun z => (hch _ z).2.1 rfl
  exact I.step (ch := ch) hch (fun b o hL hb hc e n => u.keep b o e n (fun z => (List.mem_cons.mp (I.stkSub b z)).elim hL hb) hc) (fun b o _ _ hc e n => u.any e n hc) (fun b o hc e n => u.free b o e n hc) (fun b o hc e => u.there b o e hc) u.tups u.frzs u.tbls (fun m' hm => by
    obtain ⟨o', es', ep', ho', r'⟩ := hm
    rw [ho] at ho'; cases ho'
    exact ⟨_, es', ep', hL, r'⟩) hok hg
theorem Inv.turned {t' : Nat} {it : Addr} (I : Inv X pins σ H s) (k : ∀ b o, b ≠ it → s.heap.get? b = some o → h'.get? b = some o) (hn : H it = none) (hL : it ≠ X.env.locals)
    (h1 : it ∈ X.ex ∨ X.s₀.heap.objs.size ≤ it) (h2 : ∀ x c, X.env.cells.lookup x = some c → c ≠ it) (h3 : ∀ p ∈ X.pn ++ pins, p.1 ≠ it) : Inv X pins σ H { s with heap := h', toks := t' } := by
  have nit : ∀ b u, H b = some u → b ≠ it := fun b u e z => by rw [z, hn] at e; cases e
  refine I.step (g' := s.gens) (d' := s.drawn) (ch := [it]) (fun b hb => ?_) (fun b o _ _ hc e _ => k b o (fun z => hc (by simp [z])) e) (fun b o _ _ hc e _ => ⟨o.slots, k b o (fun z => hc (by simp [z])) e⟩) (fun _ _ _ _ n => n)
    (fun b o hc e => ⟨o, k b o (fun z => hc (by simp [z])) e⟩) (fun _ _ e => e) (fun _ _ _ e => e) (fun b ps e => ⟨#[], by rw [e]; simp⟩) (fun m hm => ?_) (fun b u e => ?_) I.bare
  · have e : b = it := by simpa using hb
    subst e
    exact ⟨h1, hL, h2, h3⟩
  · obtain ⟨o, es, ep, ho, r⟩ := hm
    exact ⟨o, es, ep, k _ o (Ne.symm hL) ho, r⟩
  · refine (I.hok b u e).stay (fun c v hc q => k c v ?_ q) (fun _ q => q) fun _ _ q => q
    rcases hc with z | z
    · rw [z]; exact nit b u e
    · exact nit c _ z
theorem Inv.tok (I : Inv X pins σ H s) (t : Nat) : Inv X pins σ H { s with toks := t } := I.un (h' := s.heap) (t' := t) Un.refl I.hok
theorem Inv.kept {t' : Nat} (I : Inv X pins σ H s) (k : ∀ b u, s.heap.get? b = some u → h'.get? b = some u) : Inv X pins σ H { s with heap := h', toks := t' } := I.un (Un.kept k) (I.hok.kept k)
theorem Inv.laid {a : Addr} {o : HO} {t' : Nat} (I : Inv X pins σ H s) (k : ∀ b u, s.heap.get? b = some u → h'.get? b = some u) (hp : s.heap.objs.size ≤ a) (new : ObjOk X.prog X.w (upd H a o) h' a o) :
    Inv X pins σ (upd H a o) { s with heap := h', toks := t' } := I.un (Un.laid k hp (I.hok.fresh hp)) (I.hok.laid k hp new)
theorem Inv.write {x e : Addr} {o : HO} {t' : Nat} (I : Inv X pins σ H s) (mu : Mut (H x)) (he : e = x ∨ H e = some (.own x)) (k : ∀ b u, b ≠ e → s.heap.get? b = some u → h'.get? b = some u) (heo : ∃ u, h'.get? e = some u)
    (new : ObjOk X.prog X.w (upd H x o) h' x o) : Inv X pins σ (upd H x o) { s with heap := h', toks := t' } := I.un (Un.write mu he k heo) (I.hok.write mu he k heo new)
theorem Inv.pins_of {pins' : List (Addr × Obj)} (I : Inv X pins σ H s) (h : ∀ p ∈ pins', s.heap.get? p.1 = some p.2 ∧ H p.1 = none ∧ p.1 ≠ X.env.locals ∧ p.1 ∉ X.fs ∧ ∀ v, p.2.data ≠ .cell v) : Inv X pins' σ H s :=
  ⟨I.ok, I.os, I.bare, I.base, I.loc, I.cell, I.free, I.freeC, fun p hp => (List.mem_append.mp hp).elim (fun z => I.pin p (List.mem_append_left _ z)) (h p), I.hok, I.len⟩
theorem nodup_ix {N : List Str} (hN : N.Nodup) {i j : Nat} {x : Str} (a : N[i]? = some x) (b : N[j]? = some x) : i = j := by
  obtain ⟨h1, e1⟩ := List.getElem?_eq_some_iff.mp a
  obtain ⟨h2, e2⟩ := List.getElem?_eq_some_iff.mp b
  exact (List.getElem_inj hN).mp (e1.trans e2.symm)
theorem store_ok2 {M : Model} {A : Around} {E : Value → Shared → Prop} {i : Nat} {x : Str} {v : V} {u : Value} {Q : Unit → Shared → Prop} (I : Inv X pins σ H s) (hN : X.N.Nodup) (hi : X.N[i]? = some x) (hx : Loc X.env.scope x) (r : RelV v u)
    (h : ∀ s', Inv X pins (σ.set i (some v)) H s' → (∃ a, Heap.SameBut a s.heap s'.heap ∧ (a = X.env.locals ∨ X.env.cells.lookup x = some a)) → Q () s') (hf : X.fn x = true ∨ X.env.scope.names.lookup x = some .local := by first | exact .inl rfl | exact .inr rfl | assumption) : wpAny M A (storeName X.env x u) Q E s := by
  obtain ⟨m, hn, hl⟩ := id I.loc
  have hcls : (X.env.scope.kind == .class || (X.env.scope.kind == .module && X.env.locals != X.env.globals)) = false := by rw [I.ok.kind]; rfl
  have hiσ : i < σ.length := by rw [I.len]; exact (List.getElem?_eq_some_iff.mp hi).1
  have cne := I.cne
  have tracked : ∀ {a : Addr} {h' : Heap}, (∃ o, s.heap.get? a = some o ∧ H a = none) → Heap.SameBut a s.heap h' → HOk X.prog X.w H h' := fun {a h'} ha hs b ob e => by
    obtain ⟨_, _, hfree⟩ := ha
    refine (I.hok b ob e).stay (fun c w' hc q => (hs.2 c ?_).trans q) (fun _ q => q) fun _ _ q => q
    rintro rfl
    rcases hc with rfl | hc
    · rw [hfree] at e; cases e
    · rw [hfree] at hc; cases hc
  rcases hx with hk | hk
  · refine wpAny_storeName_local hk hn (fun h' hn' hs => ?_) hcls
    obtain ⟨oL, _, _, hoL, _⟩ := id hn
    refine h _ ⟨I.ok, I.os, I.bare, ⟨fun b o e n hb hx => ?_, fun b o e n hb hx => ?_, I.base.free, fun b o e hx => ?_, I.base.tups, I.base.frzs, I.base.tbls⟩, ⟨_, hn', fun j y v' e1 e2 e3 => ?_⟩, fun y c e => ?_, I.free, I.freeC, fun p hp => ?_, tracked ⟨oL, hoL, I.free⟩ hs, by simpa using I.len⟩ ⟨_, hs, .inl rfl⟩
    · exact (hs.2 b (Nat.ne_of_lt (Nat.lt_of_lt_of_le (Heap.lt_size e) I.ok.above))).trans (I.base.keep b o e n hb hx)
    · obtain ⟨sl, e1⟩ := I.base.slot b o e n hb hx
      exact ⟨sl, (hs.2 b (Nat.ne_of_lt (Nat.lt_of_lt_of_le (Heap.lt_size e) I.ok.above))).trans e1⟩
    · obtain ⟨o', e1⟩ := I.base.there b o e hx
      exact ⟨o', (hs.2 b (Nat.ne_of_lt (Nat.lt_of_lt_of_le (Heap.lt_size e) I.ok.above))).trans e1⟩
    · by_cases hj : j = i
      · subst hj
        rw [hi] at e1; cases e1
        rw [List.getElem?_set_self hiσ] at e2
        cases e2
        exact ⟨u, r, .inl ⟨hk, by simp⟩⟩
      · rw [List.getElem?_set_ne (Ne.symm hj)] at e2
        obtain ⟨u', r', q⟩ := hl j y v' e1 e2 e3
        refine ⟨u', r', ?_⟩
        rcases q with ⟨k, e⟩ | ⟨k, c, e, z⟩
        · refine .inl ⟨k, ?_⟩
          have : y ≠ x := fun e => hj (nodup_ix hN e1 (e ▸ hi))
          simp [this, e]
        · exact .inr ⟨k, c, e, z.sameBut hs (cne y c e)⟩
    · obtain ⟨w', z⟩ := I.cell y c e
      exact ⟨w', z.sameBut hs (cne y c e)⟩
    · obtain ⟨e, n, ne, nf, d⟩ := I.pin p hp
      exact ⟨(hs.2 p.1 ne).trans e, n, ne, nf, d⟩
  · have hfn : X.fn x = true := by
      rcases hf with z | z
      · exact z
      · rw [z] at hk; cases hk
    obtain ⟨c, hc⟩ := I.ok.has x (.inl hk)
    obtain ⟨w', z⟩ := I.cell x c hc
    refine wpAny_storeName_cell I.ok.kind hk hc z (fun h' hc' hs => ?_)
    obtain ⟨oc, hoc, hocd⟩ := id z
    refine h { s with heap := h' } ⟨I.ok, I.os, I.bare, ⟨fun b o e n hb hx => ?_, fun b o e n hb hx => ?_, I.base.free, fun b o e hx => ?_, I.base.tups, I.base.frzs, I.base.tbls⟩, ⟨m, hn.sameBut hs (Ne.symm (cne x c hc)), fun j y v' e1 e2 e3 => ?_⟩, fun y c' e => ?_, I.free, I.freeC, fun p hp => ?_, tracked ⟨oc, hoc, I.freeC x c hc⟩ hs, by simpa using I.len⟩ ⟨c, hs, .inr hc⟩
    · exact (hs.2 b (Nat.ne_of_lt (Nat.lt_of_lt_of_le (Heap.lt_size e) (I.ok.cab x c hfn hc)))).trans (I.base.keep b o e n hb hx)
    · obtain ⟨sl, e1⟩ := I.base.slot b o e n hb hx
      exact ⟨sl, (hs.2 b (Nat.ne_of_lt (Nat.lt_of_lt_of_le (Heap.lt_size e) (I.ok.cab x c hfn hc)))).trans e1⟩
    · obtain ⟨o', e1⟩ := I.base.there b o e hx
      exact ⟨o', (hs.2 b (Nat.ne_of_lt (Nat.lt_of_lt_of_le (Heap.lt_size e) (I.ok.cab x c hfn hc)))).trans e1⟩
    · by_cases hj : j = i
      · subst hj
        rw [hi] at e1; cases e1
        rw [List.getElem?_set_self hiσ] at e2
        cases e2
        exact ⟨u, r, .inr ⟨.inl hk, c, hc, hc'⟩⟩
      · rw [List.getElem?_set_ne (Ne.symm hj)] at e2
        obtain ⟨u', r', q⟩ := hl j y v' e1 e2 e3
        refine ⟨u', r', ?_⟩
        rcases q with q | ⟨k, c', e, z'⟩
        · exact .inl q
        · refine .inr ⟨k, c', e, z'.sameBut hs ?_⟩
          rintro rfl
          exact hj (nodup_ix hN e1 (I.ok.inj _ _ _ e hc ▸ hi))
    · by_cases hcc : c' = c
      · subst hcc; exact ⟨_, hc'⟩
      · obtain ⟨w2, z2⟩ := I.cell y c' e
        exact ⟨w2, z2.sameBut hs hcc⟩
    · obtain ⟨e, n, ne, nf, d⟩ := I.pin p hp
      refine ⟨(hs.2 p.1 ?_).trans e, n, ne, nf, d⟩
      intro q
      rw [q, hoc] at e
      have q' : oc = p.2 := Option.some.inj e
      exact d w' (by rw [← q']; exact hocd)
theorem store_ok {M : Model} {A : Around} {E : Value → Shared → Prop} {i : Nat} {x : Str} {v : V} {u : Value} {Q : Unit → Shared → Prop} (I : Inv X pins σ H s) (hN : X.N.Nodup) (hi : X.N[i]? = some x) (hx : Loc X.env.scope x) (r : RelV v u)
    (h : ∀ s', Inv X pins (σ.set i (some v)) H s' → Q () s') (hf : X.fn x = true ∨ X.env.scope.names.lookup x = some .local := by first | exact .inl rfl | exact .inr rfl | assumption) : wpAny M A (storeName X.env x u) Q E s :=
  store_ok2 I hN hi hx r (fun s' I' _ => h s' I') hf
theorem Inv.call' {s' : Shared} {ch : List Addr} (I : Inv X pins σ H s) (ho : s'.os = s.os) (u : Un (frs X.stack) ch H H' s.heap s'.heap) (hok : HOk X.prog X.w H' s'.heap) (hg : AllBare s'.gens)
    (hch : ∀ b ∈ ch, (b ∈ X.ex ∨ X.s₀.heap.objs.size ≤ b) ∧ b ≠ X.env.locals ∧ (∀ x c, X.env.cells.lookup x = some c → c ≠ b) ∧ ∀ p ∈ X.pn ++ pins, p.1 ≠ b) : Inv X pins σ H' s' := by
  obtain ⟨h', g', d', t', o'⟩ := s'
  have e : o' = s.os := ho
  subst e
  exact I.call (g' := g') (t' := t') (d' := d') u hok hg hch
end
noncomputable abbrev XK := Value → Option Addr → Hp → Prop
noncomputable abbrev St := List (Option V)
noncomputable abbrev VK := V → Hp → Prop
noncomputable abbrev TE := St → Hp → VK → Prop
noncomputable abbrev TT := St → Hp → (Bool → Hp → Prop) → Prop
noncomputable abbrev TA := St → Hp → (List V → Hp → Prop) → Prop
structure Ends where
  nx : St → Hp → Prop
  rt : VK
  bk : St → Hp → Prop := fun _ _ => False
  ct : St → Hp → Prop := fun _ _ => False
noncomputable abbrev TS := Ends → St → Hp → Prop
noncomputable def EP (X : Cx) (pins : List (Addr × Obj)) (σ : St) (Q : VK) (u : Value) (s' : Shared) : Prop := ∃ v H', Inv X pins σ H' s' ∧ RelV v u ∧ Q v H'
noncomputable def TP (X : Cx) (pins : List (Addr × Obj)) (σ : St) (Q : Bool → Hp → Prop) (b : Bool) (s' : Shared) : Prop := ∃ H', Inv X pins σ H' s' ∧ Q b H'
noncomputable def AP (X : Cx) (pins : List (Addr × Obj)) (σ : St) (Q : List V → Hp → Prop) (us : List Value) (s' : Shared) : Prop := ∃ vs H', Inv X pins σ H' s' ∧ Vals vs us ∧ Q vs H'
noncomputable def SP (X : Cx) (pins : List (Addr × Obj)) (D : Ends) (f : Flow) (s' : Shared) : Prop :=
  match f with
  | .next => ∃ σ' H', Inv X pins σ' H' s' ∧ D.nx σ' H'
  | .brk => ∃ σ' H', Inv X pins σ' H' s' ∧ D.bk σ' H'
  | .cont => ∃ σ' H', Inv X pins σ' H' s' ∧ D.ct σ' H'
  | .ret u => ∃ v σ' H', Inv X pins σ' H' s' ∧ RelV v u ∧ D.rt v H'
noncomputable def PE (X : Cx) (e : Expr) (t : TE) : Prop :=
  ∀ (pins : List (Addr × Obj)) (s : Shared) (σ : St) (H : Hp) (Q : VK), Inv X pins σ H s → t σ H Q → wpAny (model X.prog X.w) X.A (eval e X.env) (EP X pins σ Q) X.xe s
noncomputable def PT (X : Cx) (e : Expr) (t : TT) : Prop :=
  ∀ (pins : List (Addr × Obj)) (s : Shared) (σ : St) (H : Hp) (Q : Bool → Hp → Prop), Inv X pins σ H s → t σ H Q → wpAny (model X.prog X.w) X.A (isTrue e X.env (eval e X.env)) (TP X pins σ Q) X.xe s
noncomputable def PW (X : Cx) (e : Expr) (t : TT) : Prop :=
  ∀ (whole : Sem Value) (pins : List (Addr × Obj)) (s : Shared) (σ : St) (H : Hp) (Q : Bool → Hp → Prop), Inv X pins σ H s → t σ H Q → wpAny (model X.prog X.w) X.A (isTrue e X.env whole) (TP X pins σ Q) X.xe s
theorem PW.pt {X : Cx} {e : Expr} {t : TT} (h : PW X e t) : PT X e t := h _
noncomputable def PA (X : Cx) (es : List Expr) (t : TA) : Prop :=
  ∀ (pos : Pos) (pins : List (Addr × Obj)) (s : Shared) (σ : St) (H : Hp) (Q : List V → Hp → Prop), Inv X pins σ H s → t σ H Q → wpAny (model X.prog X.w) X.A (spliced (backTo pos (starEach es X.env))) (AP X pins σ Q) X.xe s
noncomputable def PS (X : Cx) (st : Stmt) (t : TS) : Prop :=
  ∀ (pins : List (Addr × Obj)) (s : Shared) (σ : St) (H : Hp) (D : Ends), Inv X pins σ H s → t D σ H → wpAny (model X.prog X.w) X.A (exec st X.env) (SP X pins D) X.xe s
noncomputable def PSs (X : Cx) (st : List Stmt) (t : TS) : Prop :=
  ∀ (pins : List (Addr × Obj)) (s : Shared) (σ : St) (H : Hp) (D : Ends), Inv X pins σ H s → t D σ H → wpAny (model X.prog X.w) X.A (execs st X.env) (SP X pins D) X.xe s
theorem thn {α : Type} {t : Sem α} {Q Q' : α → Shared → Prop} {M : Model} {A : Around} {E : Value → Shared → Prop} {s : Shared} (h : wpAny M A t Q E s) (hQ : ∀ a s, Q a s → Q' a s) : wpAny M A t Q' E s := wpAny_mono h hQ fun _ _ x => x
end L2
namespace L2
open PySem PySem.Spec PyProof.Rows
section
variable {X : Cx}
theorem bin {a b : Expr} {ta tb : TE} (ha : PE X a ta) (hb : PE X b tb) {pins : List (Addr × Obj)} {s : Shared} {σ : St} {H : Hp} {R : V → V → Hp → Prop} (I : Inv X pins σ H s) (h : ta σ H fun x H1 => tb σ H1 fun y H2 => R x y H2)
    {α : Type} {Q : α → Shared → Prop} {f : Value → Value → Sem α}
    (hf : ∀ v u s2 x y H2, Inv X pins σ H2 s2 → RelV x v → RelV y u → R x y H2 → wpAny (model X.prog X.w) X.A (f v u) Q X.xe s2) :
    wpAny (model X.prog X.w) X.A (eval a X.env) (fun v s₁ => wpAny (model X.prog X.w) X.A (eval b X.env) (fun u s₂ => wpAny (model X.prog X.w) X.A (f v u) Q X.xe s₂) X.xe s₁) X.xe s := by
  refine thn (ha pins s σ H _ I h) fun v s1 ⟨x, H1, I1, r1, q1⟩ => ?_
  refine thn (hb pins s1 σ H1 _ I1 q1) fun u s2 ⟨y, H2, I2, r2, q2⟩ => ?_
  exact hf v u s2 x y H2 I2 r1 r2 q2
noncomputable def tVar (i : Nat) : TE := fun σ H Q => ∃ v, σ[i]? = some (some v) ∧ Q v H
noncomputable def tC (v : V) : TE := fun _ H Q => Q v H
theorem pe_var {i : Nat} {x : Str} {pos : Pos} (hN : X.N[i]? = some x) (hv : Vis X.env.scope x) (hd : (x == ("__debug__" : Str)) = false := by decide) (hcd : (x == ("__classdict__" : Str)) = false := by decide) : PE X (.Name x pos) (tVar i) := by
  intro pins s σ H Q I h
  obtain ⟨v, e, h⟩ := h
  obtain ⟨m, hn, hl⟩ := I.loc
  obtain ⟨u, r, l⟩ := hl i x v hN e hv
  have fin : EP X pins σ Q u s := ⟨v, H, I, r, h⟩
  rcases l with ⟨hk, hm⟩ | ⟨hk, c, hc, hcell⟩
  · exact wpAny_Name (wpAny_loadName_local I.ok.kind hk hn hm fin) hd
  · rcases hk with hk | hk
    · exact wpAny_Name (wpAny_loadName_cell I.ok.kind hk hc hcell fin) hd
    · exact wpAny_Name (wpAny_loadName_free I.ok.kind hk hc hcell fin hcd) hd
theorem pe_int {i j pos} : PE X (.Constant (.int i) j pos) (tC (.int i)) := fun _ _ _ H _ I h => wpAny_Constant_int ⟨.int i, H, I.tok _, ⟨_, rfl⟩, h⟩
theorem pe_bl {b j pos} : PE X (.Constant (.bool b) j pos) (tC (.bl b)) := fun _ _ _ H _ I h => Constant_bool ⟨.bl b, H, I, rfl, h⟩
theorem pe_non {j pos} : PE X (.Constant .none j pos) (tC .non) := fun _ _ _ H _ I h => Constant_none ⟨.non, H, I, rfl, h⟩
theorem pe_str {x j pos} : PE X (.Constant (.str x) j pos) (tC (.str x)) := fun _ _ _ H _ I h => Calls.Constant_str ⟨.str x, H, I.tok _, ⟨_, rfl⟩, h⟩
noncomputable def Gl (X : Cx) (x : Str) : Prop := X.env.kindOf x = some .globalImplicit
theorem ld_glob {E : Value → Shared → Prop} {pins : List (Addr × Obj)} {s : Shared} {σ : St} {H : Hp} {x : Str} {u : Value} {pos : Pos} {Q : Value → Shared → Prop} (I : Inv X pins σ H s) (hg : Gl X x) (hm : X.mg x = some u) (h : Q u s)
    (hd : (x == ("__debug__" : Str)) = false := by decide) : wpAny (model X.prog X.w) X.A (eval (.Name x pos) X.env) Q E s :=
  Calls.Name_function_global I.ok.kind hg (Calls.loadGlobal_global (by rw [I.ok.glob]; exact I.mod.glob.keeps I.bk) hm h) hd
theorem ld_blt {E : Value → Shared → Prop} {pins : List (Addr × Obj)} {s : Shared} {σ : St} {H : Hp} {x : Str} {u : Value} {pos : Pos} {Q : Value → Shared → Prop} (I : Inv X pins σ H s) (hg : Gl X x) (hm : X.mg x = none) (hv : bootBuiltins x = some u) (h : Q u s)
    (hn : x ≠ "__name__" := by decide) (hd : (x == ("__debug__" : Str)) = false := by decide) : wpAny (model X.prog X.w) X.A (eval (.Name x pos) X.env) Q E s := by
  obtain ⟨mb, h1, h2⟩ := I.mod.blt
  exact Calls.Name_function_global I.ok.kind hg (Calls.loadGlobal_builtin (by rw [I.ok.glob]; exact I.mod.glob.keeps I.bk) hm (by rw [I.ok.blt]; exact h1.keeps I.bk) ((h2 x hn).trans hv) h) hd
theorem pe_glob {x : Str} {v : V} {u : Value} {pos : Pos} (hg : Gl X x) (hm : X.mg x = some u) (r : RelV v u) (hd : (x == ("__debug__" : Str)) = false := by decide) : PE X (.Name x pos) (tC v) :=
  fun _ _ _ H _ I h => ld_glob I hg hm ⟨v, H, I, r, h⟩ hd
theorem pe_bltn {x : Str} {v : V} {u : Value} {pos : Pos} (hg : Gl X x) (hm : X.mg x = none) (hv : bootBuiltins x = some u) (r : RelV v u) (hn : x ≠ "__name__" := by decide) (hd : (x == ("__debug__" : Str)) = false := by decide) : PE X (.Name x pos) (tC v) :=
  fun _ _ _ H _ I h => ld_blt I hg hm hv ⟨v, H, I, r, h⟩ hn hd
variable {a b : Expr} {ta tb : TE} {pos : Pos}
noncomputable def PC (X : Cx) (op : CmpOp) (a b : Expr) (t : TE) : Prop :=
  ∀ (pins : List (Addr × Obj)) (s : Shared) (σ : St) (H : Hp) (Q : VK), Inv X pins σ H s → t σ H Q →
    wpAny (model X.prog X.w) X.A (eval a X.env) (fun v s₁ => wpAny (model X.prog X.w) X.A (eval b X.env) (fun u s₂ => wpAny (model X.prog X.w) X.A (compareOp op v u) (EP X pins σ Q) X.xe s₂) X.xe s₁) X.xe s
theorem nobehind (b : Expr) {op : CmpOp} (h : op ≠ .In) (h2 : op ≠ .NotIn) : behindInMarks op b = false := by
  have e1 : (op == CmpOp.In) = false := by cases op <;> first | rfl | exact absurd rfl h
  have e2 : (op == CmpOp.NotIn) = false := by cases op <;> first | rfl | exact absurd rfl h2
  cases b <;> simp [behindInMarks, e1, e2]
noncomputable def tIsN (ta : TE) : TE := fun σ H Q => ta σ H fun x H1 => Q (.bl (decide (x = .non))) H1
noncomputable def tNotN (ta : TE) : TE := fun σ H Q => ta σ H fun x H1 => Q (.bl (!decide (x = .non))) H1
theorem RelV.none_iff {x : V} {v : Value} (r : RelV x v) : (v == Value.none) = decide (x = .non) := by
  cases x with
  | non => cases r; rfl
  | bl _ => cases r; rfl
  | int _ => obtain ⟨t, rfl⟩ := r; rfl
  | str _ => obtain ⟨t, rfl⟩ := r; rfl
  | byt _ => obtain ⟨t, rfl⟩ := r; rfl
  | flt _ => obtain ⟨t, rfl⟩ := r; rfl
  | ref _ => cases r; rfl
  | ty _ => cases r; rfl
theorem pc_isN {j pos'} (ha : PE X a ta) : PC X .Is a (.Constant .none j pos') (tIsN ta) := by
  intro pins s σ H Q I h
  refine thn (ha pins s σ H _ I h) fun v s1 ⟨x, H1, I1, r1, q1⟩ => ?_
  exact Constant_none (is_none_gen ⟨.bl _, H1, I1, by rw [r1.none_iff]; rfl, q1⟩)
theorem pc_notN {j pos'} (ha : PE X a ta) : PC X .IsNot a (.Constant .none j pos') (tNotN ta) := by
  intro pins s σ H Q I h
  refine thn (ha pins s σ H _ I h) fun v s1 ⟨x, H1, I1, r1, q1⟩ => ?_
  exact Constant_none (isnot_none_gen ⟨.bl _, H1, I1, by rw [r1.none_iff]; rfl, q1⟩)
noncomputable def tB (t : TE) : TT := fun σ H Q => t σ H fun x H1 => ∃ c, x = .bl c ∧ Q c H1
theorem pe_cmp {op : CmpOp} {t : TE} (h : PC X op a b t) (h1 : behindInMarks op b = false := by first | exact nobehind _ (by decide) (by decide) | rfl) : PE X (.Compare a [op] [b] pos) t := fun pins s σ H Q I hw => wpAny_Compare1 (h pins s σ H Q I hw) h1
theorem pt_cmp {op : CmpOp} {t : TE} (h : PC X op a b t) (h1 : behindInMarks op b = false := by first | exact nobehind _ (by decide) (by decide) | rfl) : PT X (.Compare a [op] [b] pos) (tB t) := by
  intro pins s σ H Q I hw
  refine wpAny_isTrue_Compare1 (thn (h pins s σ H _ I hw) fun v s1 h1 => thn h1 fun u s2 h2 => thn h2 fun c s3 ⟨x, H1, I1, r1, q1⟩ => ?_) h1
  obtain ⟨d, rfl, q⟩ := q1
  cases r1
  exact wpAny_truthy_bool ⟨H1, I1, q⟩
variable {tA tB' : TT} {rest : List Expr}
noncomputable def tAnd (t u : TT) : TT := fun σ H Q => t σ H fun c H1 => if c = true then u σ H1 Q else Q false H1
noncomputable def tOr (t u : TT) : TT := fun σ H Q => t σ H fun c H1 => if c = true then Q true H1 else u σ H1 Q
noncomputable def tNot (t : TT) : TT := fun σ H Q => t σ H fun c H1 => Q (!c) H1
theorem pw_and1 (ha : PT X a tA) : PW X (.BoolOp .And [a] pos) tA := by
  intro wh pins s σ H Q I h
  refine isTrue_and (thn (ha pins s σ H Q I h) fun c s1 e => ?_)
  cases c with
  | true => exact isTrue_and_nil e
  | false => exact e
theorem pw_or1 (ha : PT X a tA) : PW X (.BoolOp .Or [a] pos) tA := by
  intro wh pins s σ H Q I h
  refine isTrue_or (thn (ha pins s σ H Q I h) fun c s1 e => ?_)
  cases c with
  | false => exact isTrue_or_nil e
  | true => exact e
theorem pw_and (ha : PT X a tA) (hb : PW X (.BoolOp .And (b :: rest) pos) tB') : PW X (.BoolOp .And (a :: b :: rest) pos) (tAnd tA tB') := by
  intro wh pins s σ H Q I h
  refine isTrue_and (thn (ha pins s σ H _ I h) fun c s1 ⟨H1, I1, q1⟩ => ?_)
  cases c with
  | true => exact hb wh pins s1 σ H1 Q I1 q1
  | false => exact ⟨H1, I1, q1⟩
theorem pw_or (ha : PT X a tA) (hb : PW X (.BoolOp .Or (b :: rest) pos) tB') : PW X (.BoolOp .Or (a :: b :: rest) pos) (tOr tA tB') := by
  intro wh pins s σ H Q I h
  refine isTrue_or (thn (ha pins s σ H _ I h) fun c s1 ⟨H1, I1, q1⟩ => ?_)
  cases c with
  | true => exact ⟨H1, I1, q1⟩
  | false => exact hb wh pins s1 σ H1 Q I1 q1
theorem pt_not (ha : PT X a tA) : PT X (.UnaryOp .Not a pos) (tNot tA) := by
  intro pins s σ H Q I h
  exact isTrue_not (ha pins s σ H (fun c H1 => Q (!c) H1) I h)
noncomputable def tAndV (ta tb : TE) : TE := fun σ H Q => ta σ H fun x H1 => ∃ c, x = .bl c ∧ if c = true then tb σ H1 Q else Q (.bl false) H1
noncomputable def tNotV (ta : TE) : TE := fun σ H Q => ta σ H fun x H1 => ∃ c, x = .bl c ∧ Q (.bl (!c)) H1
theorem pe_one {op} {t : TE} (h : PE X a t) : PE X (.BoolOp op [a] pos) t := fun pins s σ H Q I hw => BoolOp_one (h pins s σ H Q I hw)
theorem pe_and (ha : PE X a ta) (hb : PE X (.BoolOp .And (b :: rest) pos) tb) : PE X (.BoolOp .And (a :: b :: rest) pos) (tAndV ta tb) := by
  intro pins s σ H Q I h
  refine BoolOp_and (thn (ha pins s σ H _ I h) fun v s1 ⟨x, H1, I1, r1, q1⟩ => ?_)
  obtain ⟨c, rfl, q1⟩ := q1
  cases r1
  refine wpAny_truthy_bool ?_
  cases c with
  | true => exact hb pins s1 σ H1 Q I1 q1
  | false => exact ⟨.bl false, H1, I1, rfl, q1⟩
theorem pe_not (ha : PE X a ta) : PE X (.UnaryOp .Not a pos) (tNotV ta) := by
  intro pins s σ H Q I h
  refine UnaryOp_ (thn (ha pins s σ H _ I h) fun v s1 ⟨x, H1, I1, r1, q1⟩ => ?_)
  obtain ⟨c, rfl, q1⟩ := q1
  cases r1
  exact not_of (wpAny_truthy_bool ⟨.bl (!c), H1, I1, rfl, q1⟩)
noncomputable def tIf (t : TT) (ta tb : TE) : TE := fun σ H Q => t σ H fun c H1 => if c = true then ta σ H1 Q else tb σ H1 Q
theorem pe_ifExp {c : Expr} (hc : PT X c tA) (ha : PE X a ta) (hb : PE X b tb) : PE X (.IfExp c a b pos) (tIf tA ta tb) := by
  intro pins s σ H Q I h
  refine wpAny_IfExp (thn (hc pins s σ H _ I h) fun d s1 ⟨H1, I1, q1⟩ => ?_)
  cases d with
  | true => exact ha pins s1 σ H1 Q I1 q1
  | false => exact hb pins s1 σ H1 Q I1 q1
end
end L2
namespace L2
open PySem PySem.Spec PyProof.Rows
noncomputable def SqL (K : PySem.W.Frag) (H : Hp) (a : Addr) (xs : List V) : Prop :=
  Rd H a (.lst xs) ∨
    ∃ (o : Obj) (its : Array Value) (n : Nat), K.lookup a = some o ∧ o.cls = .type "list" ∧ o.dict = none ∧ o.data = .seq its n ∧ its.size ≤ sizeLine ∧ Vals xs its.toList
noncomputable def SqT (K : PySem.W.Frag) (H : Hp) (a : Addr) (xs : List V) : Prop :=
  Rd H a (.tup xs) ∨
    ∃ (o : Obj) (its : Array Value) (n : Nat), K.lookup a = some o ∧ o.cls = .type "tuple" ∧ o.data = .seq its n ∧ its.size ≤ sizeLine ∧ Vals xs its.toList
noncomputable def absV : Value → Option V
  | .none => some .non
  | .bool b => some (.bl b)
  | .int i _ => some (.int i)
  | .str x _ => some (.str x)
  | .bytes b _ => some (.byt b)
  | .float b _ => some (.flt b)
  | .ref a => some (.ref a)
  | .type n => some (.ty n)
  | _ => none
theorem RelV.abs {x : V} {u : Value} (r : RelV x u) : absV u = some x := by
  cases x with
  | non => cases r; rfl
  | bl _ => cases r; rfl
  | int _ => obtain ⟨t, rfl⟩ := r; rfl
  | str _ => obtain ⟨t, rfl⟩ := r; rfl
  | byt _ => obtain ⟨t, rfl⟩ := r; rfl
  | flt _ => obtain ⟨t, rfl⟩ := r; rfl
  | ref _ => cases r; rfl
  | ty _ => cases r; rfl
theorem RelV.inj {x y : V} {u : Value} (r : RelV x u) (q : RelV y u) : x = y := Option.some.inj (r.abs.symm.trans q.abs)
theorem Vals.inj : ∀ {xs ys : List V} {us : List Value}, Vals xs us → Vals ys us → xs = ys
  | _, _, _, .nil, .nil => rfl
  | _, _, _, .cons r t, .cons r' t' => by rw [r.inj r', Vals.inj t t']
section
variable {X : Cx} {pins : List (Addr × Obj)} {σ : St} {H : Hp} {s : Shared} {a : Addr} {xs ys : List V}
theorem SqL.of {K : PySem.W.Frag} (h : H a = some (.lst xs)) : SqL K H a xs := .inl (.inl h)
theorem Inv.list (I : Inv X pins σ H s) (h : SqL X.K H a xs) : ∃ its : List Value, Vals xs its ∧ PlainL s.heap a its.toArray ∧ xs.length ≤ sizeLine := by
  rcases h with h | ⟨o, its, n, hk, hc, hd, hs, hz, r⟩
  · obtain ⟨z, its, n, r, e⟩ := h.ok I.hok
    exact ⟨its, r, ⟨_, n, e, rfl, rfl, rfl⟩, z⟩
  · refine ⟨its.toList, r, ⟨o, n, I.kIn a o hk, hc, hd, by simpa using hs⟩, ?_⟩
    have e := r.length
    simp only [Array.length_toList] at e
    omega
theorem Inv.tuple (I : Inv X pins σ H s) (h : SqT X.K H a xs) : ∃ its : List Value, Vals xs its ∧ IsTup s.heap a its.toArray ∧ xs.length ≤ sizeLine := by
  rcases h with h | ⟨o, its, n, hk, hc, hs, hz, r⟩
  · obtain ⟨z, its, r, p⟩ := h.ok I.hok
    exact ⟨its, r, p, z⟩
  · refine ⟨its.toList, r, ⟨o, I.kIn a o hk, hc, n, by simpa using hs⟩, ?_⟩
    have e := r.length
    simp only [Array.length_toList] at e
    omega
theorem Inv.list_inj (I : Inv X pins σ H s) (h : SqL X.K H a xs) (h' : SqL X.K H a ys) : xs = ys := by
  obtain ⟨its, r, ⟨o, n, e, _, _, d⟩, _⟩ := I.list h
  obtain ⟨its', r', ⟨o', n', e', _, _, d'⟩, _⟩ := I.list h'
  rw [e] at e'; cases e'
  rw [d] at d'
  injection d' with d1 _
  have : its = its' := by simpa using congrArg Array.toList d1
  subst this
  exact r.inj r'
theorem Inv.tuple_inj (I : Inv X pins σ H s) (h : SqT X.K H a xs) (h' : SqT X.K H a ys) : xs = ys := by
  obtain ⟨its, r, ⟨o, e, _, n, d⟩, _⟩ := I.tuple h
  obtain ⟨its', r', ⟨o', e', _, n', d'⟩, _⟩ := I.tuple h'
  rw [e] at e'; cases e'
  rw [d] at d'
  injection d' with d1 _
  have : its = its' := by simpa using congrArg Array.toList d1
  subst this
  exact r.inj r'
end
noncomputable abbrev Cx.wish (X : Cx) (E : Value → Shared → Prop) : Cx := { X with xe := E }
noncomputable abbrev Cx.nox (X : Cx) : Cx := X.wish fun _ _ => False
theorem Cx.Ok.wish {X : Cx} (ok : X.Ok) (E : Value → Shared → Prop) : (X.wish E).Ok :=
  ⟨ok.mod, ok.kind, ok.glob, ok.blt, ok.above, ok.inj, ok.has, ok.cab, ok.hd, ok.frames, ok.stk, ok.exf, ok.bs, ok.bsz, ok.noex, ok.exfs, ok.funs, ok.frf⟩
theorem Cx.Ok.unwish {X : Cx} {E : Value → Shared → Prop} (ok : (X.wish E).Ok) : X.Ok :=
  ⟨ok.mod, ok.kind, ok.glob, ok.blt, ok.above, ok.inj, ok.has, ok.cab, ok.hd, ok.frames, ok.stk, ok.exf, ok.bs, ok.bsz, ok.noex, ok.exfs, ok.funs, ok.frf⟩
section
variable {X : Cx} {pins : List (Addr × Obj)} {σ : St} {H : Hp} {s : Shared} {E : Value → Shared → Prop}
theorem Inv.wish (I : Inv X pins σ H s) (E : Value → Shared → Prop) : Inv (X.wish E) pins σ H s := ⟨I.ok.wish E, I.os, I.bare, I.base, I.loc, I.cell, I.free, I.freeC, I.pin, I.hok, I.len⟩
theorem Inv.unwish (I : Inv (X.wish E) pins σ H s) : Inv X pins σ H s := ⟨I.ok.unwish, I.os, I.bare, I.base, I.loc, I.cell, I.free, I.freeC, I.pin, I.hok, I.len⟩
theorem SP.unwish {D : Ends} {f : Flow} {s' : Shared} (h : SP (X.wish E) pins D f s') : SP X pins D f s' := by
  cases f with
  | next => obtain ⟨σ', H', I, q⟩ := h; exact ⟨σ', H', I.unwish, q⟩
  | brk => obtain ⟨σ', H', I, q⟩ := h; exact ⟨σ', H', I.unwish, q⟩
  | cont => obtain ⟨σ', H', I, q⟩ := h; exact ⟨σ', H', I.unwish, q⟩
  | ret u => obtain ⟨v, σ', H', I, r, q⟩ := h; exact ⟨v, σ', H', I.unwish, r, q⟩
theorem PSs.nox {st : List Stmt} {t : TS} (h : PSs X.nox st t) : PSs X st t := fun pins s σ H D I hw =>
  wpAny_mono (h pins s σ H D (I.wish _) hw) (fun _ _ q => q.unwish) fun _ _ z => False.elim z
end
section
variable {X : Cx} {st : Stmt} {rest : List Stmt} {t u : TS} {e : Expr} {te : TE} {pos : Pos}
noncomputable def tNext : TS := fun D σ H => D.nx σ H
noncomputable def tSeq (t u : TS) : TS := fun D σ H => t { D with nx := u D } σ H
theorem pss_nil : PSs X [] tNext := fun _ _ σ H _ I h => wpAny_execs_nil ⟨σ, H, I, h⟩
theorem pss_cons (h1 : PS X st t) (h2 : PSs X rest u) : PSs X (st :: rest) (tSeq t u) := by
  intro pins s σ H D I h
  refine wpAny_execs_cons (thn (h1 pins s σ H { D with nx := u D } I h) fun f s1 q => ?_)
  cases f with
  | next =>
    obtain ⟨σ', H', I', q⟩ := q
    exact h2 pins s1 σ' H' D I' q
  | ret v => exact q
  | brk => exact q
  | cont => exact q
theorem pss_one (h1 : PS X st t) : PSs X [st] t := by
  intro pins s σ H D I h
  refine wpAny_execs_cons (thn (h1 pins s σ H D I h) fun f s1 q => ?_)
  cases f with
  | next => exact wpAny_execs_nil q
  | ret v => exact q
  | brk => exact q
  | cont => exact q
theorem Inv.quiet {pins : List (Addr × Obj)} {σ : St} {H : Hp} {s : Shared} (I : Inv X pins σ H s) : interactive X.env = false := by simp [interactive, I.ok.kind]
noncomputable def tDrop (te : TE) : TS := fun D σ H => te σ H fun _ H1 => D.nx σ H1
theorem ps_expr (he : PE X e te) (hs : swapsWith e none pos.line X.env = pure false := by rfl) : PS X (.Expr e pos) (tDrop te) := by
  intro pins s σ H D I h
  exact wpAny_Expr_any (thn (he pins s σ H _ I h) fun v s1 ⟨x, H1, I1, r1, q1⟩ => ⟨σ, H1, I1, q1⟩) I.quiet hs
noncomputable def tRet (te : TE) : TS := fun D σ H => te σ H D.rt
theorem ps_ret (he : PE X e te) : PS X (.Return (some e) pos) (tRet te) := by
  intro pins s σ H D I h
  exact wpAny_Return_some (thn (he pins s σ H _ I h) fun v s1 ⟨x, H1, I1, r1, q1⟩ => ⟨x, σ, H1, I1, r1, q1⟩)
noncomputable def tIfS (c : TT) (t u : TS) : TS := fun D σ H => c σ H fun b H1 => if b = true then t D σ H1 else u D σ H1
theorem ps_if {c : Expr} {a b : List Stmt} {tc : TT} (hc : PT X c tc) (ha : PSs X a t) (hb : PSs X b u) : PS X (.If c a b pos) (tIfS tc t u) := by
  intro pins s σ H D I h
  refine wpAny_If (thn (hc pins s σ H _ I h) fun d s1 ⟨H1, I1, q1⟩ => ?_)
  cases d with
  | true => exact ha pins s1 σ H1 D I1 q1
  | false => exact hb pins s1 σ H1 D I1 q1
noncomputable def tNever : TS := fun _ _ _ => False
theorem ps_never : PS X st tNever := fun _ _ _ _ _ _ h => h.elim
end
noncomputable abbrev TG := V → St → Hp → (St → Hp → Prop) → Prop
noncomputable abbrev TGs := List V → St → Hp → (St → Hp → Prop) → Prop
noncomputable def PG (X : Cx) (target : Expr) (t : TG) : Prop :=
  ∀ (pins : List (Addr × Obj)) (s : Shared) (σ : St) (H : Hp) (v : V) (u : Value) (Q : St → Hp → Prop), Inv X pins σ H s → RelV v u → t v σ H Q →
    wpAny (model X.prog X.w) X.A (assign target X.env u) (fun _ s' => ∃ σ' H', Inv X pins σ' H' s' ∧ Q σ' H') X.xe s
noncomputable def PGs (X : Cx) (ts : List Expr) (t : TGs) : Prop :=
  ∀ (pins : List (Addr × Obj)) (s : Shared) (σ : St) (H : Hp) (vs : List V) (us : List Value) (Q : St → Hp → Prop), Inv X pins σ H s → Vals vs us → t vs σ H Q →
    wpAny (model X.prog X.w) X.A (assignInOrder ((assignEach ts X.env).map (·.2)) us) (fun _ s' => ∃ σ' H', Inv X pins σ' H' s' ∧ Q σ' H') X.xe s
section
variable {X : Cx} {pos : Pos}
noncomputable def gName (i : Nat) : TG := fun v σ H Q => Q (σ.set i (some v)) H
theorem pg_name {i : Nat} {x : Str} (hN : X.N.Nodup) (hi : X.N[i]? = some x) (hx : Loc X.env.scope x) (hf : X.fn x = true ∨ X.env.scope.names.lookup x = some .local := by first | exact .inl rfl | exact .inr rfl | assumption) : PG X (.Name x pos) (gName i) := by
  intro pins s σ H v u Q I r h
  exact wpAny_assign_Name (store_ok I hN hi hx r (fun s' I' => ⟨_, H, I', h⟩) hf)
noncomputable def gNil : TGs := fun vs σ H Q => vs = [] ∧ Q σ H
noncomputable def gCons (t : TG) (u : TGs) : TGs := fun vs σ H Q => ∃ v r, vs = v :: r ∧ t v σ H fun σ' H' => u r σ' H' Q
theorem pgs_nil : PGs X [] gNil := by
  intro pins s σ H vs us Q I r h
  obtain ⟨e, h⟩ := h
  subst e
  cases r
  exact assignInOrder_nil ⟨σ, H, I, h⟩
theorem pgs_cons {e : Expr} {es : List Expr} {t : TG} {u : TGs} (h1 : PG X e t) (h2 : PGs X es u)
    (hs : (assignEach (e :: es) X.env).map (·.2) = assign e X.env :: (assignEach es X.env).map (·.2) := by rfl) : PGs X (e :: es) (gCons t u) := by
  intro pins s σ H vs us Q I r h
  obtain ⟨v, vr, e1, h⟩ := h
  subst e1
  cases r with
  | cons r rr =>
    rw [hs]
    refine assignInOrder_cons (thn (h1 pins s σ H _ _ _ I r h) fun _ s1 ⟨σ1, H1, I1, q1⟩ => ?_)
    exact h2 pins s1 σ1 H1 _ _ Q I1 rr q1
noncomputable def gTup (K : PySem.W.Frag) (n : Nat) (t : TGs) : TG := fun v σ H Q => ∃ a xs, v = .ref a ∧ SqT K H a xs ∧ xs.length = n ∧ t xs σ H Q
theorem pg_tup {es : List Expr} {k : Nat} {t : TGs} {n : Nat} (hc : X.calm = true) (h : PGs X es t)
    (hn : (assignEach es X.env).length = n := by rfl) (hst : (assignEach es X.env).findIdx? (·.1) = none := by rfl) : PG X (.Tuple es k pos) (gTup X.K n t) := by
  intro pins s σ H v u Q I r hw
  obtain ⟨a, xs, e1, hq, hl, hw⟩ := hw
  subst e1
  cases r
  obtain ⟨its, rv, ht, hz⟩ := I.tuple hq
  refine assign_Tuple_tuple (I.ok.hd hc) ht (by simp [hn, ← hl, rv.length]) hst fun h' hx => ?_
  have I1 : Inv X pins σ H { s with heap := h' } := I.kept (t' := s.toks) fun b o e => hx b o (Nat.ne_of_lt (Heap.lt_size e)) e
  exact h pins _ σ H xs _ Q I1 (by simpa using rv) hw
noncomputable def tAsg (te : TE) (g : TG) : TS := fun D σ H => te σ H fun x H1 => g x σ H1 D.nx
theorem ps_asg {tg e : Expr} {te : TE} {g : TG} (he : PE X e te) (hg : PG X tg g) (hs : swapsWithSole [tg] e pos.line X.env = pure false := by rfl) (hw : swappedStores [tg] e X.env = pure none := by rfl)
    (h1 : (assignEach [tg] X.env).map (·.2) = [assign tg X.env] := by rfl) : PS X (.Assign [tg] e pos) (tAsg te g) := by
  intro pins s σ H D I h
  refine wpAny_Assign_stores (thn (he pins s σ H _ I h) fun v s1 ⟨x, H1, I1, r1, q1⟩ => ?_) hs hw
  rw [h1]
  exact thn (hg pins s1 σ H1 x v _ I1 r1 q1) fun _ s2 q => q
theorem ps_set {i : Nat} {x : Str} {e : Expr} {te : TE} {pos' : Pos} (hN : X.N.Nodup) (hi : X.N[i]? = some x) (hx : Loc X.env.scope x) (he : PE X e te) (hs : swapsWith e (some (.Name x pos')) pos.line X.env = pure false := by rfl) (hf : X.fn x = true ∨ X.env.scope.names.lookup x = some .local := by first | exact .inl rfl | exact .inr rfl | assumption) :
    PS X (.Assign [.Name x pos'] e pos) (tAsg te (gName i)) := by
  intro pins s σ H D I h
  refine wpAny_Assign_Name (thn (he pins s σ H _ I h) fun v s1 ⟨y, H1, I1, r1, q1⟩ => ?_) hs
  exact store_ok I1 hN hi hx r1 (fun s2 I2 => ⟨_, H1, I2, q1⟩) hf
end
section
variable {X : Cx} {pos : Pos}
end
structure It where
  go : Nat → Hp → Prop
  yld : Nat → Hp → V → Hp → Prop
  stop : Nat → Hp → Prop
noncomputable def FpOk (X : Cx) (pins : List (Addr × Obj)) (H : Hp) (b : Addr) : Prop :=
  H b = none ∧ b ≠ X.env.locals ∧ b ∉ X.fs ∧ (b ∈ X.ex ∨ X.s₀.heap.objs.size ≤ b) ∧ (∀ x c, X.env.cells.lookup x = some c → c ≠ b) ∧ ∀ p ∈ X.pn ++ pins, p.1 ≠ b
theorem Inv.fpOk {X : Cx} {pins : List (Addr × Obj)} {σ : St} {H H' : Hp} {s : Shared} {b : Addr} (I : Inv X pins σ H s) (hb : s.heap.objs.size ≤ b) (hn : H' b = none) : FpOk X pins H' b := by
  refine ⟨hn, Nat.ne_of_gt (Nat.lt_of_lt_of_le I.lt hb), I.nofs hb, .inr (Nat.le_trans I.sz hb), fun x c e z => ?_, fun p hp z => ?_⟩
  · obtain ⟨v, q⟩ := I.cell x c e
    exact absurd (Nat.lt_of_lt_of_le q.lt (by rw [z]; exact hb)) (Nat.lt_irrefl _)
  · exact absurd (Nat.lt_of_lt_of_le (Heap.lt_size (I.pin p hp).1) (by rw [z]; exact hb)) (Nat.lt_irrefl _)
structure Turn (P : Program) (w : World) (K : PySem.W.Frag) (tg : Expr) (J : It) (fp : List Addr) (it : Addr) (tn : Nat → Heap → Prop) : Prop where
  mem : it ∈ fp
  obj : ∀ i h, tn i h → ∀ b ∈ fp, ∃ o, h.get? b = some o ∧ ∀ v, o.data ≠ .cell v
  keep : ∀ i h h', tn i h → (∀ b ∈ fp, ∀ o, h.get? b = some o → h'.get? b = some o) → tn i h'
  item : ∀ (X : Cx), X.prog = P → X.w = w → X.K = K → X.calm = true → ∀ (i : Nat) (pins : List (Addr × Obj)) (s : Shared) (σ : St) (H : Hp) (E : Value → Shared → Prop), Inv X pins σ H s → (∀ b ∈ fp, FpOk X pins H b) → tn i s.heap → J.go i H →
    wpAny (model P w) X.A (pyNext (.ref it)) (fun r s1 => ∃ u, r = some u ∧
      wpAny (model P w) X.A (letOwnedTupleGo tg (.ref it) u) (fun _ s2 => ∃ x H', Inv X pins σ H' s2 ∧ RelV x u ∧ J.yld i H x H' ∧ tn (i + 1) s2.heap ∧ ∀ b ∈ fp, H' b = none) E s1) E s
  done : ∀ (X : Cx), X.prog = P → X.w = w → X.K = K → X.calm = true → ∀ (i : Nat) (pins : List (Addr × Obj)) (s : Shared) (σ : St) (H : Hp) (E : Value → Shared → Prop), Inv X pins σ H s → (∀ b ∈ fp, FpOk X pins H b) → tn i s.heap → J.stop i H →
    wpAny (model P w) X.A (pyNext (.ref it)) (fun r s1 => r = none ∧ Inv X pins σ H s1) E s
  self : ∀ (A : Around) (i : Nat) (s : Shared) (Q : Value → Shared → Prop) (E : Value → Shared → Prop), tn i s.heap → Q (.ref it) s → wpAny (model P w) A (pyIter (.ref it)) Q E s
noncomputable abbrev TI := St → Hp → (It → Hp → Prop) → Prop
noncomputable def PIE (X : Cx) (pins : List (Addr × Obj)) (σ : St) (tg : Expr) (R : It → Hp → Prop) (itv : Value) (s2 : Shared) : Prop :=
  ∃ (it : Addr) (fp : List Addr) (tn : Nat → Heap → Prop) (J : It) (H' : Hp), itv = .ref it ∧ Inv X pins σ H' s2 ∧ Turn X.prog X.w X.K tg J fp it tn ∧ tn 0 s2.heap ∧ (∀ b ∈ fp, FpOk X pins H' b) ∧ R J H'
noncomputable def PI (X : Cx) (tg iter : Expr) (wi : TI) : Prop :=
  ∀ (pins : List (Addr × Obj)) (s : Shared) (σ : St) (H : Hp) (R : It → Hp → Prop), Inv X pins σ H s → wi σ H R →
    wpAny (model X.prog X.w) X.A (eval iter X.env) (fun v s1 => wpAny (model X.prog X.w) X.A (pyIter v) (PIE X pins σ tg R) X.xe s1) X.xe s
theorem go_of {M : Model} {A : Around} {E : Value → Shared → Prop} {s : Shared} {tg : Expr} {it : Addr} {u : Value} {o : Obj} {n : String} {vs : Array Value} {Q : Unit → Shared → Prop} (ho : s.heap.get? it = some o) (hc : o.cls = .type n) (hd : o.data = .fields vs)
    (hn : ["enumerate", "zip", "dict_itemiterator", "dict_reverseitemiterator", "odict_iterator", "itertools.zip_longest", "itertools.pairwise"].contains n = false) (hQ : Q () s) : wpAny M A (letOwnedTupleGo tg (.ref it) u) Q E s := by
  unfold letOwnedTupleGo
  cases tg <;> first
    | exact wpAny_pure hQ
    | (cases u <;> first
        | exact wpAny_pure hQ
        | (refine wpAny_bind (wpAny_load ho ?_)
           rw [hc, hd]
           show wpAny M A (if (["enumerate", "zip", "dict_itemiterator", "dict_reverseitemiterator", "odict_iterator", "itertools.zip_longest", "itertools.pairwise"].contains n && vs[0]? == some (rawInt _)) = true then _ else _) Q E s
           rw [if_neg (by intro h; rw [hn, Bool.false_and] at h; cases h)]
           exact wpAny_pure hQ))
noncomputable def Itl (K : PySem.W.Frag) (a : Addr) : It :=
  ⟨fun i H => ∃ xs x, SqL K H a xs ∧ xs[i]? = some x, fun i H x H' => H' = H ∧ ∀ xs, SqL K H a xs → xs[i]? = some x, fun i H => ∃ xs, SqL K H a xs ∧ xs.length ≤ i⟩
noncomputable def Itt (K : PySem.W.Frag) (a : Addr) : It :=
  ⟨fun i H => ∃ xs x, SqT K H a xs ∧ xs[i]? = some x, fun i H x H' => H' = H ∧ ∀ xs, SqT K H a xs → xs[i]? = some x, fun i H => ∃ xs, SqT K H a xs ∧ xs.length ≤ i⟩
noncomputable def Itr (lo : Int) (n : Nat) : It := ⟨fun i _ => i < n, fun i H x H' => H' = H ∧ x = .int (lo + i), fun i _ => n ≤ i⟩
theorem turn_list {P : Program} {w : World} {K : PySem.W.Frag} {tg : Expr} (a it : Addr) : Turn P w K tg (Itl K a) [it] it (fun i h => h.IsListIter it a i) where
  mem := by simp
  obj := fun i h st b hb => by
    have e : b = it := by simpa using hb
    subst e
    obtain ⟨o, e, c, d⟩ := st
    exact ⟨o, e, fun v z => by rw [d] at z; cases z⟩
  keep := fun i h h' st k => st.at fun o e => k it (by simp) o e
  item := by
    intro X hP hw hK hc i pins s σ H E I hf st hg
    subst hP hw hK
    obtain ⟨xs, x, hq, hx⟩ := hg
    obtain ⟨its, rv, p, hz⟩ := I.list hq
    obtain ⟨u, hu, ru⟩ := rv.get hx
    obtain ⟨f0, f1, f2, f3, f4, f5⟩ := hf it (by simp)
    refine wpAny_pyNext_list_item st p.isList (x := u) (by simpa using hu) fun h' st' sb => ?_
    have I1 : Inv X pins σ H { s with heap := h' } := I.turned (t' := s.toks) (fun b o hb e => (sb.2 b hb).trans e) f0 f1 f3 f4 f5
    obtain ⟨o, e, c, d⟩ := id st'
    exact ⟨u, rfl, go_of (s := { s with heap := h' }) e c d (by decide) ⟨x, H, I1, ru, ⟨rfl, fun ys hy => by rw [I.list_inj hy hq]; exact hx⟩, st', fun b hb => (hf b hb).1⟩⟩
  done := by
    intro X hP hw hK hc i pins s σ H E I hf st hg
    subst hP hw hK
    obtain ⟨xs, hq, hx⟩ := hg
    obtain ⟨its, rv, p, hz⟩ := I.list hq
    obtain ⟨f0, f1, f2, f3, f4, f5⟩ := hf it (by simp)
    have hl := rv.length
    exact wpAny_pyNext_list_end (I.ok.hd hc) st p.isList (by simp; omega) fun h' eb => ⟨rfl, I.turned (t' := s.toks) (fun b o hb e => eb b o hb e) f0 f1 f3 f4 f5⟩
  self := fun _ _ _ _ _ st h => wpAny_pyIter_listiter st h
theorem turn_tuple {P : Program} {w : World} {K : PySem.W.Frag} {tg : Expr} (a it : Addr) : Turn P w K tg (Itt K a) [it] it (fun i h => h.IsTupleIter it a i) where
  mem := by simp
  obj := fun i h st b hb => by
    have e : b = it := by simpa using hb
    subst e
    obtain ⟨o, e, c, d⟩ := st
    exact ⟨o, e, fun v z => by rw [d] at z; cases z⟩
  keep := fun i h h' st k => st.at fun o e => k it (by simp) o e
  item := by
    intro X hP hw hK hc i pins s σ H E I hf st hg
    subst hP hw hK
    obtain ⟨xs, x, hq, hx⟩ := hg
    obtain ⟨its, rv, p, hz⟩ := I.tuple hq
    obtain ⟨u, hu, ru⟩ := rv.get hx
    obtain ⟨f0, f1, f2, f3, f4, f5⟩ := hf it (by simp)
    refine wpAny_pyNext_tuple_item st (show s.heap.IsTuple a its.toArray from p) (x := u) (by simpa using hu) fun h' st' sb => ?_
    have I1 : Inv X pins σ H { s with heap := h' } := I.turned (t' := s.toks) (fun b o hb e => (sb.2 b hb).trans e) f0 f1 f3 f4 f5
    obtain ⟨o, e, c, d⟩ := id st'
    exact ⟨u, rfl, go_of (s := { s with heap := h' }) e c d (by decide) ⟨x, H, I1, ru, ⟨rfl, fun ys hy => by rw [I.tuple_inj hy hq]; exact hx⟩, st', fun b hb => (hf b hb).1⟩⟩
  done := by
    intro X hP hw hK hc i pins s σ H E I hf st hg
    subst hP hw hK
    obtain ⟨xs, hq, hx⟩ := hg
    obtain ⟨its, rv, p, hz⟩ := I.tuple hq
    obtain ⟨f0, f1, f2, f3, f4, f5⟩ := hf it (by simp)
    have hl := rv.length
    exact wpAny_pyNext_tuple_end (I.ok.hd hc) st (show s.heap.IsTuple a its.toArray from p) (by simp; omega) fun h' eb => ⟨rfl, I.turned (t' := s.toks) (fun b o hb e => eb b o hb e) f0 f1 f3 f4 f5⟩
  self := fun _ _ _ _ _ st h => wpAny_pyIter_tupleiter st h
theorem turn_range {P : Program} {w : World} {K : PySem.W.Frag} {tg : Expr} (it : Addr) (lo : Int) (n : Nat) : Turn P w K tg (Itr lo n) [it] it (fun i h => IsRangeIter h it (lo + (i : Nat) * 1) ((n : Int) - (i : Nat)) 1) where
  mem := by simp
  obj := fun i h st b hb => by
    have e : b = it := by simpa using hb
    subst e
    exact ⟨_, st, fun v z => by
      have z' : Data.fields _ = Data.cell v := z
      cases z'⟩
  keep := fun i h h' st k => k it (by simp) _ st
  item := by
    intro X hP hw hK hc i pins s σ H E I hf st hg
    subst hP hw hK
    obtain ⟨f0, f1, f2, f3, f4, f5⟩ := hf it (by simp)
    have W := Walks.range (prog := X.prog) (w := X.w) (I.ok.hd hc) it lo 1 n
    refine W.item i s _ _ hg st fun v h' tk hv st' kk => ?_
    obtain ⟨t, rfl⟩ := hv
    have I1 : Inv X pins σ H { s with heap := h', toks := tk } := I.turned (fun b o hb e => kk b o (by simpa using hb) e) f0 f1 f3 f4 f5
    refine ⟨_, rfl, go_of (s := { s with heap := h', toks := tk }) (n := "range_iterator") st' rfl rfl (by decide) ⟨.int (lo + i), H, I1, ⟨t, ?_⟩, ⟨rfl, rfl⟩, st', fun b hb => (hf b hb).1⟩⟩
    rw [Int.mul_one]
  done := by
    intro X hP hw hK hc i pins s σ H E I hf st hg
    subst hP hw hK
    obtain ⟨f0, f1, f2, f3, f4, f5⟩ := hf it (by simp)
    exact wpAny_pyNext_range_end (I.ok.hd hc) st (by have : n ≤ i := hg; omega) fun h' eb => ⟨rfl, I.turned (t' := s.toks) (fun b o hb e => eb b o hb e) f0 f1 f3 f4 f5⟩
  self := fun _ _ _ _ _ st h => wpAny_pyIter_rangeiter st h
end L2
namespace L2
open PySem PySem.Spec PyProof.Rows
section
variable {X : Cx} {tg : Expr}
theorem range_it {pins : List (Addr × Obj)} {σ : St} {H : Hp} {s : Shared} {R : It → Hp → Prop} {E : Value → Shared → Prop} {lo hi : Int} {t u v : Tok} {tk : Nat} (I : Inv X pins σ H s) (h1 : -(2 ^ 62) ≤ lo) (h2 : lo < 2 ^ 62) (h3 : -(2 ^ 62) ≤ hi) (h4 : hi < 2 ^ 62)
    (q : R (Itr lo (hi - lo).toNat) H) : wpAny (model X.prog X.w) X.A (pyIter (.ref s.heap.objs.size)) (PIE X pins σ tg R) E { s with heap := s.heap.push { cls := .type "range", data := .fields #[.int lo t, .int hi u, .int 1 v] }, toks := tk } := by
  refine wpAny_pyIter_range (IsRange.new ..) (small_one h1 h2 h3 h4) ?_
  have I1 : Inv X pins σ H { s with heap := s.heap.push { cls := .type "range", data := .fields #[.int lo t, .int hi u, .int 1 v] }, toks := tk } := I.kept fun b o e => Heap.get?_push_of_some _ e
  refine ⟨(s.heap.push { cls := .type "range", data := .fields #[.int lo t, .int hi u, .int 1 v] }).objs.size, [(s.heap.push { cls := .type "range", data := .fields #[.int lo t, .int hi u, .int 1 v] }).objs.size], _, _, H, rfl,
    I1.kept (t' := tk) fun b o e => Heap.get?_push_of_some _ e, turn_range _ lo (hi - lo).toNat, ?_, fun b hb => ?_, q⟩
  · have e1 : lo + ((0 : Nat) : Int) * 1 = lo := by simp
    have e2 : (((hi - lo).toNat : Nat) : Int) - ((0 : Nat) : Int) = Builtin.Range.rangeSize lo hi 1 := by rw [rangeSize_one]; split <;> omega
    show IsRangeIter _ _ (lo + ((0 : Nat) : Int) * 1) ((((hi - lo).toNat : Nat) : Int) - ((0 : Nat) : Int)) 1
    rw [e1, e2]
    exact Heap.get?_push_size _ rfl
  · have e : b = (s.heap.push { cls := .type "range", data := .fields #[.int lo t, .int hi u, .int 1 v] }).objs.size := by simpa using hb
    subst e
    exact I1.fpOk (Nat.le_refl _) (I1.hok.fresh (Nat.le_refl _))
noncomputable def iRng1 (ta : TA) : TI := fun σ H R => ta σ H fun vs H1 => ∃ j : Int, vs = [.int j] ∧ -(2 ^ 62) ≤ j ∧ j < 2 ^ 62 ∧ R (Itr 0 j.toNat) H1
noncomputable def iRng2 (ta : TA) : TI := fun σ H R => ta σ H fun vs H1 => ∃ i j : Int, vs = [.int i, .int j] ∧ (-(2 ^ 62) ≤ i ∧ i < 2 ^ 62 ∧ -(2 ^ 62) ≤ j ∧ j < 2 ^ 62) ∧ R (Itr i (j - i).toNat) H1
theorem pi_range1 {a : Expr} {ta : TA} {p pos : Pos} (hg : Gl X "range") (hm : X.mg "range" = none) (ha : PA X [a] ta) (hs : starEach [a] X.env = [(false, eval a X.env)] := by rfl) : PI X tg (.Call (.Name "range" p) [a] [] pos) (iRng1 ta) := by
  intro pins s σ H R I h
  refine Call_ (ld_blt I hg hm boot_range (PyProof.Rows.callWith_type1 (thn (ha pos pins s σ H _ I h) fun us s1 ⟨vs, H1, I1, r1, q1⟩ => ?_) hs rfl))
  obtain ⟨j, e, q1, q2, q⟩ := q1
  subst e
  cases r1 with
  | cons r rr =>
    cases rr
    obtain ⟨t, rfl⟩ := r
    exact call_range_1 (range_it I1 (by omega) (by omega) q1 q2 (by simpa using q))
theorem pi_range2 {a b : Expr} {ta : TA} {p pos : Pos} (hg : Gl X "range") (hm : X.mg "range" = none) (ha : PA X [a, b] ta) (hs : starEach [a, b] X.env = [(false, eval a X.env), (false, eval b X.env)] := by rfl) (hs2 : starEach [b] X.env = [(false, eval b X.env)] := by rfl) :
    PI X tg (.Call (.Name "range" p) [a, b] [] pos) (iRng2 ta) := by
  intro pins s σ H R I h
  refine Call_ (ld_blt I hg hm boot_range (PyProof.Rows.callWith_type1 (thn (ha pos pins s σ H _ I h) fun us s1 ⟨vs, H1, I1, r1, q1⟩ => ?_) (by rw [hs, hs2]) (by rw [hs2]; rfl)))
  obtain ⟨i, j, e, ⟨q1, q2, q3, q4⟩, q⟩ := q1
  subst e
  cases r1 with
  | cons r rr =>
    cases rr with
    | cons r' rr =>
      cases rr
      obtain ⟨t, rfl⟩ := r
      obtain ⟨t', rfl⟩ := r'
      exact call_range_2 (range_it I1 q1 q2 q3 q4 q)
noncomputable def tFor (wi : TI) (g : TG) (tb : TS) : TS := fun D σ H => wi σ H fun J H1 => ∃ W : Nat → Nat → St → Hp → Prop, (∃ m, W 0 m σ H1) ∧ ∀ i m σ H, W i m σ H →
  (J.stop i H ∧ D.nx σ H) ∨ (J.go i H ∧ ∃ N : St → Hp → Prop, (∀ σ' H', N σ' H' → ∃ m', m' < m ∧ W (i + 1) m' σ' H') ∧ ∀ x H', J.yld i H x H' → g x σ H' fun σ2 H2 => tb { D with nx := N, ct := N, bk := D.nx } σ2 H2)
noncomputable def pinsAt (fp : List Addr) (h : Heap) : List (Addr × Obj) := fp.filterMap fun b => (h.get? b).map fun o => (b, o)
theorem mem_pinsAt {fp : List Addr} {h : Heap} {b : Addr} {o : Obj} (hb : b ∈ fp) (e : h.get? b = some o) : (b, o) ∈ pinsAt fp h := List.mem_filterMap.mpr ⟨b, hb, by rw [e]; rfl⟩
theorem of_pinsAt {fp : List Addr} {h : Heap} {p : Addr × Obj} (hp : p ∈ pinsAt fp h) : p.1 ∈ fp ∧ h.get? p.1 = some p.2 := by
  obtain ⟨b, hb, e⟩ := List.mem_filterMap.mp hp
  cases q : h.get? b with
  | none => rw [q] at e; cases e
  | some o =>
    rw [q] at e
    have e' : (b, o) = p := Option.some.inj e
    subst e'
    exact ⟨hb, q⟩
theorem Inv.pinned {pins : List (Addr × Obj)} {σ : St} {H : Hp} {s : Shared} {fp : List Addr} (I : Inv X pins σ H s) (hf : ∀ b ∈ fp, FpOk X pins H b) (ho : ∀ b ∈ fp, ∃ o, s.heap.get? b = some o ∧ ∀ v, o.data ≠ .cell v) : Inv X (pins ++ pinsAt fp s.heap) σ H s :=
  I.pins_of fun p hp => (List.mem_append.mp hp).elim (fun z => I.pin p (List.mem_append_right _ z)) fun z => by
    obtain ⟨hb, e⟩ := of_pinsAt z
    obtain ⟨f0, f1, f2, _⟩ := hf p.1 hb
    obtain ⟨o, e', d⟩ := ho p.1 hb
    rw [e] at e'; cases e'
    exact ⟨e, f0, f1, f2, d⟩
theorem Inv.unpinned {pins pl : List (Addr × Obj)} {σ : St} {H : Hp} {s : Shared} (I : Inv X (pins ++ pl) σ H s) : Inv X pins σ H s := I.pins_of fun p hp => I.pin p (List.mem_append_right _ (List.mem_append_left _ hp))
theorem ps_for {iter : Expr} {body : List Stmt} {wi : TI} {g : TG} {tb : TS} {pos : Pos} (hp : PassesOwn (model X.prog X.w) X.A X.env X.xe) (hc : X.calm = true) (hi : PI X tg iter wi) (hg : PG X tg g) (hb : PSs X body tb)
    (hs : ∀ x, foldedSetIterable iter X.env x = pure x := by intro _; rfl) : PS X (.For tg iter body [] pos) (tFor wi g tb) := by
  intro pins s σ H D I h
  refine wpAny_For (thn (hi pins s σ H _ I h) fun v s1 h1 => thn h1 fun itv s2 h2 => ?_) hs
  obtain ⟨it, fp, tn, J, H2, e, I2, T, st2, f2, W, ⟨m0, w0⟩, turn⟩ := h2
  subst e
  have stat : ∀ {H' : Hp}, (∀ b ∈ fp, H' b = none) → ∀ b ∈ fp, FpOk X pins H' b := fun hn b hb => ⟨hn b hb, (f2 b hb).2⟩
  refine codeAny_forLoop_any (fun n s' => ∃ i σ' H', Inv X pins σ' H' s' ∧ tn i s'.heap ∧ (∀ b ∈ fp, H' b = none) ∧ W i n σ' H') ?_ m0 ⟨0, σ, H2, I2, st2, fun b hb => (f2 b hb).1, w0⟩
  rintro n s3 ⟨i, σ3, H3, I3, st3, fr3, w3⟩
  rcases turn i n σ3 H3 w3 with ⟨stop, qn⟩ | ⟨go, N, hN, step⟩
  · refine wpAny_passesOwn hp (thn (T.done X rfl rfl rfl hc i pins s3 σ3 H3 X.xe I3 (stat fr3) st3 stop) fun r s4 ⟨hr, I4⟩ => ?_)
    subst hr
    exact wpAny_execs_nil ⟨σ3, H3, I4, qn⟩
  · refine wpAny_passesOwn hp (thn (T.item X rfl rfl rfl hc i pins s3 σ3 H3 X.xe I3 (stat fr3) st3 go) fun r s4 ⟨u, hr, h4⟩ => ?_)
    subst hr
    refine wpAny_passesOwn hp (thn h4 fun _ s5 ⟨x, H5, I5, r5, y5, st5, fr5⟩ => ?_)
    have I5' := I5.pinned (stat fr5) (T.obj _ _ st5)
    refine wpAny_passesOwn hp (thn (hg _ s5 σ3 H5 x u _ I5' r5 (step x H5 y5)) fun _ s6 ⟨σ6, H6, I6, q6⟩ => ?_)
    refine wpAny_passesOwn hp (thn (hb _ s6 σ6 H6 _ I6 q6) fun f s7 q7 => ?_)
    have again : ∀ {σ7 : St} {H7 : Hp}, Inv X (pins ++ pinsAt fp s5.heap) σ7 H7 s7 → N σ7 H7 → ∃ m, m < n ∧ ∃ i σ' H', Inv X pins σ' H' s7 ∧ tn i s7.heap ∧ (∀ b ∈ fp, H' b = none) ∧ W i m σ' H' := fun {σ7 H7} I7 n7 => by
      obtain ⟨m', hm, w7⟩ := hN σ7 H7 n7
      refine ⟨m', hm, i + 1, σ7, H7, I7.unpinned, T.keep _ _ _ st5 fun b hb o e => (I7.pin (b, o) (List.mem_append_right _ (List.mem_append_right _ (mem_pinsAt hb e)))).1, fun b hb => ?_, w7⟩
      obtain ⟨o, e, d⟩ := T.obj _ _ st5 b hb
      exact (I7.pin (b, o) (List.mem_append_right _ (List.mem_append_right _ (mem_pinsAt hb e)))).2.1
    cases f with
    | next => obtain ⟨σ7, H7, I7, n7⟩ := q7; exact again I7 n7
    | cont => obtain ⟨σ7, H7, I7, n7⟩ := q7; exact again I7 n7
    | brk => obtain ⟨σ7, H7, I7, q7⟩ := q7; exact ⟨σ7, H7, I7.unpinned, q7⟩
    | ret v => obtain ⟨x7, σ7, H7, I7, r7, q7⟩ := q7; exact ⟨x7, σ7, H7, I7.unpinned, r7, q7⟩
end
end L2
namespace L2
open PySem PySem.Spec PyProof.Rows
noncomputable abbrev R2 := V → V → Hp → VK → Prop
noncomputable def OpR (X : Cx) (f : Value → Value → Sem Value) (r : R2) : Prop :=
  ∀ (pins : List (Addr × Obj)) (s : Shared) (σ : St) (H : Hp) (x y : V) (v u : Value) (Q : VK), Inv X pins σ H s → RelV x v → RelV y u → r x y H Q →
    wpAny (model X.prog X.w) X.A (f v u) (EP X pins σ Q) X.xe s
noncomputable def UnR (X : Cx) (f : Value → Sem Value) (r : V → Hp → VK → Prop) : Prop :=
  ∀ (pins : List (Addr × Obj)) (s : Shared) (σ : St) (H : Hp) (x : V) (v : Value) (Q : VK), Inv X pins σ H s → RelV x v → r x H Q →
    wpAny (model X.prog X.w) X.A (f v) (EP X pins σ Q) X.xe s
noncomputable def CallR (X : Cx) (f : Value) (r : List V → Hp → VK → Prop) : Prop :=
  ∀ (pins : List (Addr × Obj)) (s : Shared) (σ : St) (H : Hp) (xs : List V) (us : List Value) (Q : VK), Inv X pins σ H s → Vals xs us → r xs H Q →
    wpAny (model X.prog X.w) X.A (call f us) (EP X pins σ Q) X.xe s
noncomputable def TruR (X : Cx) (r : V → Hp → (Bool → Hp → Prop) → Prop) : Prop :=
  ∀ (pins : List (Addr × Obj)) (s : Shared) (σ : St) (H : Hp) (x : V) (v : Value) (Q : Bool → Hp → Prop), Inv X pins σ H s → RelV x v → r x H Q →
    wpAny (model X.prog X.w) X.A (truthy v) (TP X pins σ Q) X.xe s
noncomputable def tOp (r : R2) (ta tb : TE) : TE := fun σ H Q => ta σ H fun x H1 => tb σ H1 fun y H2 => r x y H2 Q
noncomputable def tUn (r : V → Hp → VK → Prop) (ta : TE) : TE := fun σ H Q => ta σ H fun x H1 => r x H1 Q
noncomputable def rI (C : Int → Int → Prop) (g : Int → Int → V) : R2 := fun x y H Q => ∃ i j, x = .int i ∧ y = .int j ∧ C i j ∧ Q (g i j) H
noncomputable def rI0 (g : Int → Int → V) : R2 := fun x y H Q => ∃ i j, x = .int i ∧ y = .int j ∧ Q (g i j) H
noncomputable def rU (g : Int → V) : V → Hp → VK → Prop := fun x H Q => ∃ i, x = .int i ∧ Q (g i) H
section
variable {X : Cx} {a b c : Expr} {ta tb tc : TE} {pos : Pos}
theorem binT (ha : PE X a ta) (hb : PE X b tb) {pins : List (Addr × Obj)} {s : Shared} {σ : St} {H : Hp} {R : V → V → Hp → Prop} (I : Inv X pins σ H s)
    (h : ta σ H fun x H1 => tb σ H1 fun y H2 => R x y H2) {Q : Value → Shared → Prop} {f : Value → Value → Sem Value}
    (hf : ∀ v u s2 x y H2, Inv X pins σ H2 s2 → RelV x v → RelV y u → R x y H2 → wpAny (model X.prog X.w) X.A (f v u) Q X.xe s2) :
    wpAny (model X.prog X.w) X.A (eval a X.env) (fun v s₁ => wpAny (model X.prog X.w) X.A (eval b X.env) (fun u s₂ => wpAny (model X.prog X.w) X.A (f v u) Q X.xe s₂) X.xe s₁) X.xe s := by
  refine thn (ha pins s σ H _ I h) fun v s1 ⟨x, H1, I1, r1, q1⟩ => ?_
  refine thn (hb pins s1 σ H1 _ I1 q1) fun u s2 ⟨y, H2, I2, r2, q2⟩ => ?_
  exact hf v u s2 x y H2 I2 r1 r2 q2
theorem pe_op {op : Operator} {r : R2} (ho : OpR X (binaryOp op) r) (ha : PE X a ta) (hb : PE X b tb) : PE X (.BinOp a op b pos) (tOp r ta tb) := by
  intro pins s σ H Q I h
  exact wpAny_BinOp (binT ha hb I h fun v u s2 x y H2 I2 rx ry q => ho pins s2 σ H2 x y v u Q I2 rx ry q)
theorem pe_un {op : UnaryOp} {r : V → Hp → VK → Prop} (ho : UnR X (unaryOp op) r) (ha : PE X a ta) : PE X (.UnaryOp op a pos) (tUn r ta) := by
  intro pins s σ H Q I h
  exact UnaryOp_ (thn (ha pins s σ H _ I h) fun v s1 ⟨x, H1, I1, r1, q1⟩ => ho pins s1 σ H1 x v Q I1 r1 q1)
theorem opI {f : Value → Value → Sem Value} {C : Int → Int → Prop} {g : Int → Int → Int}
    (rule : ∀ (i j : Int) (t u : Tok) (s : Shared) (Q : Value → Shared → Prop) (E : Value → Shared → Prop), C i j → Q (.int (g i j) s.toks) { s with toks := s.toks + 1 } → wpAny (model X.prog X.w) X.A (f (.int i t) (.int j u)) Q E s) :
    OpR X f (rI C fun i j => .int (g i j)) := by
  intro pins s σ H x y v u Q I rx ry h
  obtain ⟨i, j, rfl, rfl, hc, q⟩ := h
  obtain ⟨t, rfl⟩ := rx
  obtain ⟨t', rfl⟩ := ry
  exact rule i j t t' s _ _ hc ⟨.int (g i j), H, I.tok _, ⟨_, rfl⟩, q⟩
theorem opI0 {f : Value → Value → Sem Value} {g : Int → Int → Int}
    (rule : ∀ (i j : Int) (t u : Tok) (s : Shared) (Q : Value → Shared → Prop) (E : Value → Shared → Prop), Q (.int (g i j) s.toks) { s with toks := s.toks + 1 } → wpAny (model X.prog X.w) X.A (f (.int i t) (.int j u)) Q E s) :
    OpR X f (rI0 fun i j => .int (g i j)) := by
  intro pins s σ H x y v u Q I rx ry h
  obtain ⟨i, j, rfl, rfl, q⟩ := h
  obtain ⟨t, rfl⟩ := rx
  obtain ⟨t', rfl⟩ := ry
  exact rule i j t t' s _ _ ⟨.int (g i j), H, I.tok _, ⟨_, rfl⟩, q⟩
theorem opB0 {f : Value → Value → Sem Value} {g : Int → Int → Bool}
    (rule : ∀ (i j : Int) (t u : Tok) (s : Shared) (Q : Value → Shared → Prop) (E : Value → Shared → Prop), Q (.bool (g i j)) s → wpAny (model X.prog X.w) X.A (f (.int i t) (.int j u)) Q E s) :
    OpR X f (rI0 fun i j => .bl (g i j)) := by
  intro pins s σ H x y v u Q I rx ry h
  obtain ⟨i, j, rfl, rfl, q⟩ := h
  obtain ⟨t, rfl⟩ := rx
  obtain ⟨t', rfl⟩ := ry
  exact rule i j t t' s _ _ ⟨.bl (g i j), H, I, rfl, q⟩
noncomputable def CPow (i j : Int) : Prop := 0 ≤ j ∧ j ≤ 1000000 ∧ i.natAbs < 2 ^ 64
noncomputable def CMul (i j : Int) : Prop := (-(2 ^ 64) < i ∧ i < 2 ^ 64) ∨ (-(2 ^ 64) < j ∧ j < 2 ^ 64)
theorem CMul.ok {i j : Int} (h : CMul i j) : IntMulOk i j := by
  rcases h with ⟨h1, h2⟩ | ⟨h1, h2⟩
  · exact .of_left (intBits_le_64 h1 h2)
  · exact .of_right (intBits_le_64 h1 h2)
theorem op_add : OpR X (binaryOp .Add) (rI0 fun i j => .int (i + j)) := opI0 fun _ _ _ _ _ _ _ q => add_int q
theorem op_sub : OpR X (binaryOp .Sub) (rI0 fun i j => .int (i - j)) := opI0 fun _ _ _ _ _ _ _ q => sub_int q
theorem op_mul : OpR X (binaryOp .Mult) (rI CMul fun i j => .int (i * j)) := opI fun _ _ _ _ _ _ _ hc q => mul_int q hc.ok
theorem op_mod : OpR X (binaryOp .Mod) (rI (fun _ j => 0 < j) fun i j => .int (i % j)) := opI fun i j _ _ _ _ _ hc q => by
  have h1 : (0 : Int) < j := hc
  exact mod_int' (by omega) (by rw [Int.fmod_eq_emod_of_nonneg i (by omega)]; exact q)
theorem op_pow : OpR X (binaryOp .Pow) (rI CPow fun i j => .int (i ^ j.toNat)) := opI fun _ _ _ _ _ _ _ hc q => pow_int_small hc.1 hc.2.1 hc.2.2 q
theorem unI {f : Value → Sem Value} {g : Int → Int}
    (rule : ∀ (i : Int) (t : Tok) (s : Shared) (Q : Value → Shared → Prop) (E : Value → Shared → Prop), Q (.int (g i) s.toks) { s with toks := s.toks + 1 } → wpAny (model X.prog X.w) X.A (f (.int i t)) Q E s) :
    UnR X f (rU fun i => .int (g i)) := by
  intro pins s σ H x v Q I rx h
  obtain ⟨i, rfl, q⟩ := h
  obtain ⟨t, rfl⟩ := rx
  exact rule i t s _ _ ⟨.int (g i), H, I.tok _, ⟨_, rfl⟩, q⟩
theorem un_neg : UnR X (unaryOp .USub) (rU fun i => .int (-i)) := unI fun _ _ _ _ _ q => neg_int q
end
section
variable {X : Cx} {a b c : Expr} {ta tb tc : TE} {pos : Pos}
theorem fin_bl {pins : List (Addr × Obj)} {σ : St} {H : Hp} {s : Shared} {Q : VK} {k k' : Bool} (I : Inv X pins σ H s) (q : Q (.bl k) H) (e : k = k') : EP X pins σ Q (.bool k') s := by
  subst e
  exact ⟨.bl k, H, I, rfl, q⟩
theorem op_lt : OpR X (compareOp .Lt) (rI0 fun i j => .bl (decide (i < j))) := opB0 fun _ _ _ _ _ _ _ q => lt_int q
theorem op_le : OpR X (compareOp .LtE) (rI0 fun i j => .bl (decide (i ≤ j))) := opB0 fun _ _ _ _ _ _ _ q => le_int q
theorem op_gt : OpR X (compareOp .Gt) (rI0 fun i j => .bl (decide (j < i))) := opB0 fun _ _ _ _ _ _ _ q => gt_int q
theorem op_ge : OpR X (compareOp .GtE) (rI0 fun i j => .bl (decide (j ≤ i))) := opB0 fun _ _ _ _ _ _ _ q => ge_int q
theorem op_in_str : OpR X (compareOp .In) (fun x y H Q => ∃ i j, x = .str i ∧ y = .str j ∧ Q (.bl (!(Builtin.Str.occurrences j i 0 j.length 1).isEmpty)) H) := by
  intro pins s σ H x y v u Q I rx ry h
  obtain ⟨i, j, rfl, rfl, q⟩ := h
  obtain ⟨t, rfl⟩ := rx
  obtain ⟨t', rfl⟩ := ry
  exact in_str (fin_bl I q rfl)
theorem OpR.or {f : Value → Value → Sem Value} {r r' : R2} (h : OpR X f r) (h' : OpR X f r') : OpR X f (fun x y H Q => r x y H Q ∨ r' x y H Q) := by
  intro pins s σ H x y v u Q I rx ry q
  rcases q with q | q
  · exact h pins s σ H x y v u Q I rx ry q
  · exact h' pins s σ H x y v u Q I rx ry q
theorem nomark (b : Expr) {op : CmpOp} (h : op ≠ .In := by decide) (h2 : op ≠ .NotIn := by decide) : behindInMarks op b = false := by
  have e1 : (op == CmpOp.In) = false := by cases op <;> first | rfl | exact absurd rfl h
  have e2 : (op == CmpOp.NotIn) = false := by cases op <;> first | rfl | exact absurd rfl h2
  cases b <;> simp [behindInMarks, e1, e2]
theorem pe_cmpR {op : CmpOp} {r : R2} (ho : OpR X (compareOp op) r) (ha : PE X a ta) (hb : PE X b tb) (hm : behindInMarks op b = false) : PE X (.Compare a [op] [b] pos) (tOp r ta tb) := by
  intro pins s σ H Q I h
  exact wpAny_Compare1 (binT ha hb I h fun v u s2 x y H2 I2 rx ry q => ho pins s2 σ H2 x y v u Q I2 rx ry q) hm
noncomputable def tTest (t : TE) : TT := fun σ H Q => t σ H fun x H' => ∃ k, x = .bl k ∧ Q k H'
theorem pt_cmpR {op : CmpOp} {r : R2} (ho : OpR X (compareOp op) r) (ha : PE X a ta) (hb : PE X b tb) (hm : behindInMarks op b = false) : PT X (.Compare a [op] [b] pos) (tTest (tOp r ta tb)) := by
  intro pins s σ H Q I h
  refine wpAny_isTrue_Compare1 (thn (ha pins s σ H _ I h) fun v s1 ⟨x, H1, I1, r1, q1⟩ => thn (hb pins s1 σ H1 _ I1 q1) fun u s2 ⟨y, H2, I2, r2, q2⟩ =>
    thn (ho pins s2 σ H2 x y v u _ I2 r1 r2 q2) fun c s3 ⟨z, H3, I3, r3, k, e, q3⟩ => ?_) hm
  subst e
  cases r3
  exact wpAny_truthy_bool ⟨H3, I3, q3⟩
noncomputable def tChain (r r' : R2) (ta tb tc : TE) : TE := fun σ H Q => ta σ H fun x H1 => tb σ H1 fun y H2 => r x y H2 fun z H3 => ∃ k, z = .bl k ∧
  (if k = true then tc σ H3 fun w' H4 => r' y w' H4 Q else Q (.bl false) H3)
theorem pe_chain {op op' : CmpOp} {r r' : R2} (ho : OpR X (compareOp op) r) (ho' : OpR X (compareOp op') r') (ha : PE X a ta) (hb : PE X b tb) (hc : PE X c tc)
    (hm : lastMarks [op, op'] [b, c] = false := by with_unfolding_all rfl) : PE X (.Compare a [op, op'] [b, c] pos) (tChain r r' ta tb tc) := by
  intro pins s σ H Q I h
  refine Compare_chain (thn (ha pins s σ H _ I h) fun v s1 ⟨x, H1, I1, r1, q1⟩ => chain_link (thn (hb pins s1 σ H1 _ I1 q1) fun u s2 ⟨y, H2, I2, r2, q2⟩ =>
    thn (ho pins s2 σ H2 x y v u _ I2 r1 r2 q2) fun d s3 ⟨z, H3, I3, r3, k, e, q3⟩ => ?_)) hm
  subst e
  cases r3
  refine wpAny_truthy_bool ?_
  cases k with
  | false => exact ite_ff ⟨.bl false, H3, I3, rfl, q3⟩
  | true => exact ite_tt (chain_last (thn (hc pins s3 σ H3 _ I3 q3) fun w' s4 ⟨z', H4, I4, r4, q4⟩ => ho' pins s4 σ H4 y z' u w' Q I4 r2 r4 q4))
theorem pt_chain {op op' : CmpOp} {r r' : R2} (ho : OpR X (compareOp op) r) (ho' : OpR X (compareOp op') r') (ha : PE X a ta) (hb : PE X b tb) (hc : PE X c tc)
    (hm : lastMarks [op, op'] [b, c] = false := by with_unfolding_all rfl) : PT X (.Compare a [op, op'] [b, c] pos) (tTest (tChain r r' ta tb tc)) := by
  intro pins s σ H Q I h
  refine isTrue_chain (thn (ha pins s σ H _ I h) fun v s1 ⟨x, H1, I1, r1, q1⟩ => test_link (thn (hb pins s1 σ H1 _ I1 q1) fun u s2 ⟨y, H2, I2, r2, q2⟩ =>
    thn (ho pins s2 σ H2 x y v u _ I2 r1 r2 q2) fun d s3 ⟨z, H3, I3, r3, k, e, q3⟩ => ?_)) hm
  subst e
  cases r3
  refine wpAny_truthy_bool ?_
  cases k with
  | false =>
    obtain ⟨k', e', q'⟩ := q3
    cases e'
    exact ite_ff ⟨H3, I3, q'⟩
  | true =>
    refine ite_tt (test_last (thn (hc pins s3 σ H3 _ I3 q3) fun w' s4 ⟨z', H4, I4, r4, q4⟩ => thn (ho' pins s4 σ H4 y z' u w' _ I4 r2 r4 q4) fun d' s5 ⟨z2, H5, I5, r5, k2, e2, q5⟩ => ?_))
    subst e2
    cases r5
    exact wpAny_truthy_bool ⟨H5, I5, q5⟩
noncomputable def TruV (K : PySem.W.Frag) (x : V) (H : Hp) (k : Bool) : Prop :=
  match x with
  | .non => k = false
  | .bl b => k = b
  | .int i => k = (i != 0)
  | .str y => y.length ≤ sizeLine ∧ k = ((y.length : Int) != 0)
  | .byt y => y.size ≤ sizeLine ∧ k = ((y.size : Int) != 0)
  | .ref p => (∃ xs, SqL K H p xs ∧ k = !xs.isEmpty) ∨ (∃ xs, SqT K H p xs ∧ k = !xs.isEmpty) ∨ ∃ kvs, H p = some (.dK kvs) ∧ k = !kvs.isEmpty
  | _ => False
theorem isEmpty_kv {κ : Type} {kvs : List (κ × V)} {vs : List (κ × Value)} (r : KV kvs vs) : (!vs.isEmpty) = !kvs.isEmpty := by
  cases r <;> rfl
theorem isEmpty_of {xs : List V} {its : List Value} (r : Vals xs its) : (!its.toArray.isEmpty) = !xs.isEmpty := by
  cases r <;> simp
theorem line63 : (sizeLine : Nat) < 2 ^ 63 := by rw [sizeLine_eq]; decide
theorem tru_ok : TruR X (fun x H Q => ∃ k, TruV X.K x H k ∧ Q k H) := by
  intro pins s σ H x v Q I rx h
  obtain ⟨k, e, q⟩ := h
  have hl := line63
  have hs : sizeLine = 16777216 := sizeLine_eq
  cases x with
  | non =>
    cases rx
    have e' : k = false := e
    subst e'
    exact truthy_none ⟨H, I, q⟩
  | bl b =>
    cases rx
    have e' : k = b := e
    subst e'
    exact wpAny_truthy_bool ⟨H, I, q⟩
  | int i =>
    obtain ⟨t, rfl⟩ := rx
    have e' : k = (i != 0) := e
    subst e'
    exact PySem.P.truthy_int ⟨H, I, q⟩
  | str y =>
    obtain ⟨t, rfl⟩ := rx
    obtain ⟨hy, e'⟩ : y.length ≤ sizeLine ∧ k = ((y.length : Int) != 0) := e
    subst e'
    exact PySem.P.truthy_str (by omega) ⟨H, I.tok _, q⟩
  | byt y =>
    obtain ⟨t, rfl⟩ := rx
    obtain ⟨hy, e'⟩ : y.size ≤ sizeLine ∧ k = ((y.size : Int) != 0) := e
    subst e'
    exact PySem.W.truthy_bytes (by omega) ⟨H, I.tok _, q⟩
  | ref p =>
    cases rx
    have e' : (∃ xs, SqL X.K H p xs ∧ k = !xs.isEmpty) ∨ (∃ xs, SqT X.K H p xs ∧ k = !xs.isEmpty) ∨ ∃ kvs, H p = some (.dK kvs) ∧ k = !kvs.isEmpty := e
    rcases e' with ⟨xs, hx, e'⟩ | ⟨xs, hx, e'⟩ | ⟨kvs, hx, e'⟩
    · subst e'
      obtain ⟨its, r, pl, hz⟩ := I.list hx
      have hlen := r.length
      exact wpAny_truthy_list pl.isList (by simp only [List.size_toArray]; omega) ⟨H, I.tok _, by rw [isEmpty_of r]; exact q⟩
    · subst e'
      obtain ⟨its, r, pl, hz⟩ := I.tuple hx
      have hlen := r.length
      exact truthy_tuple pl (by simp only [List.size_toArray]; omega) ⟨H, I.tok _, by rw [isEmpty_of r]; exact q⟩
    · subst e'
      obtain ⟨hz, hS, vs, r, m⟩ : kvs.length ≤ sizeLine ∧ (p == sysModules) = false ∧ ∃ vs, KV kvs vs ∧ s.heap.DictOf (mixKind X.prog X.w) p vs := I.hok p _ hx
      have hlen : kvs.length = vs.length := Paired.length r
      exact wpAny_truthy_dict hS m (by omega) ⟨H, I.tok _, by rw [isEmpty_kv r]; exact q⟩
  | _ => exact (show False from e).elim
theorem pt_truth (ha : PE X a ta) (he : ∀ whole, isTrue a X.env whole = (do let v ← whole; standAt a.pos; holding [v] (truthy v))) :
    PT X a (fun σ H Q => ta σ H fun x H' => ∃ k, TruV X.K x H' k ∧ Q k H') := by
  intro pins s σ H Q I h
  exact isTrue_plain (thn (ha pins s σ H _ I h) fun v s1 ⟨x, H1, I1, r1, q1⟩ => tru_ok pins s1 σ H1 x v Q I1 r1 q1) (he _)
theorem op_add_str : OpR X (binaryOp .Add) (fun x y H Q => ∃ i j, x = .str i ∧ y = .str j ∧ i.length + j.length ≤ sizeLine ∧ Q (.str (i ++ j)) H) := by
  intro pins s σ H x y v u Q I rx ry h
  obtain ⟨i, j, rfl, rfl, hz, q⟩ := h
  obtain ⟨t, rfl⟩ := rx
  obtain ⟨t', rfl⟩ := ry
  exact add_str (fun t' tk => ⟨.str (i ++ j), H, I.tok _, ⟨_, rfl⟩, q⟩) hz
theorem vals1 {x : V} {us : List Value} (r : Vals [x] us) : ∃ u, us = [u] ∧ RelV x u := by
  cases r with
  | cons r1 r2 => cases r2; exact ⟨_, rfl, r1⟩
theorem vals2 {x y : V} {us : List Value} (r : Vals [x, y] us) : ∃ u w', us = [u, w'] ∧ RelV x u ∧ RelV y w' := by
  cases r with
  | cons r1 r2 =>
    cases r2 with
    | cons r3 r4 => cases r4; exact ⟨_, _, rfl, r1, r3⟩
theorem call_min2 (hc : X.calm = true) : CallR X (.builtin "min") (fun xs H Q => ∃ i j, xs = [.int i, .int j] ∧ Q (.int (if j < i then j else i)) H) := by
  intro pins s σ H xs us Q I r h
  obtain ⟨i, j, rfl, q⟩ := h
  obtain ⟨u, w', rfl, ⟨t, rfl⟩, ⟨t', rfl⟩⟩ := vals2 r
  refine min_two_ints (I.ok.hd hc) fun h' tk k => ⟨_, H, I.kept k, ?_, q⟩
  by_cases hj : j < i
  · rw [if_pos hj, if_pos hj]; exact ⟨_, rfl⟩
  · rw [if_neg hj, if_neg hj]; exact ⟨_, rfl⟩
theorem call_int1 : CallR X (.type "int") (fun xs H Q => (∃ i, xs = [.int i] ∧ Q (.int i) H) ∨ ∃ k, xs = [.bl k] ∧ Q (.int (if k then 1 else 0)) H) := by
  intro pins s σ H xs us Q I r h
  rcases h with ⟨i, rfl, q⟩ | ⟨k, rfl, q⟩
  · obtain ⟨u, rfl, t, rfl⟩ := vals1 r
    exact call_int_int ⟨.int i, H, I, ⟨_, rfl⟩, q⟩
  · obtain ⟨u, rfl, r1⟩ := vals1 r
    cases r1
    exact call_int_bool ⟨.int (if k then 1 else 0), H, I.tok _, ⟨_, rfl⟩, q⟩
theorem call_str_int : CallR X (.type "str") (fun xs H Q => ∃ i, xs = [.int i] ∧ i.natAbs.log2 < 1920 ∧ Q (.str (toString i)) H) := by
  intro pins s σ H xs us Q I r h
  obtain ⟨i, rfl, hz, q⟩ := h
  obtain ⟨u, rfl, t, rfl⟩ := vals1 r
  exact PySem.P.str_of_int hz ⟨.str _, H, I.tok _, ⟨_, rfl⟩, q⟩
end
end L2
namespace L2
open PySem PySem.Spec PyProof.Rows
section
variable {prog : Program} {w : World} {A : Around} {E : Value → Shared → Prop} {s : Shared} {K : PySem.W.Frag} {x dx C f : Addr} {mA : Str → Option Value} {name : Str} {v : Value}
end
theorem RelO.some_of {v : V} {o : Option Value} (r : RelO (some v) o) : ∃ u, o = some u ∧ RelV v u := by
  cases o with
  | none => exact (show False from r).elim
  | some u => exact ⟨u, rfl, r⟩
theorem RelO.none_of {o : Option Value} (r : RelO none o) : o = none := by
  cases o with
  | none => rfl
  | some u => exact (show False from r).elim
section
variable {P : Program} {w : World} {H H' : Hp} {h h' : Heap} {a C dx : Addr} {fs fs' : List (Str × V)}
end
section
variable {X : Cx} {pins : List (Addr × Obj)} {σ : St} {H : Hp} {s : Shared} {a C dx : Addr} {fs : List (Str × V)} {f : Str} {v : V} {A : Around} {E : Value → Shared → Prop}
end
section
variable {X : Cx} {o e value : Expr} {f : Str} {pos pos' tpos : Pos} {ta tv : TE}
end
section
variable {X : Cx} {pins : List (Addr × Obj)} {σ : St} {H : Hp} {s : Shared} {A : Around} {E : Value → Shared → Prop} {Q : Value → Shared → Prop} {c : Value} {b : Bool}
end
end L2
namespace L2
open PySem PySem.Spec PyProof.Rows
structure Room (k : Nat) (A : Around) : Prop where
  hd : A.handled = none
  dp : A.depth + 3 * k + 5 < recursionLimit
  un : A.units + 16 * k + 200 < cLine
theorem Room.mono {j k : Nat} {A : Around} (r : Room k A) (h : j ≤ k) : Room j A := ⟨r.hd, by have := r.dp; omega, by have := r.un; omega⟩
theorem Room.deeper {k : Nat} {A : Around} (r : Room (k + 1) A) (env : Env) : Room k (A.deeper env) :=
  ⟨r.hd, by have := r.dp; show A.depth + 1 + 3 * k + 5 < _; omega, by have := r.un; show A.units + 3 + 16 * k + 200 < _; omega⟩
theorem Room.depth {k : Nat} {A : Around} (r : Room k A) : A.depth < recursionLimit := by have := r.dp; omega
theorem Room.units {k : Nat} {A : Around} (r : Room k A) : A.units + 64 < cLine := by have := r.un; omega
noncomputable def tNil : TA := fun _ H Q => Q [] H
noncomputable def tCons (ta : TE) (tr : TA) : TA := fun σ H Q => ta σ H fun x H1 => tr σ H1 fun xs H2 => Q (x :: xs) H2
section
variable {X : Cx} {e : Expr} {es : List Expr} {te : TE} {t : TA} {pos : Pos}
theorem pa_nil : PA X [] tNil := fun _ _ _ _ H Q I h => Calls.spliced_nil ⟨[], H, I, .nil, h⟩
theorem pa_cons (ha : PE X e te) (hr : PA X es t) (hs : starEach (e :: es) X.env = (false, eval e X.env) :: starEach es X.env := by rfl) : PA X (e :: es) (tCons te t) := by
  intro pos pins s σ H Q I h
  rw [hs]
  show wpAny _ _ (spliced ((false, eval e X.env) :: backTo pos (starEach es X.env))) _ _ s
  refine Calls.spliced_cons (thn (ha pins s σ H _ I h) fun u s1 ⟨x, H1, I1, r1, q1⟩ => ?_)
  exact thn (hr pos pins s1 σ H1 _ I1 q1) fun us s2 ⟨xs, H2, I2, r2, q2⟩ => ⟨x :: xs, H2, I2, .cons r1 r2, q2⟩
noncomputable def tTup (t : TA) : TE := fun σ H Q => t σ H fun xs H1 => xs.length ≤ sizeLine ∧ ∀ p, H1 p = none → Q (.ref p) (upd H1 p (.tup xs))
noncomputable def tLst (t : TA) : TE := fun σ H Q => t σ H fun xs H1 => xs.length ≤ sizeLine ∧ ∀ p, H1 p = none → Q (.ref p) (upd H1 p (.lst xs))
theorem pe_tup {x1} (h : PA X es t) : PE X (.Tuple es x1 pos) (tTup t) := by
  intro pins s σ H Q I hq
  refine wpAny_Tuple_spliced (thn (h pos pins s σ H _ I hq) fun us s1 ⟨xs, H1, I1, r, z, q⟩ => ⟨by rw [← r.length]; exact z, ?_⟩)
  have hf : H1 s1.heap.objs.size = none := I1.hok.fresh (Nat.le_refl _)
  refine ⟨.ref s1.heap.objs.size, upd H1 s1.heap.objs.size (.tup xs), I1.laid (t' := s1.toks) (fun b u e => Heap.get?_push_of_some _ e) (Nat.le_refl _) ?_, rfl, q _ hf⟩
  exact ⟨z, us, r, ⟨_, Heap.get?_push_size _ rfl, rfl, _, rfl⟩⟩
theorem pe_lst (h : PA X es t) : PE X (.List es pos) (tLst t) := by
  intro pins s σ H Q I hq
  refine wpAny_List_spliced (thn (h pos pins s σ H _ I hq) fun us s1 ⟨xs, H1, I1, r, z, q⟩ => ⟨by rw [← r.length]; exact z, ?_⟩)
  have hf : H1 s1.heap.objs.size = none := I1.hok.fresh (Nat.le_refl _)
  refine ⟨.ref s1.heap.objs.size, upd H1 s1.heap.objs.size (.lst xs), I1.laid (t' := s1.toks) (fun b u e => Heap.get?_push_of_some _ e) (Nat.le_refl _) ?_, rfl, q _ hf⟩
  exact ⟨z, us, 0, r, Heap.get?_push_size _ rfl⟩
end
noncomputable abbrev Sp := List V → Hp → VK → XK → Prop
noncomputable abbrev CXT := List Env → Hp → Shared → XK → Value → Shared → Prop
structure Env0 (P : Program) (w : World) (K : PySem.W.Frag) (mg : Str → Option Value) (base : Heap) (A : Around) (outer : List Env) (s : Shared) (H : Hp) : Prop where
  frames : A.frames = some outer
  mod : Mod K mg base
  bs : ∀ b o, base.get? b = some o → s.heap.get? b = some o ∧ H b = none
  bsz : base.objs.size ≤ s.heap.objs.size
  funs : s.heap.FunFrames base outer
  frf : ∀ b ∈ frs outer, H b = none
  hok : HOk P w H s.heap
  bare : AllBare s.gens
noncomputable def CE (outer : List Env) (P : Program) (w : World) (H : Hp) (s : Shared) (Q : VK) (u : Value) (s' : Shared) : Prop :=
  ∃ v H', s'.os = s.os ∧ AllBare s'.gens ∧ Un (frs outer) [] H H' s.heap s'.heap ∧ HOk P w H' s'.heap ∧ RelV v u ∧ Q v H'
noncomputable def CR (CX : CXT) (outer : List Env) (P : Program) (w : World) (H : Hp) (s : Shared) (Q : VK) (E : XK) (r : Result) (s' : Shared) : Prop :=
  match r with
  | .ok (.ret u) => CE outer P w H s Q u s'
  | .ok _ => False
  | .error e => CX outer H s E e s'
structure FnOk (P : Program) (w : World) (K : PySem.W.Frag) (mg : Str → Option Value) (base : Heap) (CX : CXT) (k : Nat) (f : Addr) (fd : FuncData) (ps : List Str) (sp : Sp) : Prop where
  len : ∀ vs H Q E, sp vs H Q E → vs.length = ps.length
  run : ∀ (A : Around) (outer : List Env) (s : Shared) (H : Hp) (args : Args) (us : List Value) (vs : List V) (Q : VK) (E : XK), Room k A → Env0 P w K mg base A outer s H → BindsTo s fd args (ps.zip us) → Vals vs us → sp vs H Q E →
    codeAny (model P w) A (.call (.ref f) args) (CR CX outer P w H s Q E) s
section
variable {X : Cx} {pins : List (Addr × Obj)} {σ : St} {H : Hp} {s s' : Shared}
theorem Inv.env0 (I : Inv X pins σ H s) : Env0 X.prog X.w X.K X.mg X.base X.A X.stack s H :=
  ⟨I.ok.frames, I.ok.mod, I.bs, Nat.le_trans I.ok.bsz I.sz, I.stack, I.stkFree, I.hok, I.bare⟩
theorem Inv.after {Q : VK} {u : Value} (I : Inv X pins σ H s) (h : CE X.stack X.prog X.w H s Q u s') : EP X pins σ Q u s' := by
  obtain ⟨v, H', os, bare, un, hok, r, q⟩ := h
  obtain ⟨hh, g, d, t, os'⟩ := s'
  obtain rfl : os' = s.os := os
  exact ⟨v, H', I.call (h' := hh) (g' := g) (d' := d) (t' := t) (ch := []) un hok bare (fun b z => absurd z (by simp)), r, q⟩
end
noncomputable def tCall (sp : Sp) (dvs : List V) (E : XK) (t : TA) : TE := fun σ H Q => t σ H fun vs H1 => sp (vs ++ dvs) H1 Q E
noncomputable def Binds (K : PySem.W.Frag) (fd : FuncData) (ps : List Str) (ds : List Value) : Prop :=
  ∀ (s : Shared) (us : List Value), K.In s.heap → (us ++ ds).length = ps.length → BindsTo s fd ⟨us, []⟩ (ps.zip (us ++ ds))
theorem Binds.all {K : PySem.W.Frag} {fd : FuncData} {ps : List Str} (h : ∀ us : List Value, us.length = ps.length → bindArgs fd ⟨us, []⟩ = pure (ps.zip us)) : Binds K fd ps [] := fun s us _ hl => by
  rw [List.append_nil] at hl ⊢
  exact .of_eq (h us hl)
noncomputable def Passes (CX : CXT) (X : Cx) (E : XK) : Prop := ∀ (pins : List (Addr × Obj)) (σ : St) (H : Hp) (s : Shared) (e : Value) (s' : Shared), Inv X pins σ H s → CX X.stack H s E e s' → X.xe e s'
section
variable {X : Cx} {CX : CXT} {k : Nat} {f C : Addr} {fd : FuncData} {ps : List Str} {sp : Sp} {dvs : List V} {ds : List Value} {E : XK} {x m : Str} {p pos apos : Pos} {e o : Expr} {es : List Expr} {ta : TE} {t : TA}
theorem run_fn {pins : List (Addr × Obj)} {σ : St} {H : Hp} {s : Shared} {Q : VK} {us : List Value} {vs : List V} (F : FnOk X.prog X.w X.K X.mg X.base CX k f fd ps sp) (hr : Room k X.A) (hb : Binds X.K fd ps ds) (hd : Vals dvs ds) (hx : Passes CX X E)
    (I : Inv X pins σ H s) (r : Vals vs us) (h : sp (vs ++ dvs) H Q E) : wpAny (model X.prog X.w) X.A (call (.ref f) us) (EP X pins σ Q) X.xe s := by
  have r2 : Vals (vs ++ dvs) (us ++ ds) := r.append hd
  have hl : (us ++ ds).length = ps.length := by rw [← r2.length]; exact F.len _ _ _ _ h
  refine wpAny_call (codeAny_mono (F.run X.A X.stack s H ⟨us, []⟩ (us ++ ds) (vs ++ dvs) Q E hr I.env0 (hb s us I.kIn hl) r2 h) fun r s' hq => ?_)
  cases r with
  | error e => exact hx pins σ H s e s' I hq
  | ok fl =>
    cases fl with
    | ret u => exact I.after hq
    | next => exact False.elim hq
    | brk => exact False.elim hq
    | cont => exact False.elim hq
theorem pe_call (F : FnOk X.prog X.w X.K X.mg X.base CX k f fd ps sp) (hr : Room k X.A) (hg : Gl X x) (hm : X.mg x = some (.ref f)) (hk : PySem.W.keepIn X.K (.ref f) = true) (hb : Binds X.K fd ps ds) (hd : Vals dvs ds) (hx : Passes CX X E)
    (ha : PA X (e :: es) t) (hdb : (x == ("__debug__" : Str)) = false := by decide) (he : starEach (e :: es) X.env = (false, eval e X.env) :: starEach es X.env := by rfl) (hpl : (backTo pos (starEach es X.env)).any (·.1) = false := by rfl) :
    PE X (.Call (.Name x p) (e :: es) [] pos) (tCall sp dvs E t) := by
  intro pins s σ H Q I h
  refine wpAny_Call_Name_kw (ld_glob I hg hm ?_ hdb)
  refine PySem.W.callWith_K (h₀ := X.base) I.ok.mod.kin hk (thn (ha pos pins s σ H _ I h) fun us s1 ⟨vs, H1, I1, r, q⟩ => ⟨I1.kIn, ?_⟩) he hpl
  exact run_fn F hr hb hd hx I1 r q
theorem pe_call0 (F : FnOk X.prog X.w X.K X.mg X.base CX k f fd ps sp) (hr : Room k X.A) (hg : Gl X x) (hm : X.mg x = some (.ref f)) (hk : PySem.W.keepIn X.K (.ref f) = true) (hb : Binds X.K fd ps ds) (hd : Vals dvs ds) (hx : Passes CX X E)
    (hdb : (x == ("__debug__" : Str)) = false := by decide) : PE X (.Call (.Name x p) [] [] pos) (tCall sp dvs E tNil) := by
  intro pins s σ H Q I h
  refine wpAny_Call_Name_kw (ld_glob I hg hm ?_ hdb)
  exact PySem.W.callWith_K0 I.kIn hk (run_fn (us := []) F hr hb hd hx I .nil h)
end
section
variable {X : Cx} {CX : CXT} {k : Nat} {f C : Addr} {fd : FuncData} {ps ks : List Str} {sp : Sp} {E : XK} {x m : Str} {p pos apos kpos : Pos} {e o : Expr} {es : List Expr} {kws : List Keyword} {te ta : TE} {t tk : TA} {nm : Option Str}
variable {g : List Value → List Value → List Value} {gV : List V → List V → List V}
end
structure FnScope (N P : List Str) (sc : Scope) : Prop where
  kind : sc.kind = .function
  co : sc.isCoroutine = false
  gen : sc.isGenerator = false
  nd : N.Nodup
  pre : N.take P.length = P
  par : ∀ x ∈ P, sc.names.lookup x = some .local ∨ sc.names.lookup x = some .cell
  nofree : ∀ y ∈ sc.names, y.2 ≠ .free
theorem bindL_out {kindOf : Str → Option NameKind} {x : Str} : ∀ {binds : List (Str × Value)} {m : Str → Option Value}, (∀ v, (x, v) ∉ binds) → bindL kindOf binds m x = m x
  | [], _, _ => rfl
  | (n, v) :: r, m, h => by
    unfold bindL
    rw [bindL_out fun w hw => h w (List.mem_cons_of_mem _ hw)]
    split
    · have : x ≠ n := by rintro rfl; exact h v List.mem_cons_self
      simp [this]
    · rfl
theorem bindC_out {kindOf : Str → Option NameKind} {x : Str} : ∀ {binds : List (Str × Value)} {m : Str → Option Value}, (∀ v, (x, v) ∉ binds) → bindC kindOf binds m x = m x
  | [], _, _ => rfl
  | (n, v) :: r, m, h => by
    unfold bindC
    rw [bindC_out fun w hw => h w (List.mem_cons_of_mem _ hw)]
    split
    · rfl
    · have : x ≠ n := by rintro rfl; exact h v List.mem_cons_self
      simp [this]
theorem bindL_get {kindOf : Str → Option NameKind} {x : Str} {v : Value} : ∀ {P : List Str} {vs : List Value} {i : Nat} {m : Str → Option Value}, P.Nodup → P[i]? = some x → vs[i]? = some v → kindOf x = some .local →
    bindL kindOf (P.zip vs) m x = some v
  | [], _, _, _, _, h, _, _ => by simp at h
  | _ :: _, [], _, _, _, _, h, _ => by simp at h
  | p :: P, w :: vs, 0, m, nd, h1, h2, hk => by
    simp at h1 h2; subst h1; subst h2
    show bindL kindOf ((p, w) :: P.zip vs) m p = _
    unfold bindL
    rw [bindL_out fun v hv => (List.nodup_cons.mp nd).1 (List.of_mem_zip hv).1, if_pos hk]
    simp
  | p :: P, w :: vs, i + 1, m, nd, h1, h2, hk => by
    show bindL kindOf ((p, w) :: P.zip vs) m x = _
    unfold bindL
    exact bindL_get (i := i) (List.nodup_cons.mp nd).2 (by simpa using h1) (by simpa using h2) hk
theorem bindC_get {kindOf : Str → Option NameKind} {x : Str} {v : Value} : ∀ {P : List Str} {vs : List Value} {i : Nat} {m : Str → Option Value}, P.Nodup → P[i]? = some x → vs[i]? = some v → kindOf x ≠ some .local →
    bindC kindOf (P.zip vs) m x = some v
  | [], _, _, _, _, h, _, _ => by simp at h
  | _ :: _, [], _, _, _, _, h, _ => by simp at h
  | p :: P, w :: vs, 0, m, nd, h1, h2, hk => by
    simp at h1 h2; subst h1; subst h2
    show bindC kindOf ((p, w) :: P.zip vs) m p = _
    unfold bindC
    rw [bindC_out fun v hv => (List.nodup_cons.mp nd).1 (List.of_mem_zip hv).1, if_neg hk]
    simp
  | p :: P, w :: vs, i + 1, m, nd, h1, h2, hk => by
    show bindC kindOf ((p, w) :: P.zip vs) m x = _
    unfold bindC
    exact bindC_get (i := i) (List.nodup_cons.mp nd).2 (by simpa using h1) (by simpa using h2) hk
noncomputable def start (N : List Str) (vs : List V) : St := vs.map some ++ List.replicate (N.length - vs.length) none
noncomputable def cxOf (CX : CXT) (P : Program) (w : World) (K : PySem.W.Frag) (mg : Str → Option Value) (base : Heap) (N : List Str) (qual : Str) (scope : Scope) (f : Addr) (cd : Value) (A : Around) (outer : List Env) (s : Shared) (H : Hp) (E : XK) : Cx where
  prog := P
  w := w
  K := K
  mg := mg
  base := base
  A := A.deeper (envOfC qual scope s.heap.objs.size f cd)
  N := N
  s₀ := s
  H₀ := H
  env := envOfC qual scope s.heap.objs.size f cd
  outer := outer
  stack := envOfC qual scope s.heap.objs.size f cd :: outer
  ex := []
  calm := true
  fn := fun _ => true
  pn := []
  xe := fun e s' => wpAny (model P w) (A.deeper (envOfC qual scope s.heap.objs.size f cd)) (leaving (envOfC qual scope s.heap.objs.size f cd) e) (fun _ s'' => CX outer H s E e s'') (fun e' s'' => CX outer H s E e' s'') s'
theorem cell_has {sc : Scope} {n : Nat} {x : Str} (h : sc.names.lookup x = some .cell) : ∃ c, (cellsFrom n sc.names []).lookup x = some c := by
  have q := PySem.W.cellsFrom_some sc.names n [] (.inl h)
  exact Option.isSome_iff_exists.mp q
theorem inv_start {CX : CXT} {P : Program} {w : World} {K : PySem.W.Frag} {mg : Str → Option Value} {base : Heap} {N ps : List Str} {qual : Str} {scope : Scope} {f : Addr} {cd : Value} {A : Around} {outer : List Env} {s s1 : Shared} {H : Hp} {E : XK} {us : List Value} {vs : List V}
    (S : FnScope N ps scope) (hd : A.handled = none) (e0 : Env0 P w K mg base A outer s H) (hl : vs.length = ps.length) (r : Vals vs us)
    (x : InCallC s s.heap.objs.size (bindL (envOfC qual scope s.heap.objs.size f cd).kindOf (ps.zip us) fun _ => none) (cellsFrom (s.heap.objs.size + 1) scope.names []) (bindC (envOfC qual scope s.heap.objs.size f cd).kindOf (ps.zip us) fun _ => none) s1) :
    Inv (cxOf CX P w K mg base N qual scope f cd A outer s H E) [] (start N vs) H s1 := by
  have hpl : ps.length ≤ N.length := by have := congrArg List.length S.pre; rw [List.length_take] at this; omega
  obtain ⟨h1, tk, rfl, hk⟩ := x.done
  have noA : ∀ b : Addr, b ∉ (cxOf CX P w K mg base N qual scope f cd A outer s H E).ex := fun b z => absurd (show b ∈ ([] : List Addr) from z) (by simp)
  refine ⟨⟨e0.mod, S.kind, rfl, rfl, Nat.le_refl _, fun y z c h1 h2 => ?_, fun y hy => ?_, fun y c _ h => ?_, fun _ => hd, Around.frames_deeper e0.frames, .inr ⟨rfl, rfl⟩, fun b z => absurd z (noA b), e0.bs, e0.bsz, fun b _ _ => noA b, fun b z => absurd z (noA b), e0.funs, e0.frf⟩,
    rfl, e0.bare, Un.kept hk, ⟨_, x.toInCall.ns, fun i y v h1 h2 h3 => ?_⟩, fun y c h => ⟨_, x.cell y c h⟩, e0.hok.fresh (Nat.le_refl _), fun y c h => ?_, fun p hp => absurd (show p ∈ ([] : List (Addr × Obj)) from hp) (by simp), e0.hok.kept hk, ?_⟩
  · exact name_of_addr x.apart (PySem.mem_of_lookup h1) (PySem.mem_of_lookup h2)
  · have hy : scope.names.lookup y = some .cell ∨ scope.names.lookup y = some .free := hy
    rcases hy with hy | hy
    · exact cell_has hy
    · exact absurd rfl (S.nofree _ (PySem.mem_of_lookup hy))
  · exact Nat.le_of_lt (x.above y c (PySem.mem_of_lookup h))
  · have hi : i < vs.length := by
      unfold start at h2
      by_cases hi : i < vs.length
      · exact hi
      · rw [List.getElem?_append_right (by simpa using hi)] at h2
        rw [List.getElem?_replicate] at h2
        split at h2 <;> cases h2
    have ha : vs[i]? = some v := by
      unfold start at h2
      rw [List.getElem?_append_left (by simpa using hi), List.getElem?_map] at h2
      cases e : vs[i]? with
      | none => rw [e] at h2; cases h2
      | some a => rw [e] at h2; cases h2; rfl
    obtain ⟨u, hu, rv⟩ := r.get ha
    have hp : ps[i]? = some y := by
      rw [← S.pre, List.getElem?_take_of_lt (by omega)]; exact h1
    have ndP : ps.Nodup := by rw [← S.pre]; exact S.nd.sublist (List.take_sublist _ _)
    refine ⟨u, rv, ?_⟩
    rcases S.par y (List.mem_of_getElem? hp) with k | k
    · exact .inl ⟨k, bindL_get ndP hp hu k⟩
    · obtain ⟨c, e⟩ := cell_has (n := s.heap.objs.size + 1) k
      refine .inr ⟨.inl k, c, e, ?_⟩
      have q := x.cell y c e
      rw [bindC_get ndP hp hu (by show scope.names.lookup y ≠ _; rw [k]; decide)] at q
      exact q
  · exact e0.hok.fresh (Nat.le_of_lt (x.above y c (PySem.mem_of_lookup h)))
  · unfold start
    show _ = N.length
    rw [List.length_append, List.length_map, List.length_replicate]
    omega
theorem fn_of {CX : CXT} {P : Program} {w : World} {K : PySem.W.Frag} {mg : Str → Option Value} {base : Heap} {k : Nat} {f : Addr} {name qual : Str} {params : Arguments} {body : List Stmt} {scope : Scope} {dV kV doc pm cdv ct oc : Value} {an od : Option Addr}
    {osl : Array (Option Value)} {N ps : List Str} {sp : Sp} (lk : K.lookup f = some ⟨oc, od, .func (PySem.W.fnOf name qual params body scope dV kV doc pm an cdv ct), osl⟩) (hcd : PySem.W.codeIn K cdv qual = true) (S : FnScope N ps scope)
    (len : ∀ vs H Q E, sp vs H Q E → vs.length = ps.length)
    (hbody : ∀ (A : Around) (outer : List Env) (s : Shared) (H : Hp) (vs : List V) (Q : VK) (E : XK), Room k (A.deeper (envOfC qual scope s.heap.objs.size f cdv)) → sp vs H Q E →
      ∃ t, PSs (cxOf CX P w K mg base N qual scope f cdv A outer s H E) body t ∧ t { nx := fun _ H' => Q .non H', rt := Q } (start N vs) H) :
    FnOk P w K mg base CX (k + 1) f (PySem.W.fnOf name qual params body scope dV kV doc pm an cdv ct) ps sp := by
  refine ⟨len, fun A outer s H args us vs Q E hr e0 hb r hsp => ?_⟩
  have hl := len _ _ _ _ hsp
  have KX : K.In s.heap := e0.mod.kin.keeps fun b o e => (e0.bs b o e).1
  have lim : s.heap.NoLimit := e0.mod.nolimit.keeps fun b o e => (e0.bs b o e).1
  have hkind : ∀ y ∈ ps.zip us, scope.names.lookup y.1 = some .local ∨ (scope.names.lookup y.1 = some .cell ∧ ((cellsFrom (s.heap.objs.size + 1) scope.names []).lookup y.1).isSome = true) := fun ⟨n, v⟩ hy => by
    rcases S.par n (List.of_mem_zip hy).1 with q | q
    · exact .inl q
    · exact .inr ⟨q, PySem.W.cellsFrom_some _ _ _ (.inl q)⟩
  refine codeAny_call_function hr.depth (KX _ _ lk) rfl S.co S.gen rfl (PySem.W.codeRec_of KX hcd) (hb _ _ _ _ ?_)
  refine wpAny_newFunctionEnv_cells S.kind hkind fun env he s1 x => ?_
  subst he
  refine ⟨lim.keeps x.toInCall.keep, codeAny_func ?_⟩
  obtain ⟨t, ht, hq⟩ := hbody A outer s H vs Q E (hr.deeper _) hsp
  have I : Inv (cxOf CX P w K mg base N qual scope f cdv A outer s H E) [] (start N vs) H s1 := inv_start S hr.hd e0 hl r x
  refine wpAny_mono (ht [] s1 (start N vs) H _ I hq) (fun fl s' hs => ?_) fun e s' hs => hs
  have fin : ∀ {σ' : St} {H' : Hp} {v : V} {u : Value}, Inv (cxOf CX P w K mg base N qual scope f cdv A outer s H E) [] σ' H' s' → RelV v u → Q v H' → CE outer P w H s Q u s' :=
    fun {σ' H' v u} J rv q => ⟨v, H', J.os, J.bare, J.base, J.hok, rv, q⟩
  cases fl with
  | ret u =>
    obtain ⟨v, σ', H', J, rv, q⟩ := hs
    exact fin J rv q
  | next =>
    obtain ⟨σ', H', J, q⟩ := hs
    exact fin (v := V.non) (u := Value.none) J rfl q
  | brk =>
    obtain ⟨_, _, _, q⟩ := hs
    exact False.elim q
  | cont =>
    obtain ⟨_, _, _, q⟩ := hs
    exact False.elim q
end L2
namespace L2
open PySem PySem.Spec PyProof.Rows
section
variable {X : Cx} {x : Str} {p pos : Pos} {e : Expr} {es : List Expr} {t : TA} {id T : String} {r : List V → Hp → VK → Prop}
noncomputable def tCB (r : List V → Hp → VK → Prop) (t : TA) : TE := fun σ H Q => t σ H fun vs H1 => r vs H1 Q
theorem pe_callB (hc : CallR X (.builtin id) r) (hg : Gl X x) (hm : X.mg x = none) (hv : bootBuiltins x = some (.builtin id)) (ha : PA X (e :: es) t) (hn : x ≠ "__name__" := by decide) (hdb : (x == ("__debug__" : Str)) = false := by decide)
    (he : starEach (e :: es) X.env = (false, eval e X.env) :: starEach es X.env := by rfl) (hpl : (backTo pos (starEach es X.env)).any (·.1) = false := by rfl) : PE X (.Call (.Name x p) (e :: es) [] pos) (tCB r t) := by
  intro pins s σ H Q I h
  refine wpAny_Call_Name_kw (ld_blt I hg hm hv ?_ hn hdb)
  exact PyProof.Rows.callWith_builtin1 (thn (ha pos pins s σ H _ I h) fun us s1 ⟨vs, H1, I1, r1, q1⟩ => hc pins s1 σ H1 vs us Q I1 r1 q1) he hpl
theorem pe_callTy (hc : CallR X (.type T) r) (hg : Gl X x) (hm : X.mg x = none) (hv : bootBuiltins x = some (.type T)) (ha : PA X (e :: es) t) (hn : x ≠ "__name__" := by decide) (hdb : (x == ("__debug__" : Str)) = false := by decide)
    (he : starEach (e :: es) X.env = (false, eval e X.env) :: starEach es X.env := by rfl) (hpl : (backTo pos (starEach es X.env)).any (·.1) = false := by rfl) : PE X (.Call (.Name x p) (e :: es) [] pos) (tCB r t) := by
  intro pins s σ H Q I h
  refine wpAny_Call_Name_kw (ld_blt I hg hm hv ?_ hn hdb)
  exact PyProof.Rows.callWith_type1 (thn (ha pos pins s σ H _ I h) fun us s1 ⟨vs, H1, I1, r1, q1⟩ => hc pins s1 σ H1 vs us Q I1 r1 q1) he hpl
end
end L2
namespace HT
open PySem PyProof.Rows
section
open PySem.SeqAt
open PySem.AutoSeq1 (wpAny_loadPart')
open PySem.MeetsSeq PySem.MeetsSeq2 PySem.MeetsSeq3
end
section
variable {prog : Program} {w : World} {A : Around} {E : Value → Shared → Prop} {s : Shared}
theorem cat_tup {t b : Addr} {vs ws : List Value} {Q : Value → Shared → Prop} (ht : IsTup s.heap t vs.toArray) (hb : IsTup s.heap b ws.toArray) (hv : vs ≠ [])
    (h1 : ws = [] → Q (.ref t) s) (h2 : ws ≠ [] → Q (.ref s.heap.objs.size) { s with heap := s.heap.push { cls := .type "tuple", data := .seq (vs ++ ws).toArray } })
    (hsz : vs.length + ws.length ≤ sizeLine) : wpAny (model prog w) A (binaryOp .Add (.ref t) (.ref b)) Q E s := by
  obtain ⟨⟨cls, dd, data, sl⟩, ho, hc, n, hd⟩ := id ht
  obtain ⟨⟨cls2, dd2, data2, sl2⟩, ho2, hc2, n2, hd2⟩ := id hb
  simp only at hc hd hc2 hd2
  subst hc hd hc2 hd2
  have e : vs.toArray ++ ws.toArray = (vs ++ ws).toArray := by simp
  by_cases hw : ws = []
  · exact concat_meets ⟨_, ho, rfl⟩ ⟨_, ho2, rfl⟩ noFill_tuple_add seq_tuple_add PySem.F.slot_tuple_add PySem.F.entry_tuple_add (PySem.F.args_tuple_add_2 _ _)
      (tuple_addW1 t b vs.toArray ws.toArray n n2 dd dd2 sl sl2 (by simpa using hv) (by simp [hw])) ⟨ho, ho2, h1 hw⟩
  · refine concat_meets ⟨_, ho, rfl⟩ ⟨_, ho2, rfl⟩ noFill_tuple_add seq_tuple_add PySem.F.slot_tuple_add PySem.F.entry_tuple_add (PySem.F.args_tuple_add_2 _ _)
      (tuple_addW2 t b vs.toArray ws.toArray n n2 dd dd2 sl sl2 (by simpa using hv) (by simpa using hw) (by rw [List.size_toArray, List.size_toArray]; exact hsz)) ⟨ho, ho2, ?_⟩
    rw [e]
    exact h2 hw
noncomputable def sIx (n d : Nat) : Option Int → Nat
  | none => d
  | some v => if v < 0 then (v + (n : Int)).toNat else min v.toNat n
theorem sIx_le (n d : Nat) (hd : d ≤ n) (o : Option Int) : sIx n d o ≤ n := by
  cases o with
  | none => exact hd
  | some v =>
    show (if v < 0 then (v + (n : Int)).toNat else min v.toNat n) ≤ n
    by_cases hv : v < 0
    · rw [if_pos hv]; omega
    · rw [if_neg hv]; exact Nat.min_le_right _ _
theorem clip_eq (v : Int) (n d : Nat) : (if v < 0 then max (v + (n : Int)) 0 else min v (n : Int)) = ((sIx n d (some v) : Nat) : Int) := by
  show (if v < 0 then max (v + (n : Int)) 0 else min v (n : Int)) = (((if v < 0 then (v + (n : Int)).toNat else min v.toNat n) : Nat) : Int)
  by_cases hv : v < 0
  · simp only [if_pos hv]; omega
  · simp only [if_neg hv]; omega
theorem adjust_gen (lo hi : Option Int) (n : Nat) : Builtin.Slice.sliceAdjust lo hi 1 (n : Int) = (((sIx n 0 lo : Nat) : Int), ((sIx n n hi : Nat) : Int)) := by
  have h1 : ¬ ((1 : Int) < 0) := by omega
  unfold Builtin.Slice.sliceAdjust
  simp only [h1, if_false]
  refine Prod.ext ?_ ?_
  · cases lo with
    | none => rfl
    | some v => exact clip_eq v n 0
  · cases hi with
    | none => rfl
    | some v => exact clip_eq v n n
theorem places_gen (i j : Nat) : Builtin.Slice.slicePlaces (i : Int) (j : Int) 1 = j - i := by
  unfold Builtin.Slice.slicePlaces
  have h1 : (1 : Int) > 0 := by omega
  simp only [h1, if_true, Int.ediv_one]
  split <;> omega
theorem slicePart_ {v : Value} {o : Option Int} {Q : Option Int → Shared → Prop} (p : IsPart v o) (h : Q o s) : wpAny (model prog w) A (Builtin.Slice.slicePartIndex v) Q E s := by
  cases p with
  | none => exact slicePart_none h
  | int i t => exact slicePart_int h
theorem sliceApplied_gen {sl : Addr} {vl vu : Value} {lo hi : Option Int} {n : Nat} {Q : Int × Int × Nat → Shared → Prop} (hs : s.heap.IsSliceOf sl vl vu .none) (pl : IsPart vl lo) (pu : IsPart vu hi)
    (h : Q (((sIx n 0 lo : Nat) : Int), 1, sIx n n hi - sIx n 0 lo) s) : wpAny (model prog w) A (Builtin.Slice.sliceApplied (.ref sl) (pure (n : Int))) Q E s := by
  obtain ⟨os, hos, hcs, hds⟩ := id hs
  unfold Builtin.Slice.sliceApplied Builtin.Slice.sliceFields
  refine wpAny_bind (wpAny_bind (wpAny_field hos hds (x := vl) rfl (wpAny_bind (wpAny_field hos hds (x := vu) rfl (wpAny_bind (wpAny_field hos hds (x := .none) rfl (wpAny_pure ?_)))))))
  refine wpAny_bind (slicePart_none ?_)
  show wpAny _ _ (if ((1 : Int) == 0) = true then _ else _) _ _ s
  rw [if_neg (by decide)]
  refine wpAny_bind (slicePart_ pl (wpAny_bind (slicePart_ pu (wpAny_bind (wpAny_pure ?_)))))
  show wpAny _ _ (match Builtin.Slice.sliceAdjust lo hi 1 (n : Int) with | (lo, hi) => pure (lo, (1 : Int), Builtin.Slice.slicePlaces lo hi 1)) _ _ s
  rw [adjust_gen lo hi n]
  show wpAny _ _ (pure (((sIx n 0 lo : Nat) : Int), (1 : Int), Builtin.Slice.slicePlaces ((sIx n 0 lo : Nat) : Int) ((sIx n n hi : Nat) : Int) 1)) _ _ s
  rw [places_gen]
  exact wpAny_pure h
theorem pick_gen (xs : Array Value) (i k : Nat) : ((List.range k).filterMap fun (m : Nat) => xs[((i : Int) + (m : Int) * 1).toNat]?).toArray = ((xs.toList.drop i).take k).toArray := by
  have e : (fun (m : Nat) => xs[((i : Int) + (m : Int) * 1).toNat]?) = fun m => xs[i + m]? := by
    funext m
    have : ((i : Int) + (m : Int) * 1).toNat = i + m := by omega
    rw [this]
  rw [e]
  have := pick_run xs i k
  rw [List.filterMap_map] at this
  have e2 : ((fun x => xs[x]?) ∘ fun x => i + x) = fun m => xs[i + m]? := rfl
  rw [e2] at this
  rw [this]
theorem getItem_tuple_cut {t sl : Addr} {items : Array Value} {vl vu : Value} {lo hi : Option Int} {Q : Value → Shared → Prop} (ht : IsTup s.heap t items) (hs : s.heap.IsSliceOf sl vl vu .none) (pl : IsPart vl lo) (pu : IsPart vu hi)
    (hw : ¬ (sIx items.size 0 lo = 0 ∧ sIx items.size items.size hi = items.size))
    (h : Q (.ref s.heap.objs.size) { s with heap := s.heap.push { cls := .type "tuple", data := .seq ((items.toList.drop (sIx items.size 0 lo)).take (sIx items.size items.size hi - sIx items.size 0 lo)).toArray } })
    (hsz : items.size ≤ sizeLine) : wpAny (model prog w) A (getItem (.ref t) (.ref sl)) Q E s := by
  have htake : sizeOk (.seq ((items.toList.drop (sIx items.size 0 lo)).take (sIx items.size items.size hi - sIx items.size 0 lo)).toArray) := by
    show ((items.toList.drop (sIx items.size 0 lo)).take (sIx items.size items.size hi - sIx items.size 0 lo)).toArray.size ≤ sizeLine
    rw [List.size_toArray, List.length_take, List.length_drop, Array.length_toList]
    omega
  have hj : sIx items.size items.size hi ≤ items.size := sIx_le _ _ (Nat.le_refl _) hi
  obtain ⟨os, hos, hcs, hds⟩ := id hs
  have hTs : s.TypeIs (.ref sl) "slice" := ⟨os, hos, hcs⟩
  unfold getItem
  try with_reducible refine wpAny_holding ?_
  first | refine wpAny_bind (wpAny_pure ?_) | skip
  refine wpAny_bind (wpAny_sequenceKey ht.typeIs (by decide) ?_)
  refine wpAny_bind (wpAny_callSpecial?_slot (name := Str.ofString "__getitem__") ht.typeIs PyProof.Rows.slot_tuple_getitem
    (wpAny_call_entry PyProof.Rows.slot_tuple_getitem ht.typeIs entry_tuple_getitem ?_ (args_tuple_getitem _ _)))
  show wpAny _ _ (Builtin.Tuple.tupleItemsOf (.ref t) >>= _) _ _ s
  refine wpAny_bind (tupleItemsOf_ ht ?_)
  refine wpAny_bind (wpAny_typeOf hTs ?_)
  rw [if_pos (by decide)]
  refine wpAny_bind (sliceApplied_gen hs pl pu ?_)
  have hno : ¬ ((((sIx items.size 0 lo : Nat) : Int) == 0 && (1 : Int) == 1 && (sIx items.size items.size hi - sIx items.size 0 lo) == items.size) = true) := by
    intro q
    rw [Bool.and_eq_true, Bool.and_eq_true] at q
    have q1 : ((sIx items.size 0 lo : Nat) : Int) = 0 := eq_of_beq q.1.1
    have q2 : sIx items.size items.size hi - sIx items.size 0 lo = items.size := eq_of_beq q.2
    exact hw ⟨by omega, by omega⟩
  show wpAny _ _ (if (((sIx items.size 0 lo : Nat) : Int) == 0 && (1 : Int) == 1 && (sIx items.size items.size hi - sIx items.size 0 lo) == items.size) = true then _ else _) _ _ s
  rw [if_neg hno, pick_gen]
  first
    | exact wpAny_bind (m := Builtin.Tuple.tupleExact _) (wpAny_newObj_type (wpAny_pure ⟨_, rfl, wpAny_pure h⟩) htake)
    | exact wpAny_bind (m := Builtin.Tuple.tupleExact _) (wpAny_newObj_type (wpAny_bind (wpAny_pure (wpAny_pure ⟨_, rfl, wpAny_pure h⟩))) htake)
    | exact wpAny_bind (wpAny_bind (m := Builtin.Tuple.tupleExact _) (wpAny_newObj_type (wpAny_pure (wpAny_pure ⟨_, rfl, wpAny_pure h⟩)) htake))
    | exact wpAny_bind (wpAny_bind (m := Builtin.Tuple.tupleExact _) (wpAny_newObj_type (wpAny_pure ⟨_, rfl, wpAny_pure h⟩) htake))
end
end HT
namespace L2
open PySem PySem.Spec PyProof.Rows
noncomputable abbrev TO := St → Hp → (Option Int → Hp → Prop) → Prop
noncomputable def PO (X : Cx) (e : Option Expr) (t : TO) : Prop :=
  ∀ (pins : List (Addr × Obj)) (s : Shared) (σ : St) (H : Hp) (Q : Option Int → Hp → Prop), Inv X pins σ H s → t σ H Q →
    wpAny (model X.prog X.w) X.A (evalPart e X.env) (fun u s' => ∃ o H', Inv X pins σ H' s' ∧ IsPart u o ∧ Q o H') X.xe s
noncomputable def tNoPart : TO := fun _ H Q => Q none H
noncomputable def tPart (t : TE) : TO := fun σ H Q => t σ H fun x H1 => ∃ i, x = .int i ∧ Q (some i) H1
section
variable {X : Cx} {e : Expr} {te : TE} {lo hi : Option Expr} {tl th : TO} {pos p2 : Pos}
theorem po_none : PO X none tNoPart := by
  intro pins s σ H Q I h
  rw [evalPart_none]
  exact wpAny_pure ⟨none, H, I, .none, h⟩
theorem po_some (h : PE X e te) : PO X (some e) (tPart te) := by
  intro pins s σ H Q I hw
  rw [evalPart_some]
  refine thn (h pins s σ H _ I hw) fun u s1 ⟨x, H1, I1, r1, q1⟩ => ?_
  obtain ⟨i, rfl, q⟩ := q1
  obtain ⟨t, rfl⟩ := r1
  exact ⟨some i, H1, I1, .int i t, q⟩
noncomputable def SlR (X : Cx) (r : V → Option Int → Option Int → Hp → VK → Prop) : Prop :=
  ∀ (pins : List (Addr × Obj)) (s : Shared) (σ : St) (H : Hp) (x : V) (v vl vu : Value) (lo hi : Option Int) (sl : Addr) (Q : VK), Inv X pins σ H s → RelV x v → s.heap.IsSliceOf sl vl vu .none → IsPart vl lo → IsPart vu hi → r x lo hi H Q →
    ∃ T id, typeLookup (.type T) "__getitem__" = pure (some (.builtin id)) ∧ s.TypeIs v T ∧ wpAny (model X.prog X.w) X.A (getItem v (.ref sl)) (EP X pins σ Q) X.xe s
theorem SlR.or {r r' : V → Option Int → Option Int → Hp → VK → Prop} (h : SlR X r) (h' : SlR X r') : SlR X (fun x lo hi H Q => r x lo hi H Q ∨ r' x lo hi H Q) := by
  intro pins s σ H x v vl vu lo hi sl Q I rx hs pl pu q
  rcases q with q | q
  · exact h pins s σ H x v vl vu lo hi sl Q I rx hs pl pu q
  · exact h' pins s σ H x v vl vu lo hi sl Q I rx hs pl pu q
noncomputable def tSl (r : V → Option Int → Option Int → Hp → VK → Prop) (te : TE) (tl th : TO) : TE := fun σ H Q => te σ H fun x H1 => tl σ H1 fun l H2 => th σ H2 fun u H3 => r x l u H3 Q
theorem pe_slice {r : V → Option Int → Option Int → Hp → VK → Prop} (hr : SlR X r) (he : PE X e te) (hl : PO X lo tl) (hu : PO X hi th) : PE X (.Subscript e (.Slice lo hi none p2) pos) (tSl r te tl th) := by
  intro pins s σ H Q I h
  refine Subscript_ (thn (he pins s σ H _ I h) fun v s1 ⟨x, H1, I1, r1, q1⟩ => ?_)
  refine wpAny_Slice (thn (hl pins s1 σ H1 _ I1 q1) fun vl s2 ⟨l, H2, I2, pl, q2⟩ => thn (hu pins s2 σ H2 _ I2 q2) fun vu s3 ⟨u, H3, I3, pu, q3⟩ => ?_)
  rw [evalPart_none]
  refine wpAny_pure ?_
  have I4 : Inv X pins σ H3 { s3 with heap := s3.heap.push { cls := .type "slice", data := .fields #[vl, vu, .none] } } := I3.kept (t' := s3.toks) fun b ob q => Heap.get?_push_of_some _ q
  obtain ⟨T, id, hT, ht, hg⟩ := hr pins { s3 with heap := s3.heap.push { cls := .type "slice", data := .fields #[vl, vu, .none] } } σ H3 x v vl vu l u s3.heap.objs.size Q I4 r1 (Heap.IsSliceOf.new ..) pl pu q3
  show wpAny (model X.prog X.w) X.A (subscriptTail e (.Slice lo hi none p2) v (.ref s3.heap.objs.size)) (EP X pins σ Q) X.xe { s3 with heap := s3.heap.push { cls := .type "slice", data := .fields #[vl, vu, .none] } }
  exact tail_any (ops := [.ref s3.heap.objs.size, v]) ht hT hg (by with_unfolding_all rfl)
noncomputable def cutV (xs : List V) (lo hi : Option Int) : List V := (xs.drop (HT.sIx xs.length 0 lo)).take (HT.sIx xs.length xs.length hi - HT.sIx xs.length 0 lo)
theorem cutV_length (xs : List V) (lo hi : Option Int) : (cutV xs lo hi).length ≤ xs.length := by
  unfold cutV
  rw [List.length_take, List.length_drop]
  omega
noncomputable def rSlT (K : PySem.W.Frag) : V → Option Int → Option Int → Hp → VK → Prop := fun x lo hi H Q => ∃ a xs, x = .ref a ∧ SqT K H a xs ∧
  ¬ (HT.sIx xs.length 0 lo = 0 ∧ HT.sIx xs.length xs.length hi = xs.length) ∧ ∀ p, H p = none → Q (.ref p) (upd H p (.tup (cutV xs lo hi)))
theorem sl_tup : SlR X (rSlT X.K) := by
  intro pins s σ H x v vl vu lo hi sl Q I rx hs pl pu h
  obtain ⟨a, xs, rfl, hx, hw, q⟩ := h
  cases rx
  obtain ⟨its, r, ht, hz⟩ := I.tuple hx
  have hlen : its.toArray.size = xs.length := by rw [List.size_toArray]; exact r.length.symm
  refine ⟨"tuple", _, PyProof.Rows.slot_tuple_getitem.lookup, ht.typeIs, ?_⟩
  refine HT.getItem_tuple_cut ht hs pl pu (by rw [hlen]; exact hw) ?_ (by rw [hlen]; exact hz)
  rw [hlen]
  refine ⟨.ref s.heap.objs.size, _, I.laid (t' := s.toks) (o := .tup (cutV xs lo hi)) (fun b ob q => Heap.get?_push_of_some _ q) (Nat.le_refl _) ?_, rfl, q _ (I.hok.fresh (Nat.le_refl _))⟩
  exact ⟨Nat.le_trans (cutV_length xs lo hi) hz, _, (r.drop (HT.sIx xs.length 0 lo)).take (HT.sIx xs.length xs.length hi - HT.sIx xs.length 0 lo), IsTup.new _ _⟩
noncomputable def rCatT (K : PySem.W.Frag) : R2 := fun x y H Q => ∃ a b xs ys, x = .ref a ∧ y = .ref b ∧ SqT K H a xs ∧ SqT K H b ys ∧ xs ≠ [] ∧ xs.length + ys.length ≤ sizeLine ∧
  (ys = [] → Q (.ref a) H) ∧ (ys ≠ [] → ∀ p, H p = none → Q (.ref p) (upd H p (.tup (xs ++ ys))))
theorem Vals.nil_iff {xs : List V} {us : List Value} (r : Vals xs us) : us = [] ↔ xs = [] := by
  cases r with
  | nil => simp
  | cons _ _ => simp
theorem op_catT : OpR X (binaryOp .Add) (rCatT X.K) := by
  intro pins s σ H x y v u Q I rx ry h
  obtain ⟨a, b, xs, ys, rfl, rfl, ha, hb, hx, hz, q1, q2⟩ := h
  cases rx
  cases ry
  obtain ⟨its, r1, p1, _⟩ := I.tuple ha
  obtain ⟨its2, r2, p2, _⟩ := I.tuple hb
  refine HT.cat_tup p1 p2 (fun z => hx (r1.nil_iff.mp z)) (fun z => ⟨.ref a, H, I, rfl, q1 (r2.nil_iff.mp z)⟩) (fun z => ?_) (by rw [← r1.length, ← r2.length]; exact hz)
  refine ⟨.ref s.heap.objs.size, _, I.laid (t' := s.toks) (o := .tup (xs ++ ys)) (fun b ob q => Heap.get?_push_of_some _ q) (Nat.le_refl _) ?_, rfl, q2 (fun w => z (r2.nil_iff.mpr w)) _ (I.hok.fresh (Nat.le_refl _))⟩
  exact ⟨by rw [List.length_append]; exact hz, _, r1.append r2, IsTup.new _ _⟩
end
end L2
namespace L2
open PySem PySem.Spec PyProof.Rows
noncomputable def ixN (n : Nat) (i : Int) : Option Nat := if 0 ≤ i then (if i < n then some i.toNat else none) else if -(n : Int) ≤ i then some (i + n).toNat else none
noncomputable def atI {α : Type} (xs : List α) (i : Int) : Option α := (ixN xs.length i).bind fun j => xs[j]?
theorem ixN_seq {n : Nat} {i : Int} {j : Nat} (h : ixN n i = some j) : seqIndex? i n = some j ∧ j < n ∧ -(n : Int) ≤ i ∧ i < n := by
  unfold ixN at h
  by_cases h0 : 0 ≤ i
  · rw [if_pos h0] at h
    by_cases h1 : i < n
    · rw [if_pos h1] at h
      have e : i.toNat = j := Option.some.inj h
      exact ⟨by rw [seqIndex_of h0 h1, e], by omega, by omega, h1⟩
    · rw [if_neg h1] at h; cases h
  · rw [if_neg h0] at h
    by_cases h1 : -(n : Int) ≤ i
    · rw [if_pos h1] at h
      have e : (i + n).toNat = j := Option.some.inj h
      exact ⟨by rw [seqIndex_neg (by omega) h1, e], by omega, h1, by omega⟩
    · rw [if_neg h1] at h; cases h
theorem atI_get {α : Type} {xs : List α} {i : Int} {v : α} (h : atI xs i = some v) : ∃ j, seqIndex? i xs.length = some j ∧ xs[j]? = some v ∧ j < xs.length ∧ -(xs.length : Int) ≤ i ∧ i < xs.length := by
  unfold atI at h
  cases e : ixN xs.length i with
  | none => rw [e] at h; cases h
  | some j =>
    rw [e] at h
    obtain ⟨h1, h2, h3, h4⟩ := ixN_seq e
    exact ⟨j, h1, h, h2, h3, h4⟩
theorem atI_nat {α : Type} {xs : List α} {j : Nat} {v : α} (h : xs[j]? = some v) : atI xs (j : Int) = some v := by
  have hj : j < xs.length := (List.getElem?_eq_some_iff.mp h).1
  have e : ixN xs.length (j : Int) = some j := by
    unfold ixN
    rw [if_pos (by omega), if_pos (by omega)]; simp
  unfold atI; rw [e]; exact h
noncomputable def PlainIx (b : Expr) : Prop := ∀ o i, subscripted b false o i = operate [o, i] (getItem o i)
noncomputable def IxR (X : Cx) (r : R2) : Prop :=
  ∀ (value slice : Expr) (pins : List (Addr × Obj)) (s : Shared) (σ : St) (H : Hp) (x y : V) (v u : Value) (Q : VK), Inv X pins σ H s → RelV x v → RelV y u → r x y H Q →
    subscripted slice false v u = operate [v, u] (getItem v u) → wpAny (model X.prog X.w) X.A (subscriptTail value slice v u) (EP X pins σ Q) X.xe s
noncomputable def MtR (X : Cx) (id : String) (r : V → List V → Hp → VK → Prop) : Prop :=
  ∀ (pins : List (Addr × Obj)) (s : Shared) (σ : St) (H : Hp) (x : V) (xs : List V) (v : Value) (us : List Value) (Q : VK), Inv X pins σ H s → RelV x v → Vals xs us → r x xs H Q →
    wpAny (model X.prog X.w) X.A (call (.builtin id) (v :: us)) (EP X pins σ Q) X.xe s
section
variable {X : Cx} {a b : Expr} {ta tb : TE} {pos : Pos}
theorem IxR.or {r r' : R2} (h : IxR X r) (h' : IxR X r') : IxR X (fun x y H Q => r x y H Q ∨ r' x y H Q) := by
  intro value slice pins s σ H x y v u Q I rx ry q hs
  rcases q with q | q
  · exact h value slice pins s σ H x y v u Q I rx ry q hs
  · exact h' value slice pins s σ H x y v u Q I rx ry q hs
theorem pe_ix {r : R2} (hr : IxR X r) (ha : PE X a ta) (hb : PE X b tb) (hs : PlainIx b) : PE X (.Subscript a b pos) (tOp r ta tb) := by
  intro pins s σ H Q I h
  exact Subscript_ (binT ha hb I h fun v u s2 x y H2 I2 rx ry q => hr a b pins s2 σ H2 x y v u Q I2 rx ry q (hs _ _))
noncomputable def rIxL (K : PySem.W.Frag) : R2 := fun x y H Q => ∃ p xs i v, x = .ref p ∧ y = .int i ∧ SqL K H p xs ∧ atI xs i = some v ∧ Q v H
noncomputable def rIxT (K : PySem.W.Frag) : R2 := fun x y H Q => ∃ p xs i v, x = .ref p ∧ y = .int i ∧ SqT K H p xs ∧ atI xs i = some v ∧ Q v H
noncomputable def rIxS : R2 := fun x y H Q => ∃ z i c, x = .str z ∧ y = .int i ∧ z.length ≤ sizeLine ∧ atI z.cps.toList i = some c ∧ Q (.str ⟨#[c]⟩) H
theorem ix_list : IxR X (rIxL X.K) := by
  intro value slice pins s σ H x y v u Q I rx ry h hs
  obtain ⟨p, xs, i, z, rfl, rfl, hq, he, q⟩ := h
  cases rx
  obtain ⟨t, rfl⟩ := ry
  obtain ⟨its, r, pl, hz⟩ := I.list hq
  obtain ⟨j, h1, h2, h3, h4, h5⟩ := atI_get he
  obtain ⟨w, ew, rw'⟩ := r.get h2
  have hl := r.length
  have hn := line63
  have fin : EP X pins σ Q w s := ⟨z, H, I, rw', q⟩
  by_cases h0 : 0 ≤ i
  · have hj : i.toNat = j := by
      rw [seqIndex_of h0 h5] at h1
      exact Option.some.inj h1
    exact item_listR pl.isList h0 (by omega) (by rw [hj]; simpa using ew) fin hs
  · have hj : (i + (its.toArray.size : Int)).toNat = j := by
      rw [seqIndex_neg (by omega) h4] at h1
      rw [List.size_toArray, ← hl]
      exact Option.some.inj h1
    exact subscriptTail_builtinR (x := w) pl.isList.typeIs slot_list_getitem.lookup
      (wpAny_getItem_list_neg (Q := fun r s' => r = w ∧ EP X pins σ Q r s') pl.isList (by omega) (by rw [List.size_toArray] <;> omega) (by omega) (by rw [hj]; simpa using ew) ⟨rfl, fin⟩) hs
theorem ix_tup : IxR X (rIxT X.K) := by
  intro value slice pins s σ H x y v u Q I rx ry h hs
  obtain ⟨p, xs, i, z, rfl, rfl, hq, he, q⟩ := h
  cases rx
  obtain ⟨t, rfl⟩ := ry
  obtain ⟨its, r, pl, hz⟩ := I.tuple hq
  obtain ⟨j, h1, h2, h3, h4, h5⟩ := atI_get he
  obtain ⟨w, ew, rw'⟩ := r.get h2
  have hl := r.length
  have hn := line63
  have fin : EP X pins σ Q w s := ⟨z, H, I, rw', q⟩
  exact subscriptTail_builtinR (x := w) pl.typeIs slot_tuple_getitem.lookup
    (getItem_tuple (j := j) (Q := fun r s' => r = w ∧ EP X pins σ Q r s') pl (by omega) (by omega) (by rw [List.size_toArray, ← hl]; exact h1) (by simpa using ew) ⟨rfl, fin⟩) hs
theorem ix_str : IxR X rIxS := by
  intro value slice pins s σ H x y v u Q I rx ry h hs
  obtain ⟨z, i, c, rfl, rfl, hz, he, q⟩ := h
  obtain ⟨t, rfl⟩ := rx
  obtain ⟨t', rfl⟩ := ry
  obtain ⟨j, h1, h2, h3, h4, h5⟩ := atI_get he
  have hl : z.cps.toList.length = z.length := by simp [Str.length]
  rw [hl] at h1 h4 h5
  have hn := line63
  exact tail_any (typeIs_str s z t) slot_str_getitem.lookup (getItem_str (c := c) (by
    have e1 : decide (i < -(2 ^ 63 : Int)) = false := decide_eq_false (by omega)
    have e2 : decide (i ≥ 2 ^ 63) = false := decide_eq_false (by omega)
    rw [e1, e2, Bool.or_false]) (by rw [h1]; simpa using h2) ⟨.str ⟨#[c]⟩, H, I.tok _, ⟨_, rfl⟩, q⟩) hs
noncomputable def rIx (K : PySem.W.Frag) : R2 := fun x y H Q => rIxL K x y H Q ∨ rIxT K x y H Q ∨ rIxS x y H Q
theorem ix_seq : IxR X (rIx X.K) := ix_list.or (ix_tup.or ix_str)
theorem slice_bounds (lo hi : Option Int) (n : Nat) : (sliceBounds lo hi none n).1 = ((HT.sIx n 0 lo : Nat) : Int) ∧ (sliceBounds lo hi none n).2.1 = ((HT.sIx n n hi : Nat) : Int) ∧ (sliceBounds lo hi none n).2.2 = 1 := by
  refine ⟨?_, ?_, rfl⟩
  · cases lo with
    | none => simp [sliceBounds, HT.sIx]
    | some i =>
      simp only [sliceBounds, HT.sIx, Option.getD_none, show (1 : Int) > 0 by decide, if_true]
      by_cases h : i < 0
      · simp only [h, if_true] <;> omega
      · simp only [h, if_false] <;> omega
  · cases hi with
    | none => simp [sliceBounds, HT.sIx]
    | some i =>
      simp only [sliceBounds, HT.sIx, Option.getD_none, show (1 : Int) > 0 by decide, if_true]
      by_cases h : i < 0
      · simp only [h, if_true] <;> omega
      · simp only [h, if_false] <;> omega
theorem slicePick_cut (its : List Value) (lo hi : Option Int) : slicePick its.toArray lo hi none = ((its.drop (HT.sIx its.length 0 lo)).take (HT.sIx its.length its.length hi - HT.sIx its.length 0 lo)).toArray := by
  obtain ⟨h1, h2, h3⟩ := slice_bounds lo hi its.toArray.size
  unfold slicePick
  rw [h1, h2, h3]
  simp only [sliceRange_one, pick_run, List.size_toArray] <;> rfl
noncomputable def rSlL (K : PySem.W.Frag) : V → Option Int → Option Int → Hp → VK → Prop := fun x lo hi H Q => ∃ a xs, x = .ref a ∧ SqL K H a xs ∧ ∀ p, H p = none → Q (.ref p) (upd H p (.lst (cutV xs lo hi)))
theorem sl_list : SlR X (rSlL X.K) := by
  intro pins s σ H x v vl vu lo hi sl Q I rx hs pl pu h
  obtain ⟨a, xs, rfl, hx, q⟩ := h
  cases rx
  obtain ⟨its, r, ht, hz⟩ := I.list hx
  have hlen := r.length
  refine ⟨"list", _, slot_list_getitem.lookup, ht.isList.typeIs, ?_⟩
  refine wpAny_getItem_list_slice ht.isList hs pl pu .none (by simp) ?_ (by rw [List.size_toArray] <;> omega)
  rw [slicePick_cut, ← hlen]
  refine ⟨.ref s.heap.objs.size, _, I.laid (t' := s.toks) (o := .lst (cutV xs lo hi)) (fun b ob q => Heap.get?_push_of_some _ q) (Nat.le_refl _) ?_, rfl, q _ (I.hok.fresh (Nat.le_refl _))⟩
  exact ⟨Nat.le_trans (cutV_length xs lo hi) hz, _, 0, (r.drop (HT.sIx xs.length 0 lo)).take (HT.sIx xs.length xs.length hi - HT.sIx xs.length 0 lo), Heap.get?_push_size _ rfl⟩
noncomputable def flatV : V → Bool
  | .non => true
  | .bl _ => true
  | .int _ => true
  | .str _ => true
  | _ => false
noncomputable def eqV : V → V → Bool
  | .non, .non => true
  | .bl a, .bl b => a == b
  | .bl a, .int b => (if a then 1 else 0) == b
  | .int a, .bl b => a == (if b then 1 else 0)
  | .int a, .int b => a == b
  | .str a, .str b => a == b
  | _, _ => false
theorem eqAt_V {A : Around} {s : Shared} {y x : V} {u v : Value} (ry : RelV y u) (rx : RelV x v) (fy : flatV y = true) (fx : flatV x = true) : SeqAt.EqAt A s u v (eqV y x) := by
  cases y with
  | non =>
    cases ry
    cases x with
    | non => cases rx; exact SeqAt.EqAt.same _
    | bl b => cases rx; exact SeqAt.EqAt.none_bool b
    | int b => obtain ⟨t, rfl⟩ := rx; exact SeqAt.EqAt.none_int b t
    | str b => obtain ⟨t, rfl⟩ := rx; exact SeqAt.EqAt.none_str b t
    | _ => exact absurd (show false = true from fx) Bool.false_ne_true
  | bl a =>
    cases ry
    cases x with
    | non => cases rx; exact SeqAt.EqAt.bool_none a
    | bl b => cases rx; exact SeqAt.EqAt.bool_bool a b
    | int b => obtain ⟨t, rfl⟩ := rx; exact SeqAt.EqAt.bool_int a b t
    | str b => obtain ⟨t, rfl⟩ := rx; exact SeqAt.EqAt.bool_str a b t
    | _ => exact absurd (show false = true from fx) Bool.false_ne_true
  | int a =>
    obtain ⟨t', rfl⟩ := ry
    cases x with
    | non => cases rx; exact SeqAt.EqAt.int_none a t'
    | bl b => cases rx; exact SeqAt.EqAt.int_bool a t' b
    | int b => obtain ⟨t, rfl⟩ := rx; exact SeqAt.EqAt.int_int a t' b t
    | str b => obtain ⟨t, rfl⟩ := rx; exact SeqAt.EqAt.int_str a t' b t
    | _ => exact absurd (show false = true from fx) Bool.false_ne_true
  | str a =>
    obtain ⟨t', rfl⟩ := ry
    cases x with
    | non => cases rx; exact SeqAt.EqAt.str_none a t'
    | bl b => cases rx; exact SeqAt.EqAt.str_bool a t' b
    | int b => obtain ⟨t, rfl⟩ := rx; exact SeqAt.EqAt.str_int a t' b t
    | str b => obtain ⟨t, rfl⟩ := rx; exact SeqAt.EqAt.str_str a t' b t
    | _ => exact absurd (show false = true from fx) Bool.false_ne_true
  | _ => exact absurd (show false = true from fy) Bool.false_ne_true
noncomputable def eqU (x : V) (u : Value) : Bool := match u with
  | .none => eqV .non x
  | .bool b => eqV (.bl b) x
  | .int i _ => eqV (.int i) x
  | .str z _ => eqV (.str z) x
  | _ => false
theorem eqU_of {x y : V} {u : Value} (r : RelV y u) (f : flatV y = true) : eqU x u = eqV y x := by
  cases y with
  | non => cases r; rfl
  | bl b => cases r; rfl
  | int i => obtain ⟨t, rfl⟩ := r; rfl
  | str z => obtain ⟨t, rfl⟩ := r; rfl
  | _ => exact absurd (show false = true from f) Bool.false_ne_true
theorem any_eqU {x : V} : ∀ {xs : List V} {us : List Value}, Vals xs us → xs.all flatV = true → us.any (eqU x) = xs.any fun y => eqV y x
  | _, _, .nil, _ => rfl
  | y :: xs, u :: us, .cons r t, f => by
    rw [List.all_cons, Bool.and_eq_true] at f
    rw [List.any_cons, List.any_cons, eqU_of r f.1, any_eqU t f.2]
theorem mem_eqAt {A : Around} {s : Shared} {x : V} {v : Value} (rx : RelV x v) (fx : flatV x = true) : ∀ {xs : List V} {us : List Value}, Vals xs us → xs.all flatV = true → ∀ u ∈ us, SeqAt.EqAt A s u v (eqU x u)
  | _, _, .nil, _ => fun u hu => by cases hu
  | y :: xs, u :: us, .cons r t, f => fun u' hu => by
    rw [List.all_cons, Bool.and_eq_true] at f
    rcases List.mem_cons.mp hu with rfl | hu
    · rw [eqU_of r f.1]; exact eqAt_V r rx f.1 fx
    · exact mem_eqAt rx fx t f.2 u' hu
noncomputable def inV (x : V) (xs : List V) : Bool := xs.any fun y => eqV y x
noncomputable def rIn (K : PySem.W.Frag) (neg : Bool) : R2 := fun x y H Q => ∃ p xs, y = .ref p ∧ (SqL K H p xs ∨ SqT K H p xs) ∧ flatV x = true ∧ xs.all flatV = true ∧ Q (.bl (if neg then !inV x xs else inV x xs)) H
theorem op_in_seq : OpR X (compareOp .In) (rIn X.K false) := by
  intro pins s σ H x y v u Q I rx ry h
  obtain ⟨p, xs, rfl, hq, fx, fs, q⟩ := h
  cases ry
  rcases hq with hq | hq
  · obtain ⟨its, r, pl, hz⟩ := I.list hq
    refine SeqAt.in_listAt (eqU x) pl.isList (fun w hw => mem_eqAt rx fx r fs w (by simpa using hw)) ⟨.bl _, H, I, rfl, ?_⟩
    rw [show its.toArray.any (eqU x) = its.any (eqU x) by simp, any_eqU r fs]
    exact q
  · obtain ⟨its, r, pl, hz⟩ := I.tuple hq
    refine SeqAt.in_tupleAt (eqU x) pl (fun w hw => mem_eqAt rx fx r fs w (by simpa using hw)) ⟨.bl _, H, I, rfl, ?_⟩
    rw [show its.toArray.any (eqU x) = its.any (eqU x) by simp, any_eqU r fs]
    exact q
theorem op_notIn_seq : OpR X (compareOp .NotIn) (rIn X.K true) := by
  intro pins s σ H x y v u Q I rx ry h
  obtain ⟨p, xs, rfl, hq, fx, fs, q⟩ := h
  cases ry
  rcases hq with hq | hq
  · obtain ⟨its, r, pl, hz⟩ := I.list hq
    refine SeqAt.notIn_listAt (eqU x) pl.isList (fun w hw => mem_eqAt rx fx r fs w (by simpa using hw)) ⟨.bl _, H, I, rfl, ?_⟩
    rw [show its.toArray.any (eqU x) = its.any (eqU x) by simp, any_eqU r fs]
    exact q
  · obtain ⟨its, r, pl, hz⟩ := I.tuple hq
    refine SeqAt.notIn_tupleAt (eqU x) pl (fun w hw => mem_eqAt rx fx r fs w (by simpa using hw)) ⟨.bl _, H, I, rfl, ?_⟩
    rw [show its.toArray.any (eqU x) = its.any (eqU x) by simp, any_eqU r fs]
    exact q
theorem call_len_seq : CallR X (.builtin "len") (fun xs H Q => ∃ p ys, xs = [.ref p] ∧ (SqL X.K H p ys ∨ SqT X.K H p ys) ∧ Q (.int ys.length) H) := by
  intro pins s σ H xs us Q I r h
  obtain ⟨p, ys, rfl, hq, q⟩ := h
  obtain ⟨u, rfl, rx⟩ := vals1 r
  cases rx
  have hn := line63
  rcases hq with hq | hq
  · obtain ⟨its, r', pl, hz⟩ := I.list hq
    have hlen := r'.length
    exact Calls.call_len_list pl.isList (by simp only [List.size_toArray] <;> omega) ⟨.int ys.length, H, I.tok _, ⟨s.toks + 1, by rw [List.size_toArray, hlen]⟩, q⟩
  · obtain ⟨its, r', pl, hz⟩ := I.tuple hq
    have hlen := r'.length
    exact len_tuple pl (by simp only [List.size_toArray] <;> omega) ⟨.int ys.length, H, I.tok _, ⟨s.toks + 1, by rw [List.size_toArray, hlen]⟩, q⟩
theorem call_len_str : CallR X (.builtin "len") (fun xs H Q => ∃ z, xs = [.str z] ∧ z.length ≤ sizeLine ∧ Q (.int z.length) H) := by
  intro pins s σ H xs us Q I r h
  obtain ⟨z, rfl, hz, q⟩ := h
  obtain ⟨u, rfl, t, rfl⟩ := vals1 r
  have hn := line63
  exact len_str (by omega) ⟨.int z.length, H, I.tok _, ⟨_, rfl⟩, q⟩
theorem CallR.or {f : Value} {r r' : List V → Hp → VK → Prop} (h : CallR X f r) (h' : CallR X f r') : CallR X f (fun xs H Q => r xs H Q ∨ r' xs H Q) := by
  intro pins s σ H xs us Q I rs q
  rcases q with q | q
  · exact h pins s σ H xs us Q I rs q
  · exact h' pins s σ H xs us Q I rs q
theorem call_tuple_of : CallR X (.type "tuple") (fun xs H Q => ∃ p ys, xs = [.ref p] ∧ ((SqL X.K H p ys ∧ ∀ l, H l = none → Q (.ref l) (upd H l (.tup ys))) ∨ (SqT X.K H p ys ∧ Q (.ref p) H))) := by
  intro pins s σ H xs us Q I r h
  obtain ⟨p, ys, rfl, h⟩ := h
  obtain ⟨u, rfl, rx⟩ := vals1 r
  cases rx
  rcases h with ⟨hq, q⟩ | ⟨hq, q⟩
  · obtain ⟨its, r', pl, hz⟩ := I.list hq
    have hlen := r'.length
    refine call_tuple_list pl.isList (fun h' kp => ?_) (by simp only [List.size_toArray] <;> omega)
    have I1 : Inv X pins σ H { s with heap := h' } := I.kept (t' := s.toks) kp
    have I2 : Inv X pins σ (upd H h'.objs.size (.tup ys)) { s with heap := h'.push { cls := .type "tuple", data := .seq its.toArray } } :=
      I1.laid (t' := s.toks) (fun b o e => Heap.get?_push_of_some _ e) (Nat.le_refl _) (show ObjOk X.prog X.w _ _ _ (.tup ys) from ⟨hz, its, r', IsTup.new _ _⟩)
    exact ⟨.ref h'.objs.size, _, I2, rfl, q _ (I1.hok.fresh (Nat.le_refl _))⟩
  · obtain ⟨its, r', pl, hz⟩ := I.tuple hq
    exact call_tuple_same pl ⟨.ref p, H, I, rfl, q⟩
noncomputable def tyV (K : PySem.W.Frag) (T : String) (x : V) (H : Hp) : Prop := match x with
  | .str _ => T = "str"
  | .int _ => T = "int"
  | .ref p => (T = "list" ∧ ∃ xs, SqL K H p xs) ∨ (T = "tuple" ∧ ∃ o, K.lookup p = some o ∧ o.cls = .type "tuple" ∧ o.dict = none) ∨
      (T = "dict" ∧ ((∃ kvs, H p = some (.dK kvs)) ∨ ∃ kvs, H p = some (.dT kvs))) ∨ (T = "set" ∧ ∃ S n, H p = some (.set S n))
  | _ => False
theorem tyV_is {pins : List (Addr × Obj)} {σ : St} {H : Hp} {s : Shared} {T : String} {x : V} {v : Value} (I : Inv X pins σ H s) (r : RelV x v) (ty : tyV X.K T x H) :
    s.TypeIs v T ∧ ∀ a, v = .ref a → ∃ ob, s.heap.get? a = some ob ∧ ob.dict = none := by
  cases x with
  | str z =>
    obtain ⟨t, rfl⟩ := r
    cases (show T = "str" from ty)
    exact ⟨typeIs_str s z t, fun _ e => nomatch e⟩
  | int i =>
    obtain ⟨t, rfl⟩ := r
    cases (show T = "int" from ty)
    exact ⟨typeIs_int s i t, fun _ e => nomatch e⟩
  | ref p =>
    cases r
    rcases ty with ⟨rfl, xs, hq⟩ | ⟨rfl, o, hk, hc, hd⟩ | ⟨rfl, hk⟩ | ⟨rfl, S, n, hk⟩
    · obtain ⟨its, _, pl, _⟩ := I.list hq
      refine ⟨pl.isList.typeIs, fun a e => ?_⟩
      cases e
      obtain ⟨o, n, e, c, hd, _⟩ := pl
      exact ⟨o, e, hd⟩
    · refine ⟨⟨o, I.kIn p o hk, hc⟩, fun a e => ?_⟩
      cases e
      exact ⟨o, I.kIn _ o hk, hd⟩
    · have z : ∃ o, s.heap.get? p = some o ∧ o.ExactDict := by
        rcases hk with ⟨kvs, hk⟩ | ⟨kvs, hk⟩
        · obtain ⟨_, _, _, _, o, _, _, e, ex, _⟩ := I.hok p _ hk
          exact ⟨o, e, ex⟩
        · obtain ⟨_, _, _, _, o, _, _, e, ex, _⟩ := I.hok p _ hk
          exact ⟨o, e, ex⟩
      obtain ⟨o, e, ex⟩ := z
      refine ⟨⟨o, e, ex.1⟩, fun a e2 => ?_⟩
      cases e2
      exact ⟨o, e, ex.2.1⟩
    · obtain ⟨o, _, _, _, e, ex, _⟩ := I.hok p _ hk
      refine ⟨⟨o, e, ex.1⟩, fun a e2 => ?_⟩
      cases e2
      exact ⟨o, e, ex.2.1⟩
  | _ => exact False.elim ty
noncomputable def tBM (K : PySem.W.Frag) (T : String) (r : V → List V → Hp → VK → Prop) (to : TE) (t : TA) : TE := fun σ H Q => to σ H fun x H1 => tyV K T x H1 ∧ t σ H1 fun xs H2 => r x xs H2 Q
variable {o e : Expr} {es : List Expr} {to : TE} {t : TA} {name : Str} {apos cpos : Pos} {T id : String} {r : V → List V → Hp → VK → Prop}
theorem pe_bm (pa : PlainAttrs T) (slot : Slot T name id) (hty : typeOf (.builtin id) = pure (.type "method_descriptor")) (hm : MtR X id r) (ho : PE X o to) (ha : PA X (e :: es) t)
    (hbase : attributeBase o name X.env (eval o X.env) = eval o X.env := by rfl)
    (hfew : ((backTo cpos (starEach (e :: es) X.env)).all (fun x => !x.1) && (backToKw cpos (keywordEach [] X.env)).all (fun x => x.1.isSome)
      && decide ((e :: es).length + ([] : List Keyword).length + (if ([] : List Keyword).isEmpty then 0 else 1) < 30)) = true := by rfl)
    (hline : (apos.endLine == cpos.line) = true := by rfl) (hs : starEach (e :: es) X.env = (false, eval e X.env) :: starEach es X.env := by rfl) (hplain : (backTo cpos (starEach es X.env)).any (·.1) = false := by rfl) :
    PE X (.Call (.Attribute o name apos) (e :: es) [] cpos) (tBM X.K T r to t) := by
  intro pins s σ H Q I h
  refine wpAny_Call_method_late hbase hfew hline rfl (thn (ho pins s σ H _ I h) fun v s1 ⟨x, H1, I1, r1, ty, q1⟩ => ?_)
  obtain ⟨h1, h2⟩ := tyV_is I1 r1 ty
  refine ⟨T, id, pa, slot, hty, h1, h2, ?_⟩
  have hA := ha cpos pins s1 σ H1 _ I1 q1
  rw [hs] at hA ⊢
  refine Calls.callWith_builtin (by show (false || (backTo cpos (starEach es X.env)).any (·.1)) = false; rw [hplain] <;> rfl) (Calls.evalArgs_plain ?_)
  exact thn hA fun us s2 ⟨vs, H2, I2, r2, q2⟩ => hm pins s2 σ H2 x vs v us Q I2 r1 r2 q2
end
end L2
namespace L2
open PySem PySem.Spec PyProof.Rows
noncomputable def MtM (X : Cx) (id : String) (r : V → List V → Hp → VK → Prop) : Prop :=
  ∀ (pins : List (Addr × Obj)) (s : Shared) (σ : St) (H : Hp) (x : V) (xs : List V) (v : Value) (us : List Value) (Q : VK), Inv X pins σ H s → RelV x v → Vals xs us → r x xs H Q →
    wpAny (model X.prog X.w) X.A (call (.builtin id) (v :: us)) (EP X pins σ Q) X.xe s
theorem Vals.one : ∀ {x : V} {us : List Value}, Vals [x] us → ∃ u, us = [u] ∧ RelV x u
  | _, _, .cons r .nil => ⟨_, rfl, r⟩
theorem Vals.rep {xs : List V} {us : List Value} (h : Vals xs us) : ∀ k : Nat, Vals (List.replicate k xs).flatten (List.replicate k us).flatten
  | 0 => .nil
  | k + 1 => by
    rw [List.replicate_succ, List.replicate_succ, List.flatten_cons, List.flatten_cons]
    exact Vals.append h (Vals.rep h k)
section
variable {X : Cx} {pins : List (Addr × Obj)} {σ : St} {H : Hp} {s : Shared} {l b : Addr} {xs ys zs : List V}
theorem Inv.lset {its its' : List Value} {n : Nat} {f : Array Value → Array Value} {t' : Nat} (I : Inv X pins σ H s) (hH : H l = some (.lst xs))
    (e : s.heap.get? l = some { cls := .type "list", data := .seq its.toArray n }) (hf : f its.toArray = its'.toArray) (hv : Vals ys its') (hz : ys.length ≤ sizeLine) :
    Inv X pins σ (upd H l (.lst ys)) { s with heap := s.heap.update l (Obj.mapSeq f), toks := t' } := by
  have q := PySem.IsL.update e f
  rw [hf] at q
  refine I.write (x := l) (e := l) (by rw [hH]; exact trivial) (.inl rfl) (fun b' u hb hu => (Heap.get?_update_other s.heap (Obj.mapSeq f) (Ne.symm hb)).trans hu) ⟨_, q⟩ ?_
  exact ⟨hz, its', _, hv, q⟩
theorem Inv.lnew {its : List Value} {t' : Nat} (I : Inv X pins σ H s) (hv : Vals ys its) (hz : ys.length ≤ sizeLine) :
    Inv X pins σ (upd H s.heap.objs.size (.lst ys)) { s with heap := s.heap.push { cls := .type "list", data := .seq its.toArray }, toks := t' } :=
  I.laid (fun _ _ q => Heap.get?_push_of_some _ q) (Nat.le_refl _) ⟨hz, its, 0, hv, Heap.get?_push_size _ rfl⟩
theorem Inv.fresh (I : Inv X pins σ H s) : H s.heap.objs.size = none := I.hok.fresh (Nat.le_refl _)
theorem Inv.lstM (I : Inv X pins σ H s) (hH : H l = some (.lst xs)) : xs.length ≤ sizeLine ∧ ∃ (its : List Value) (n : Nat), Vals xs its ∧ xs.length = its.length ∧ s.heap.get? l = some { cls := .type "list", data := .seq its.toArray n } := by
  obtain ⟨z, its, n, r, e⟩ := I.hok l _ hH
  exact ⟨z, its, n, r, r.length, e⟩
end
section
variable {X : Cx}
noncomputable def rAppend : V → List V → Hp → VK → Prop := fun x vs H Q => ∃ l xs y, x = .ref l ∧ vs = [y] ∧ H l = some (.lst xs) ∧ xs.length < sizeLine ∧ Q .non (upd H l (.lst (xs ++ [y])))
theorem mt_append : MtM X "list.append" rAppend := by
  intro pins s σ H x vs v us Q I rx rv h
  obtain ⟨l, xs, y, rfl, rfl, hH, hz, q⟩ := h
  cases rx
  obtain ⟨u, rfl, ru⟩ := rv.one
  obtain ⟨z, its, n, r, hl, e⟩ := I.lstM hH
  refine call_meets F.slot_list_append ⟨_, e, rfl⟩ F.entry_list_append (F.args_list_append_2 _ _) (PySem.list_append l its.toArray n u (by rw [List.size_toArray]; omega)) ⟨e, ?_⟩
  refine ⟨.non, _, I.lset (its' := its ++ [u]) hH e (by simp) (r.append (.cons ru .nil)) ?_, rfl, q⟩
  rw [List.length_append, List.length_singleton]
  omega
theorem len_rep {α : Type} (xs : List α) (k : Nat) : (List.replicate k xs).flatten.length = k * xs.length := by
  induction k with
  | zero => simp
  | succ k ih => rw [List.replicate_succ, List.flatten_cons, List.length_append, ih, Nat.succ_mul, Nat.add_comm]
end
section
variable {prog : Program} {w : World} {A : Around} {E : Value → Shared → Prop} {s : Shared}
set_option maxRecDepth 100000 in
end
section
variable {X : Cx}
end
end L2
namespace L2
open PySem PySem.Spec PyProof.Rows
section
variable {κ : Type} [DecidableEq κ]
noncomputable def valV (kvs : List (κ × V)) (k : κ) : Option V := (kvs.find? fun kv => decide (kv.1 = k)).map (·.2)
noncomputable def putK (kvs : List (κ × V)) (k : κ) (v : V) : List (κ × V) :=
  if (kvs.any fun kv => decide (kv.1 = k)) = true then kvs.map (fun kv => if kv.1 = k then (kv.1, v) else kv) else kvs ++ [(k, v)]
theorem valV_pos {p : κ × V} {r : List (κ × V)} {k : κ} (e : p.1 = k) : valV (p :: r) k = some p.2 := by simp [valV, List.find?_cons, e]
theorem valV_neg {p : κ × V} {r : List (κ × V)} {k : κ} (e : ¬ p.1 = k) : valV (p :: r) k = valV r k := by simp [valV, List.find?_cons, e]
theorem length_putK (kvs : List (κ × V)) (k : κ) (v : V) : (putK kvs k v).length ≤ kvs.length + 1 := by
  unfold putK
  split
  · rw [List.length_map]; omega
  · rw [List.length_append, List.length_cons, List.length_nil]; omega
theorem KV.val {kvs : List (κ × V)} {vs : List (κ × Value)} (r : KV kvs vs) (k : κ) : RelO (valV kvs k) (valueAt vs k) := by
  unfold KV at r
  induction r with
  | nil => exact True.intro
  | @cons p q ps qs h t ih =>
    obtain ⟨h1, h2⟩ := h
    by_cases e : p.1 = k
    · have e' : q.1 = k := h1.symm.trans e
      have b : valueAt (q :: qs) k = some q.2 := by simp [valueAt, List.find?_cons, e']
      rw [valV_pos e, b]; exact h2
    · have e' : ¬ q.1 = k := fun z => e (h1.trans z)
      have b : valueAt (q :: qs) k = valueAt qs k := by simp [valueAt, List.find?_cons, e']
      rw [valV_neg e, b]; exact ih
theorem KV.any {kvs : List (κ × V)} {vs : List (κ × Value)} (r : KV kvs vs) (k : κ) : (kvs.any fun kv => decide (kv.1 = k)) = vs.any fun kv => decide (kv.1 = k) := by
  unfold KV at r
  induction r with
  | nil => rfl
  | cons h t ih => rw [List.any_cons, List.any_cons, ih, h.1]
theorem KV.repl {kvs : List (κ × V)} {vs : List (κ × Value)} (r : KV kvs vs) (k : κ) {y : V} {u : Value} (ry : RelV y u) :
    KV (kvs.map fun kv => if kv.1 = k then (kv.1, y) else kv) (vs.map fun kv => if kv.1 = k then (kv.1, u) else kv) := by
  unfold KV at r ⊢
  induction r with
  | nil => exact .nil
  | @cons p q ps qs h t ih =>
    rw [List.map_cons, List.map_cons]
    refine .cons ?_ ih
    obtain ⟨h1, h2⟩ := h
    by_cases e : p.1 = k
    · rw [if_pos e, if_pos (h1.symm.trans e)]; exact ⟨h1, ry⟩
    · rw [if_neg e, if_neg (fun z => e (h1.trans z))]; exact ⟨h1, h2⟩
theorem KV.put {kvs : List (κ × V)} {vs : List (κ × Value)} (r : KV kvs vs) (k : κ) {y : V} {u : Value} (ry : RelV y u) : KV (putK kvs k y) (stored vs k u) := by
  unfold putK stored
  rw [r.any k]
  by_cases e : (vs.any fun kv => decide (kv.1 = k)) = true
  · rw [if_pos e, if_pos e]; exact r.repl k ry
  · rw [if_neg e, if_neg e]; exact Paired.snoc r ⟨rfl, ry⟩
end
theorem kV_is {P : Program} {w : World} {k : Key} {u : Value} (r : RelV (kV k) u) : (mixKind P w).is k u = true := by
  cases k with
  | inl i => obtain ⟨t, e⟩ := (show ∃ t, u = Value.int i t from r); subst e; exact mixKind_int P w i t
  | inr x => obtain ⟨t, e⟩ := (show ∃ t, u = Value.str x t from r); subst e; exact mixKind_str P w x t
section
variable {P : Program} {w : World} {H : Hp} {h : Heap} {a : Addr}
theorem rd_of {u : HO} (ok : HOk P w H h) (e : Rd H a u) : ObjOk P w H h a u := e.ok ok
theorem dk_rd {kvs : List (Key × V)} (ok : HOk P w H h) (e : Rd H a (.dK kvs)) : kvs.length ≤ sizeLine ∧ (a == sysModules) = false ∧ ∃ vs, KV kvs vs ∧ h.DictOf (mixKind P w) a vs :=
  show ObjOk P w H h a (.dK kvs) from rd_of ok e
theorem dk_of {kvs : List (Key × V)} (ok : HOk P w H h) (e : H a = some (.dK kvs)) : kvs.length ≤ sizeLine ∧ (a == sysModules) = false ∧ ∃ vs, KV kvs vs ∧ h.DictOf (mixKind P w) a vs := dk_rd ok (.inl e)
end
section
variable {X : Cx} {pins : List (Addr × Obj)} {σ : St} {H : Hp} {s : Shared} {a : Addr} {y v : V} {u r : Value} {o : Option V} {A : Around} {E : Value → Shared → Prop}
theorem Inv.big (I : Inv X pins σ H s) : sysModules < s.heap.objs.size := by
  have h : mainGlobals < s.heap.objs.size := (I.mod.glob.keeps I.bk).lt
  exact Nat.lt_trans (by decide) h
theorem d_write {h' : Heap} {t' : Nat} {ob : HO} (I : Inv X pins σ H s) (mu : Mut (H a)) (hs : Heap.SameBut a s.heap h') (he : ∃ q, h'.get? a = some q) (new : ObjOk X.prog X.w (upd H a ob) h' a ob) :
    Inv X pins σ (upd H a ob) { s with heap := h', toks := t' } :=
  I.write (x := a) (e := a) mu (.inl rfl) (fun b q hb z => (hs.2 b hb).trans z) he new
theorem dk_new {P : Program} {w : World} {H' : Hp} {h' : Heap} {kvs : List (Key × V)} {vs : List (Key × Value)} (z : kvs.length ≤ sizeLine) (hd : (a == sysModules) = false) (rel : KV kvs vs) (dd : h'.DictOf (mixKind P w) a vs) :
    ObjOk P w H' h' a (.dK kvs) := ⟨z, hd, vs, rel, dd⟩
end
section
variable {X : Cx} {pins : List (Addr × Obj)} {σ : St} {H : Hp} {s : Shared} {a : Addr} {kvs : List (Key × V)} {k : Key} {u : Value} {A : Around} {E : Value → Shared → Prop}
end
section
variable {X : Cx} {o i e value : Expr} {pos pos' tpos : Pos} {td ty tv : TE}
end
theorem dk_empty {P : Program} {w : World} {H : Hp} (h : Heap) (hb : sysModules < h.objs.size) : ObjOk P w H (h.push { cls := .type "dict", data := .dict #[] }) h.objs.size (.dK []) :=
  ⟨Nat.zero_le _, beq_eq_false_iff_ne.mpr (Ne.symm (Nat.ne_of_lt hb)), [], .nil, Heap.DictOf.new h⟩
noncomputable def tDNewK : TE := fun _ H Q => ∀ p, H p = none → Q (.ref p) (upd H p (.dK []))
section
variable {X : Cx} {pos : Pos}
theorem pe_dnewK : PE X (.Dict [] [] pos) tDNewK := fun pins s σ H Q I h =>
  wpAny_Dict_empty ⟨.ref s.heap.objs.size, _, I.laid (a := s.heap.objs.size) (o := .dK []) (t' := s.toks) (fun _ _ q => Heap.get?_push_of_some _ q) (Nat.le_refl _) (dk_empty s.heap I.big), rfl, h _ (I.hok.fresh (Nat.le_refl _))⟩
end
noncomputable def tPairs : List (TE × TE) → St → Hp → (List (V × V) → Hp → Prop) → Prop
  | [], _, H, Q => Q [] H
  | (tk, tv) :: r, σ, H, Q => tk σ H fun x H1 => tv σ H1 fun y H2 => tPairs r σ H2 fun ps H3 => Q ((x, y) :: ps) H3
noncomputable abbrev VV : List (V × V) → List (Value × Value) → Prop := Paired fun p q => RelV p.1 q.1 ∧ RelV p.2 q.2
noncomputable def PPs (X : Cx) (pos : Pos) (keys : List (Option Expr)) (values : List Expr) (trs : List (TE × TE)) : Prop :=
  ∀ (pins : List (Addr × Obj)) (s : Shared) (σ : St) (H : Hp) (Q : List (V × V) → Hp → Prop), Inv X pins σ H s → tPairs trs σ H Q →
    wpAny (model X.prog X.w) X.A (evalPairs (pairTrees keys values X.env pos)) (fun vs s' => ∃ ps H', Inv X pins σ H' s' ∧ VV ps vs ∧ Q ps H') X.xe s
theorem pps_nil {X : Cx} {pos : Pos} : PPs X pos [] [] [] := fun pins s σ H Q I h => pairTrees_nil_walk ⟨[], H, I, .nil, h⟩
theorem pps_cons {X : Cx} {pos : Pos} {k v : Expr} {ks : List (Option Expr)} {vs : List Expr} {tk tv : TE} {trs : List (TE × TE)} (hk : PE X k tk) (hv : PE X v tv) (hr : PPs X pos ks vs trs) :
    PPs X pos (some k :: ks) (v :: vs) ((tk, tv) :: trs) := fun pins s σ H Q I h =>
  pairTrees_cons_walk (thn (hk pins s σ H _ I h) fun u s1 ⟨x, H1, I1, rx, q1⟩ => thn (hv pins s1 σ H1 _ I1 q1) fun w2 s2 ⟨y, H2, I2, ry, q2⟩ =>
    thn (hr pins s2 σ H2 _ I2 q2) fun ws s3 ⟨ps, H3, I3, rel, q3⟩ => ⟨(x, y) :: ps, H3, I3, .cons ⟨rx, ry⟩ rel, q3⟩)
noncomputable def mergeK (kvs more : List (Key × V)) : List (Key × V) := more.foldl (fun acc kv => putK acc kv.1 kv.2) kvs
theorem KV.merge : ∀ {more : List (Key × V)} {rs : List (Key × Value)} {kvs : List (Key × V)} {vs : List (Key × Value)}, KV more rs → KV kvs vs → KV (mergeK kvs more) (merged vs rs) := by
  intro more rs kvs vs r
  unfold KV at r
  induction r generalizing kvs vs with
  | nil => intro q; exact q
  | @cons p q ps qs h t ih =>
    intro r0
    have e : KV (putK kvs p.1 p.2) (stored vs q.1 q.2) := by
      have := r0.put p.1 h.2
      rw [← h.1]; exact this
    exact ih e
theorem length_mergeK : ∀ (more kvs : List (Key × V)), (mergeK kvs more).length ≤ kvs.length + more.length
  | [], kvs => by show kvs.length ≤ kvs.length + 0; omega
  | p :: r, kvs => by
    have h1 := length_mergeK r (putK kvs p.1 p.2)
    have h2 := length_putK kvs p.1 p.2
    show (mergeK (putK kvs p.1 p.2) r).length ≤ _
    rw [List.length_cons]; omega
theorem carries_of {P : Program} {w : World} : ∀ {kvs : List (Key × V)} {ws : List (Value × Value)}, VV (kvs.map fun kv => (kV kv.1, kv.2)) ws → ∃ rs, Carries (mixKind P w) ws rs ∧ KV kvs rs
  | [], _, r => by rw [List.map_nil] at r; cases r; exact ⟨[], True.intro, .nil⟩
  | p :: kvs, _, r => by
    rw [List.map_cons] at r
    cases r with
    | @cons a b as bs h t =>
      obtain ⟨rs, c, q⟩ := carries_of (P := P) (w := w) t
      obtain ⟨b1, b2⟩ := b
      exact ⟨(p.1, b2) :: rs, ⟨kV_is h.1, rfl, c⟩, .cons ⟨rfl, h.2⟩ q⟩
noncomputable def tDisp (trs : List (TE × TE)) : TE := fun σ H Q => ∀ p, H p = none → tPairs trs σ (upd H p (.dK [])) fun ps H2 => H2 p = some (.dK []) ∧ ∃ kvs : List (Key × V), ps = kvs.map (fun kv => (kV kv.1, kv.2)) ∧ kvs.length ≤ 15 ∧ Q (.ref p) (upd H2 p (.dK (mergeK [] kvs)))
theorem pe_disp {X : Cx} {pos : Pos} {keys : List (Option Expr)} {values : List Expr} {trs : List (TE × TE)} (h : PPs X pos keys values trs) (hall : keys.all (·.isSome) = true) (hl : keys.length = values.length) (h0 : keys ≠ [])
    (h15 : keys.length ≤ 15) : PE X (.Dict keys values pos) (tDisp trs) := by
  intro pins s σ H Q I q
  have hn := I.hok.fresh (Nat.le_refl s.heap.objs.size)
  have I1 := I.laid (a := s.heap.objs.size) (o := .dK []) (h' := s.heap.push { cls := .type "dict", data := .dict #[] }) (t' := s.toks) (fun _ _ q => Heap.get?_push_of_some _ q) (Nat.le_refl _) (dk_empty s.heap I.big)
  refine wpAny_Dict_walk (knd := mixKind X.prog X.w) hall hl h0 h15 (thn (h pins _ σ _ _ I1 (q _ hn)) fun ws s2 ⟨ps, H2, I2, rel, e, kvs, ep, lk, q2⟩ => ?_)
  subst ep
  obtain ⟨rs, c, rk⟩ := carries_of (P := X.prog) (w := X.w) rel
  obtain ⟨z, hd, vs0, r0, dd⟩ := dk_of I2.hok e
  cases r0
  refine ⟨rs, c, dd, fun h' dd' hs => ⟨.ref s.heap.objs.size, _, ?_, rfl, q2⟩⟩
  have hz : (mergeK [] kvs).length ≤ sizeLine := by
    have h1 := length_mergeK kvs []
    rw [List.length_nil] at h1
    rw [sizeLine_eq]; omega
  have he : ∃ q, h'.get? s.heap.objs.size = some q := let ⟨q, _, _, hq, _⟩ := dd'; ⟨q, hq⟩
  exact d_write I2 (by rw [e]; exact True.intro) hs he (dk_new hz hd (rk.merge .nil) dd')
structure M1 (X : Cx) (o : Expr) (m : Str) (apos : Pos) (e : Expr) (cpos : Pos) : Prop where
  base : attributeBase o m X.env (eval o X.env) = eval o X.env
  few : ((backTo cpos (starEach [e] X.env)).all (fun x => !x.1) && (backToKw cpos (keywordEach [] X.env)).all (fun x => x.1.isSome)
    && decide (([e] : List Expr).length + ([] : List Keyword).length + (if ([] : List Keyword).isEmpty then 0 else 1) < 30)) = true
  line : (apos.endLine == cpos.line) = true
  trees : backTo cpos (starEach [e] X.env) = [(false, eval e X.env)]
section
variable {X : Cx} {pins : List (Addr × Obj)} {σ : St} {H : Hp} {s : Shared} {a : Addr} {y d : V} {u r : Value} {o : Option V} {A : Around} {E : Value → Shared → Prop}
end
section
variable {X : Cx} {o e f : Expr} {apos cpos : Pos} {td ty tx : TE}
end
section
variable {X : Cx} {pins : List (Addr × Obj)} {σ : St} {H : Hp} {s : Shared} {a : Addr} {kvs : List (Key × V)} {A : Around} {E : Value → Shared → Prop}
end
section
variable {X : Cx} {pins : List (Addr × Obj)} {σ : St} {H : Hp} {s : Shared} {a : Addr} {y : V} {u : Value} {A : Around} {E : Value → Shared → Prop}
end
end L2
namespace Att
open PySem PySem.W PySem.Calls PyProof.Rows
theorem ints_of_wellAll {P : Params} {h : Heap} : ∀ (ns : List Int) (vs : List Value), WellAll P h vs (ns.map WData.int) → IntsAre vs ns := by
  intro ns
  induction ns with
  | nil =>
    intro vs w
    rw [List.map_nil] at w
    cases w
    exact .nil
  | cons n ns ih =>
    intro vs w
    rw [List.map_cons] at w
    cases w with
    | cons a b =>
      cases a
      exact .cons _ _ (ih _ b)
theorem script_of {l : OpenLaw} {n : Nat} (hn : l.most = some n) {P : Params} {h : Heap} {args : List WData} {vals : List Value}
    (hpre : l.row.toRowW.claim.pre args = true) (hwl : WellAll P h vals args) :
    ∃ a vs ns, vals = [Value.ref a] ∧ args = [WData.list (ns.map WData.int)] ∧ h.get? a = some { cls := .type "list", data := .seq vs.toArray } ∧ IntsAre vs ns ∧ ns.length ≤ n := by
  have hsh : WShape.hasAll [] args [.list .int] = true := (pre_splitW hpre).1
  have hc : l.pre.holds [] { args := args } = true := (pre_splitW hpre).2
  obtain ⟨d, r, rfl, h1, h2⟩ := hasAllW_cons hsh
  obtain rfl := hasAllW_nil h2
  obtain ⟨xs, rfl, h3⟩ := hasW_list h1
  obtain ⟨ns, rfl⟩ := items_int h3
  have hlen : ns.length ≤ n := by
    unfold OpenLaw.pre at hc
    have h4 : (WTm.not (.lt (.lit (.int (n : Int))) (.len (.arg 0)))).holds [] { args := [.list (ns.map .int)] } = true := by
      have h4 := (holds_andW hc).1
      rw [hn] at h4
      exact h4
    have h5 := condW_of h4 (w_not (w_lt w_lit (w_len_list (w_arg rfl))))
    rw [List.length_map] at h5
    refine Nat.le_of_not_lt fun q => ?_
    have q' : (n : Int) < ((ns.length : Nat) : Int) := by omega
    first
      | (rw [decide_eq_true q'] at h5; exact absurd h5 (by decide))
      | (simp at h5; omega)
  cases hwl with
  | cons w1 w2 =>
    cases w2
    cases w1 with
    | list ho hall => exact ⟨_, _, ns, rfl, rfl, ho, ints_of_wellAll ns _ hall, hlen⟩
theorem post_true (l : OpenLaw) (args : List WData) : l.row.toRowW.claim.post args (.bool true) args = true :=
  postW_of (r := l.row.toRowW) (X := (true == true))
    (show WShape.has [] (.bool true) .bool = true by first | rfl | decide | simp [WShape.has, WShape.arms, WShape.armsAll])
    (show (WTm.eq .res (.lit (.bool true))).value [] { args := args, res := some (.bool true), after := args } = some (.bool (true == true)) from w_eq_bool (w_res rfl) w_lit) rfl
theorem attach_call {l : OpenLaw} {n : Nat} {q : Program} {loose : List Str} {XP : (Str → Option Value) → Heap → Prop} {YP : World → Heap → Prop} {d : DefRec}
    (hn : l.most = some n) (hdf : d.params.defaults = [])
    (call : ∀ (w : World) (s₀ s₁ : Shared) (mg mb : Str → Option Value) (fa : Addr) (o : Obj) (pm cd doc : Value) (a : Addr) (vs : List Value) (ns : List Int),
      Ground q loose [] XP w s₀ mg mb s₁.heap → YP w s₁.heap →
      s₁.heap.get? fa = some o → o.data = .func (docDef d.name d.params d.body d.scope pm cd doc) → s₁.heap.CodeRec cd d.name → mg d.name = some (.ref fa) →
      s₁.heap.get? a = some { cls := .type "list", data := .seq vs.toArray } → IntsAre vs ns → ns.length ≤ n → s₁.gens = #[] →
      codeAny (model l.prog w) callerA (.call (.ref fa) ⟨[.ref a], []⟩) (fun r s' => r = .ok (.ret (.bool true)) ∧ OldK s₁.heap s'.heap ∧ s'.os = s₁.os ∧ AllBare s'.gens) s₁) :
    WalkO q loose XP YP l.row.toRowW d [] (fun f vs => PySem.call f vs) := by
  intro w s₀ s₁ mg mb G Y fa o pm cd doc dV kV ho hd hcd hD hmg hg args vals as hpre hlay hrd hwl hlo
  obtain rfl : dV = .none := Dflts.none hD hdf
  obtain rfl : kV = .none := Dflts.noKw hD
  obtain ⟨a, vs, ns, rfl, rfl, hobj, hints, hlen⟩ := script_of hn hpre hwl
  refine enter_call (codeAny_mono (call w s₀ s₁ mg mb fa o pm cd doc a vs ns G Y ho (fd_plain hd) hcd hmg hobj hints hlen hg) fun r s' hq => ?_)
  obtain ⟨rfl, h2, h3, h4⟩ := hq
  exact ⟨.inl ⟨.bool true, .bool true, [], rfl, fun _ => rfl, .bool true, post_true l _, fun _ => ⟨List.Pairwise.nil, fun _ hm => (nomatch hm)⟩⟩, h2, h3, h4⟩
section
variable {prog : Program} {w : World} {A : Around} {E : Value → Shared → Prop} {s : Shared} {K : Frag}
end
end Att
namespace L2
open PySem PySem.Spec PyProof.Rows
theorem vals_ints : ∀ {vs : List Value} {ns : List Int}, IntsAre vs ns → Vals (ns.map V.int) vs
  | _, _, .nil => .nil
  | _, _, .cons n t h => .cons ⟨t, rfl⟩ (vals_ints h)
noncomputable def Only (H : Hp) : Prop := ∀ b, H b = none ∨ ∃ o xs, H b = some (.frz o (.lst xs))
theorem law_call {P : Program} {w : World} {K : PySem.W.Frag} {mg mb : Str → Option Value} {CX : CXT} {k : Nat} {fa a : Addr} {fd : FuncData} {x : Str} {sp : Sp} {s₁ : Shared} {vs : List Value} {ns : List Int}
    (KX : K.In s₁.heap) (hns : s₁.heap.Ns mainGlobals mg) (hb : s₁.heap.Ns builtinsNs mb) (hbb : ∀ x : Str, x ≠ "__name__" → mb x = bootBuiltins x) (hlim : s₁.heap.NoLimit) (hg : s₁.gens = #[])
    (ha : s₁.heap.get? a = some { cls := .type "list", data := .seq vs.toArray }) (hi : IntsAre vs ns) (hl : ns.length ≤ sizeLine) (hr : Room k callerA)
    (F : ∀ base : Heap, K.In base → base.Ns mainGlobals mg → FnOk P w K mg base CX k fa fd [x] sp) (hbind : ∀ (s : Shared) (u : Value), BindsTo s fd ⟨[u], []⟩ [(x, u)])
    (hsp : ∀ H : Hp, Only H → SqL K H a (ns.map V.int) → sp [.ref a] H (fun v _ => v = .bl true) fun _ _ _ => False)
    (hCX : ∀ H e s', CX [] H s₁ (fun _ _ _ => False) e s' → False) :
    codeAny (model P w) callerA (.call (.ref fa) ⟨[.ref a], []⟩) (fun r s' => r = .ok (.ret (.bool true)) ∧ OldK s₁.heap s'.heap ∧ s'.os = s₁.os ∧ AllBare s'.gens) s₁ := by
  have rv := vals_ints hi
  have lenV := hi.length
  have core : ∀ H : Hp, Only H → SqL K H a (ns.map V.int) → HOk P w H s₁.heap → (∀ b, H b ≠ none → b = a) → (H a ≠ none → K.lookup a = none) →
      codeAny (model P w) callerA (.call (.ref fa) ⟨[.ref a], []⟩) (fun r s' => r = .ok (.ret (.bool true)) ∧ OldK s₁.heap s'.heap ∧ s'.os = s₁.os ∧ AllBare s'.gens) s₁ := by
    intro H hO hS hok hA hK
    have base_of : ∀ {b : Addr} {o : Obj}, s₁.heap.get? b = some o → H b = none → (hidT s₁.heap H).get? b = some o := fun e n => hidT_get e n
    have noA : ∀ {b : Addr} {o : Obj} {es : Array DictEntry} {ep : Nat}, s₁.heap.get? b = some o → o.data = .dict es ep → H b = none := fun {b o es ep} e d => by
      cases q : H b with
      | none => rfl
      | some u =>
        have e' : b = a := hA b (by rw [q]; simp)
        subst e'
        rw [ha] at e; cases e
        have d' : Data.seq vs.toArray _ = Data.dict es ep := d
        cases d'
    have nsK : ∀ {b : Addr} {m : Str → Option Value}, s₁.heap.Ns b m → (hidT s₁.heap H).Ns b m := fun {b m} ⟨o, es, ep, e, d, r⟩ => ⟨o, es, ep, base_of e (noA e d), d, r⟩
    have hKb : K.In (hidT s₁.heap H) := fun b o e => base_of (KX b o e) (by
      cases q : H b with
      | none => rfl
      | some u =>
        have e' : b = a := hA b (by rw [q]; simp)
        subst e'
        rw [hK (by rw [q]; simp)] at e; cases e)
    have hM : Mod K mg (hidT s₁.heap H) := ⟨hKb, nsK hns, ⟨mb, nsK hb, hbb⟩, let ⟨mc, h1, h2⟩ := hlim; ⟨mc, nsK h1, h2⟩⟩
    have e0 : Env0 P w K mg (hidT s₁.heap H) callerA [] s₁ H := ⟨rfl, hM, fun b o e => of_hidT e, Nat.le_of_eq (hidT_size _ _), trivial, fun b hb => absurd (show b ∈ ([] : List Addr) from hb) (by simp), hok, .of_eq hg⟩
    refine codeAny_mono ((F _ hKb (nsK hns)).run callerA [] s₁ H ⟨[.ref a], []⟩ [.ref a] [.ref a] _ _ hr e0 (hbind s₁ (.ref a)) (.cons rfl .nil) (hsp H hO hS)) fun r s' h => ?_
    cases r with
    | error e => exact (hCX H e s' h).elim
    | ok fl =>
      cases fl with
      | next => exact False.elim h
      | brk => exact False.elim h
      | cont => exact False.elim h
      | ret u =>
        obtain ⟨v, H', os, bare, un, hok', r', q⟩ := h
        have q' : v = .bl true := q
        subst q'
        obtain rfl : u = Value.bool true := r'
        refine ⟨rfl, OldK.of_keep fun b o e => ?_, os, bare⟩
        cases q : H b with
        | none => exact un.keep b o e q (by intro z; exact absurd (show b ∈ ([] : List Addr) from z) (by simp)) (by simp)
        | some u =>
          rcases hO b with z | ⟨ob, xs, z⟩
          · rw [q] at z; cases z
          · have z2 := un.frzs b ob _ z
            obtain ⟨e1, _⟩ := hok b _ z
            obtain ⟨e2, _⟩ := hok' b _ z2
            rw [e] at e1; cases e1
            exact e2
  cases hk : K.lookup a with
  | some o =>
    have e := KX a o hk
    rw [ha] at e
    cases e
    refine core (fun _ => none) (fun _ => .inl rfl) (.inr ⟨_, vs.toArray, _, hk, rfl, rfl, rfl, by rw [List.size_toArray, lenV]; exact hl, by simpa using rv⟩) (fun b u z => by have z' : (none : Option HO) = some u := z; cases z') (fun b z => absurd rfl z) fun z => absurd rfl z
  | none =>
    refine core (fun b => if b = a then some (.frz { cls := .type "list", data := .seq vs.toArray } (.lst (ns.map V.int))) else none) (fun b => ?_) (.inl (.inr ⟨{ cls := .type "list", data := .seq vs.toArray }, if_pos rfl⟩)) (fun b u z => ?_) (fun b z => ?_) fun _ => hk
    · by_cases hb : b = a
      · exact .inr ⟨_, _, if_pos hb⟩
      · exact .inl (if_neg hb)
    · by_cases hb : b = a
      · have z' := (if_pos hb).symm.trans z
        cases z'
        subst hb
        exact ⟨ha, by rw [List.length_map]; exact hl, vs, _, rv, ha⟩
      · have z' := (if_neg hb).symm.trans z
        cases z'
    · by_cases hb : b = a
      · exact hb
      · exact absurd (if_neg hb) z
end L2
namespace L2
open PySem PySem.Spec PyProof.Rows
theorem walk_of {l : PySem.W.OpenLaw} {n k : Nat} {q : Program} {loose : List Str} {XP : (Str → Option Value) → Heap → Prop} {YP : World → Heap → Prop} {d : DefRec} {K : Params → PySem.W.Frag} {CX : World → CXT} {sp : World → Sp} {x : Str}
    (hn : l.most = some n) (hn2 : n ≤ sizeLine) (hdf : d.params.defaults = []) (hr : Room k callerA)
    (hY : ∀ (w : World) (h : Heap), YP w h → (K w.params).In h)
    (F : ∀ (w : World) (mg : Str → Option Value) (fa : Addr) (h : Heap), (K w.params).In h → h.Ns mainGlobals mg → mg d.name = some (.ref fa) →
      ∃ fd : FuncData, (∀ (s : Shared) (u : Value), BindsTo s fd ⟨[u], []⟩ [(x, u)]) ∧
        ∀ base : Heap, (K w.params).In base → base.Ns mainGlobals mg → FnOk l.prog w (K w.params) mg base (CX w) k fa fd [x] (sp w))
    (hsp : ∀ (w : World) (H : Hp) (a : Addr) (ns : List Int), ns.length ≤ n → Only H → SqL (K w.params) H a (ns.map V.int) → sp w [.ref a] H (fun v _ => v = .bl true) fun _ _ _ => False)
    (hCX : ∀ (w : World) (H : Hp) (s : Shared) (e : Value) (s' : Shared), CX w [] H s (fun _ _ _ => False) e s' → False) :
    PySem.W.WalkO q loose XP YP l.row.toRowW d [] (fun f vs => PySem.call f vs) := by
  refine Att.attach_call hn hdf fun w s₀ s₁ mg mb fa o pm cd doc a vs ns G Y ho hd hcd hmg hobj hints hlen hg => ?_
  have KX := hY w _ Y
  obtain ⟨fd, hb, hF⟩ := F w mg fa _ KX G.T.g hmg
  exact law_call KX G.T.g G.T.b G.T.builtins G.T.nolimit hg hobj hints (Nat.le_trans hlen hn2) hr hF hb (fun H hO hS => hsp w H a ns hlen hO hS) fun H e s' => hCX w H s₁ e s'
end L2
namespace L2
open PySem PySem.Spec PyProof.Rows
noncomputable def defArgs (s : Stmt) : Arguments := match s with
  | .FunctionDef _ a _ _ _ _ _ _ _ _ => a
  | _ => { posonlyargs := [], args := [], vararg := none, kwonlyargs := [], kw_defaults := [], kwarg := none, defaults := [] }
noncomputable def defBody (s : Stmt) : List Stmt := match s with
  | .FunctionDef _ _ b _ _ _ _ _ _ _ => b
  | _ => []
noncomputable def defScope (s : Stmt) : Scope := match s with
  | .FunctionDef _ _ _ _ _ _ sc _ _ _ => sc
  | _ => { kind := .function, names := [], isGenerator := false, isCoroutine := false }
noncomputable abbrev CX0 : CXT := fun _ _ _ _ _ _ => False
noncomputable abbrev E0 : XK := fun _ _ _ => False
theorem pass0 {X : Cx} : Passes CX0 X E0 := fun _ _ _ _ _ _ _ h => h.elim
structure Fun (K : PySem.W.Frag) (x qual : Str) (st : Stmt) (f : Addr) (fd : FuncData) : Prop where
  ex : ∃ (oc : Value) (od : Option Addr) (kV doc pm : Value) (an : Option Addr) (cdv ct : Value) (osl : Array (Option Value)),
    fd = PySem.W.fnOf x qual (defArgs st) (defBody st) (defScope st) .none kV doc pm an cdv ct ∧ K.lookup f = some ⟨oc, od, .func fd, osl⟩ ∧ PySem.W.codeIn K cdv qual = true
  kp : PySem.W.keepIn K (.ref f) = true
section
variable {P : Program} {w : World} {K : PySem.W.Frag} {mg : Str → Option Value} {base : Heap}
theorem Fun.ok {x qual : Str} {st : Stmt} {f : Addr} {fd : FuncData} {N ps : List Str} {k : Nat} {sp : Sp} (F : Fun K x qual st f fd) (S : FnScope N ps (defScope st)) (len : ∀ vs H Q E, sp vs H Q E → vs.length = ps.length)
    (hbody : ∀ (cdv : Value) (A : Around) (outer : List Env) (s : Shared) (H : Hp) (vs : List V) (Q : VK) (E : XK), Room k (A.deeper (envOfC qual (defScope st) s.heap.objs.size f cdv)) → sp vs H Q E →
      ∃ t, PSs (cxOf CX0 P w K mg base N qual (defScope st) f cdv A outer s H E).nox (defBody st) t ∧ t { nx := fun _ H' => Q .non H', rt := Q } (start N vs) H) : FnOk P w K mg base CX0 (k + 1) f fd ps sp := by
  obtain ⟨oc, od, kV, doc, pm, an, cdv, ct, osl, rfl, lk, hcd⟩ := F.ex
  refine fn_of lk hcd S len fun A outer s H vs Q E hr hsp => ?_
  obtain ⟨t, h, q⟩ := hbody cdv A outer s H vs Q E hr hsp
  exact ⟨t, h.nox, q⟩
theorem Fun.binds {x qual : Str} {st : Stmt} {f : Addr} {fd : FuncData} {ps : List Str} (F : Fun K x qual st f fd)
    (h : ∀ (kV doc pm : Value) (an : Option Addr) (cdv ct : Value) (us : List Value), us.length = ps.length → bindArgs (PySem.W.fnOf x qual (defArgs st) (defBody st) (defScope st) .none kV doc pm an cdv ct) ⟨us, []⟩ = pure (ps.zip us)) : Binds K fd ps [] := by
  obtain ⟨oc, od, kV, doc, pm, an, cdv, ct, osl, rfl, lk, hcd⟩ := F.ex
  exact .all (h kV doc pm an cdv ct)
theorem fun_mk {x qual : Str} {st : Stmt} {f : Addr} {oc : Value} {od an : Option Addr} {osl : Array (Option Value)} {kV doc pm cdv ct : Value} (l : K.lookup f = some ⟨oc, od, .func (PySem.W.fnOf x qual (defArgs st) (defBody st) (defScope st) .none kV doc pm an cdv ct), osl⟩)
    (c : PySem.W.codeIn K cdv qual = true) (k : PySem.W.keepIn K (.ref f) = true) : Fun K x qual st f (PySem.W.fnOf x qual (defArgs st) (defBody st) (defScope st) .none kV doc pm an cdv ct) := ⟨⟨oc, od, kV, doc, pm, an, cdv, ct, osl, rfl, l, c⟩, k⟩
end
section
variable {X : Cx}
theorem pv (i : Nat) {x : Str} {pos : Pos} (hN : X.N[i]? = some x := by rfl) (hv : Vis X.env.scope x := by first | exact Or.inl rfl | exact Or.inr (Or.inl rfl) | exact Or.inr (Or.inr rfl)) (hd : (x == ("__debug__" : Str)) = false := by decide)
    (hcd : (x == ("__classdict__" : Str)) = false := by decide) : PE X (.Name x pos) (tVar i) := pe_var hN hv hd hcd
end
noncomputable def Same (H H' : Hp) : Prop := ∀ b o, H b = some o → H' b = some o
theorem Same.refl (H : Hp) : Same H H := fun _ _ h => h
theorem Same.trans {H H1 H2 : Hp} (a : Same H H1) (b : Same H1 H2) : Same H H2 := fun c o h => b c o (a c o h)
theorem Same.free {H H' : Hp} (e : Same H H') {l : Addr} (h : H' l = Option.none) : H l = Option.none := by
  cases q : H l with
  | none => rfl
  | some o =>
    rw [e l o q] at h
    cases h
end L2
set_option Elab.async false
set_option linter.all false
set_option maxRecDepth 100000
namespace PL
open PySem PySem.Spec PySem.W
section
variable {prog : Program} {w : World} {A : Around} {E : Value → Shared → Prop} {h : Heap} {g : Array GenState} {d : Drawn} {t : Nat} {os : OsState} {a C : Addr} {o : Obj} {K : PySem.W.Frag}
end
end PL
set_option linter.all false
namespace PL
open PySem
noncomputable abbrev Ky := Sum Int Str
inductive D where
  | non | bl (b : Bool) | int (i : Int) | str (x : Str)
  | tup (xs : List D) | lst (xs : List D) | dct (ks : List Ky) (vs : List D) | exn (c : Str) (ns : List Str) (vs : List D)
  deriving Inhabited
inductive R (α : Type) where
  | ok (a : α) | exc (x : D) | bad
namespace R
noncomputable def bind {α β : Type} : R α → (α → R β) → R β
  | .ok a, f => f a
  | .exc x, _ => .exc x
  | .bad, _ => .bad
@[simp] theorem bind_ok {α β : Type} (a : α) (f : α → R β) : (R.ok a).bind f = f a := rfl
@[simp] theorem bind_exc {α β : Type} (x : D) (f : α → R β) : (R.exc x).bind f = .exc x := rfl
@[simp] theorem bind_bad {α β : Type} (f : α → R β) : (R.bad : R α).bind f = .bad := rfl
end R
inductive Slot where
  | un | sh (d : D) | ol (xs : List D) | od (ks : List Ky) (vs : List D) | on (xss : List (List D))
  deriving Inhabited
noncomputable abbrev En := List Slot
noncomputable abbrev Ex := En → R D
noncomputable abbrev Tst := En → R Bool
noncomputable abbrev szL : Nat := 16777216
mutual
@[simp] noncomputable def eqD : D → D → Bool
  | .non, .non => true
  | .bl a, .bl b => a == b
  | .bl a, .int b => (if a then 1 else 0) == b
  | .int a, .bl b => a == (if b then 1 else 0)
  | .int a, .int b => a == b
  | .str a, .str b => decide (a = b)
  | .tup a, .tup b => eqDs a b
  | .lst a, .lst b => eqDs a b
  | _, _ => false
@[simp] noncomputable def eqDs : List D → List D → Bool
  | [], [] => true
  | a :: as, b :: bs => eqD a b && eqDs as bs
  | _, _ => false
end
@[simp] noncomputable def flat : D → Bool
  | .non => true
  | .bl _ => true
  | .int _ => true
  | .str _ => true
  | _ => false
mutual
noncomputable def lay : D → Bool
  | .non => true
  | .bl _ => true
  | .int _ => true
  | .str x => x.cps.all (· < 0x110000)
  | .tup xs => lays xs
  | .lst xs => lays xs
  | _ => false
noncomputable def lays : List D → Bool
  | [] => true
  | x :: xs => lay x && lays xs
end
mutual
noncomputable def dep : D → Nat
  | .tup xs => deps xs + 1
  | .lst xs => deps xs + 1
  | _ => 0
noncomputable def deps : List D → Nat
  | [] => 0
  | x :: xs => max (dep x) (deps xs)
end
@[simp] noncomputable def dctStr : D → D → Bool
  | .dct _ _, .str _ => true
  | _, _ => false
@[simp] noncomputable def tupNil : D → D → Bool
  | .tup _, .tup [] => true
  | _, _ => false
noncomputable def neOk (a b : D) : Bool := (flat a && flat b) || tupNil a b || (lay a && lay b && decide (min (dep a) (dep b) ≤ 60))
noncomputable def eqOk (a b : D) : Bool := neOk a b || dctStr a b
theorem neOk_flat {a b : D} (ha : flat a = true) (hb : flat b = true) : neOk a b = true := by unfold neOk; rw [ha, hb]; rfl
theorem eqOk_flat {a b : D} (ha : flat a = true) (hb : flat b = true) : eqOk a b = true := by unfold eqOk; rw [neOk_flat ha hb]; rfl
@[simp] theorem neOk_bl_bl (a b : Bool) : neOk (.bl a) (.bl b) = true := neOk_flat rfl rfl
@[simp] theorem neOk_int_int (a b : Int) : neOk (.int a) (.int b) = true := neOk_flat rfl rfl
@[simp] theorem neOk_str_str (a b : Str) : neOk (.str a) (.str b) = true := neOk_flat rfl rfl
@[simp] theorem eqOk_dct_str (a : List Ky) (c : List D) (b : Str) : eqOk (.dct a c) (.str b) = true := by unfold eqOk; simp
@[simp] theorem eqOk_non_non : eqOk .non .non = true := eqOk_flat rfl rfl
@[simp] theorem eqOk_bl_bl (a b : Bool) : eqOk (.bl a) (.bl b) = true := eqOk_flat rfl rfl
@[simp] theorem eqOk_int_int (a b : Int) : eqOk (.int a) (.int b) = true := eqOk_flat rfl rfl
@[simp] theorem eqOk_str_str (a b : Str) : eqOk (.str a) (.str b) = true := eqOk_flat rfl rfl
@[simp] theorem eqOk_non_str (b : Str) : eqOk .non (.str b) = true := eqOk_flat rfl rfl
@[simp] theorem eqOk_int_str (a : Int) (b : Str) : eqOk (.int a) (.str b) = true := eqOk_flat rfl rfl
@[simp] theorem eqOk_bl_str (a : Bool) (b : Str) : eqOk (.bl a) (.str b) = true := eqOk_flat rfl rfl
@[simp] theorem eqOk_tup_nil (a : List D) : eqOk (.tup a) (.tup []) = true := by unfold eqOk neOk; simp
@[simp] noncomputable def truth : D → R Bool
  | .non => .ok false
  | .bl b => .ok b
  | .int i => .ok (i != 0)
  | .str x => if x.length ≤ szL then .ok (x.length != 0) else .bad
  | .tup xs => .ok (!xs.isEmpty)
  | .lst xs => .ok (!xs.isEmpty)
  | .dct _ _ => .bad
  | .exn _ _ _ => .bad
noncomputable def ixN (n : Nat) (i : Int) : Option Nat := if 0 ≤ i then (if i < n then some i.toNat else none) else if -(n : Int) ≤ i then some (i + n).toNat else none
noncomputable def atI {α : Type} (xs : List α) (i : Int) : Option α := (ixN xs.length i).bind fun j => xs[j]?
noncomputable def sIx (n d : Nat) : Option Int → Nat
  | none => d
  | some v => if v < 0 then (v + (n : Int)).toNat else min v.toNat n
noncomputable def cut {α : Type} (xs : List α) (lo hi : Option Int) : List α := (xs.drop (sIx xs.length 0 lo)).take (sIx xs.length xs.length hi - sIx xs.length 0 lo)
noncomputable def inR (j : Int) : Bool := decide (-4611686018427387904 ≤ j) && decide (j < 4611686018427387904)
noncomputable def okDiv (j : Int) : Bool := decide (0 < j) && decide (j < 340282366920938463463374607431768211456)
noncomputable def okPow (j : Int) : Bool := decide (0 ≤ j) && decide (j ≤ 1000)
noncomputable def small (i : Int) : Bool := decide (-18446744073709551616 < i) && decide (i < 18446744073709551616)
@[simp] noncomputable def oAdd : D → D → R D
  | .int i, .int j => .ok (.int (i + j))
  | .str x, .str y => if x.length + y.length ≤ szL then .ok (.str (x ++ y)) else .bad
  | .lst x, .lst y => if x.length + y.length ≤ szL then .ok (.lst (x ++ y)) else .bad
  | .tup x, .tup y => if x.isEmpty = false ∧ x.length + y.length ≤ szL then .ok (.tup (x ++ y)) else .bad
  | _, _ => .bad
@[simp] noncomputable def oSub : D → D → R D
  | .int i, .int j => .ok (.int (i - j))
  | _, _ => .bad
@[simp] noncomputable def oMul : D → D → R D
  | .int i, .int j => if (small i || small j) = true then .ok (.int (i * j)) else .bad
  | _, _ => .bad
@[simp] noncomputable def oRep : D → D → R D
  | .lst x, .int j => if 0 ≤ j ∧ j < 1000 ∧ x.length ≤ 1000 then .ok (.lst (List.replicate j.toNat x).flatten) else .bad
  | _, _ => .bad
@[simp] noncomputable def oDiv : D → D → R D
  | .int i, .int j => if okDiv j = true then .ok (.int (i / j)) else .bad
  | _, _ => .bad
@[simp] noncomputable def oMod : D → D → R D
  | .int i, .int j => if 0 < j then .ok (.int (i % j)) else .bad
  | _, _ => .bad
@[simp] noncomputable def oPow : D → D → R D
  | .int i, .int j => if (okPow j && small i) = true then .ok (.int (i ^ j.toNat)) else .bad
  | _, _ => .bad
@[simp] noncomputable def oNeg : D → R D
  | .int i => .ok (.int (-i))
  | _ => .bad
@[simp] noncomputable def oEq (x y : D) : R D := if eqOk x y = true then .ok (.bl (eqD x y)) else .bad
@[simp] noncomputable def oNe (x y : D) : R D := if neOk x y = true then .ok (.bl (!eqD x y)) else .bad
@[simp] noncomputable def oLt : D → D → R D
  | .int i, .int j => .ok (.bl (decide (i < j)))
  | _, _ => .bad
@[simp] noncomputable def oLe : D → D → R D
  | .int i, .int j => .ok (.bl (decide (i ≤ j)))
  | _, _ => .bad
@[simp] noncomputable def oGt : D → D → R D
  | .int i, .int j => .ok (.bl (decide (j < i)))
  | _, _ => .bad
@[simp] noncomputable def oGe : D → D → R D
  | .int i, .int j => .ok (.bl (decide (j ≤ i)))
  | _, _ => .bad
@[simp] noncomputable def isNon : D → Bool
  | .non => true
  | _ => false
@[simp] noncomputable def isBl (b : Bool) : D → Bool
  | .bl c => b == c
  | _ => false
@[simp] noncomputable def oIsN (d : D) : R D := .ok (.bl (isNon d))
@[simp] noncomputable def oNotN (d : D) : R D := .ok (.bl (!isNon d))
@[simp] noncomputable def oIsB (b : Bool) : D → R D
  | .bl c => .ok (.bl (c == b))
  | _ => .bad
@[simp] noncomputable def oNotB (b : Bool) : D → R D
  | .bl c => .ok (.bl (!(c == b)))
  | _ => .bad
noncomputable def keyOf : D → Option Ky
  | .int i => some (.inl i)
  | .str x => some (.inr x)
  | _ => none
noncomputable def findK (k : Ky) : List Ky → List D → Option D
  | a :: ks, v :: vs => if a = k then some v else findK k ks vs
  | _, _ => none
@[simp] noncomputable def oIn : D → D → R D
  | .str _, .str _ => .bad
  | x, .lst ys => if flat x = true ∧ ys.all flat = true then .ok (.bl (ys.any fun y => eqD y x)) else .bad
  | x, .tup ys => if flat x = true ∧ ys.all flat = true then .ok (.bl (ys.any fun y => eqD y x)) else .bad
  | x, .dct ks vs => match keyOf x with
    | some k => .ok (.bl (findK k ks vs).isSome)
    | none => .bad
  | _, _ => .bad
@[simp] noncomputable def oNot : D → R D
  | .bl b => .ok (.bl (!b))
  | _ => .bad
@[simp] noncomputable def oNotIn (x y : D) : R D := (oIn x y).bind oNot
@[simp] noncomputable def oIxQ : D → D → R D
  | .lst xs, .int i => match atI xs i with
    | some v => .ok v
    | none => .bad
  | .tup xs, .int i => match atI xs i with
    | some v => .ok v
    | none => .bad
  | .str x, .int i => if x.length ≤ szL then match atI x.cps.toList i with
    | some c => .ok (.str ⟨#[c]⟩)
    | none => .bad else .bad
  | _, _ => .bad
@[simp] noncomputable def oIxD : D → D → R D
  | .dct ks vs, k => match keyOf k with
    | some q => match findK q ks vs with
      | some v => .ok v
      | none => .bad
    | none => .bad
  | _, _ => .bad
@[simp] noncomputable def oIx : D → D → R D
  | .lst xs, k => oIxQ (.lst xs) k
  | .tup xs, k => oIxQ (.tup xs) k
  | .str x, k => oIxQ (.str x) k
  | .dct ks vs, k => oIxD (.dct ks vs) k
  | _, _ => .bad
@[simp] noncomputable def oSl (lo hi : Option Int) : D → R D
  | .lst xs => .ok (.lst (cut xs lo hi))
  | .tup xs => if sIx xs.length 0 lo = 0 ∧ sIx xs.length xs.length hi = xs.length then .bad else .ok (.tup (cut xs lo hi))
  | _ => .bad
@[simp] noncomputable def oSlT (lo hi : Option Int) : D → R D
  | .str x => if x.length ≤ szL then .ok (.str ⟨(cut x.cps.toList lo hi).toArray⟩) else .bad
  | _ => .bad
@[simp] noncomputable def oLen : D → R D
  | .lst xs => .ok (.int xs.length)
  | .tup xs => .ok (.int xs.length)
  | .str x => if x.length ≤ szL then .ok (.int x.length) else .bad
  | _ => .bad
inductive Ty where
  | int | bool | str | tuple | list | dict
@[simp] noncomputable def oIsA : Ty → D → R D
  | .int, .int _ => .ok (.bl true)
  | .int, .bl _ => .ok (.bl true)
  | .bool, .bl _ => .ok (.bl true)
  | .str, .str _ => .ok (.bl true)
  | .tuple, .tup _ => .ok (.bl true)
  | .list, .lst _ => .ok (.bl true)
  | .dict, .dct _ _ => .ok (.bl true)
  | _, .exn _ _ _ => .bad
  | _, _ => .ok (.bl false)
@[simp] noncomputable def oList : D → R D
  | .lst xs => .ok (.lst xs)
  | .tup xs => .ok (.lst xs)
  | _ => .bad
@[simp] noncomputable def oTuple : D → R D
  | .lst xs => .ok (.tup xs)
  | .tup xs => .ok (.tup xs)
  | _ => .bad
noncomputable def allB : List D → R D
  | [] => .ok (.bl true)
  | .bl b :: r => (allB r).bind fun z => match z with
    | .bl k => .ok (.bl (b && k))
    | _ => .bad
  | _ => .bad
@[simp] noncomputable def oAll : D → R D
  | .lst xs => allB xs
  | _ => .bad
@[simp] noncomputable def oInt : D → R D
  | .int i => .ok (.int i)
  | .bl b => .ok (.int (if b then 1 else 0))
  | _ => .bad
@[simp] noncomputable def oStr : D → R D
  | .int i => if 0 ≤ i ∧ i < 10 ^ 100 then .ok (.str (Str.ofString (toString i))) else .bad
  | _ => .bad
@[simp] noncomputable def oMin : D → D → R D
  | .int i, .int j => .ok (.int (if j < i then j else i))
  | _, _ => .bad
noncomputable def findS (x : List Nat) : Nat → List Nat → Option Nat
  | k, [] => if x = [] then some k else none
  | k, c :: r => if (c :: r).take x.length = x then some k else findS x (k + 1) r
@[simp] noncomputable def oFind : D → D → R D
  | .str y, .str x => .ok (.int (match findS x.cps.toList 0 y.cps.toList with
    | some k => (k : Int)
    | none => -1))
  | _, _ => .bad
noncomputable def indexD (x : D) : Nat → List D → R D
  | _, [] => .bad
  | k, y :: r => if eqD y x = true then .ok (.int k) else indexD x (k + 1) r
@[simp] noncomputable def oIndex : D → D → R D
  | .tup ys, x => if flat x = true ∧ ys.all flat = true then indexD x 0 ys else .bad
  | .lst ys, x => if flat x = true ∧ ys.all flat = true then indexD x 0 ys else .bad
  | _, _ => .bad
noncomputable def strsOf : List D → Option (List Str)
  | [] => some []
  | .str x :: r => (strsOf r).map (x :: ·)
  | _ => none
@[simp] noncomputable def oJoin : D → D → R D
  | .str x, .lst ys => match strsOf ys with
    | some zs => if (Str.join x zs).length ≤ szL then .ok (.str (Str.join x zs)) else .bad
    | none => .bad
  | _, _ => .bad
@[simp] noncomputable def oGet (e : D) : D → D → R D
  | .dct ks vs, k => match keyOf k with
    | some q => .ok ((findK q ks vs).getD e)
    | none => .bad
  | _, _ => .bad
@[simp] noncomputable def eVar (i : Nat) : Ex := fun ρ => match ρ[i]? with
  | some (.sh d) => .ok d
  | _ => .bad
@[simp] noncomputable def eC (d : D) : Ex := fun _ => .ok d
@[simp] noncomputable def e1 (g : D → R D) (a : Ex) : Ex := fun ρ => (a ρ).bind g
@[simp] noncomputable def e2 (g : D → D → R D) (a b : Ex) : Ex := fun ρ => (a ρ).bind fun x => (b ρ).bind fun y => g x y
@[simp] noncomputable def eAnd (a b : Ex) : Ex := fun ρ => (a ρ).bind fun x => match x with
  | .bl true => b ρ
  | .bl false => .ok (.bl false)
  | _ => .bad
@[simp] noncomputable def eOr (a b : Ex) : Ex := fun ρ => (a ρ).bind fun x => match x with
  | .bl true => .ok (.bl true)
  | .bl false => b ρ
  | _ => .bad
@[simp] noncomputable def eIf (c : Tst) (a b : Ex) : Ex := fun ρ => (c ρ).bind fun t => if t = true then a ρ else b ρ
@[simp] noncomputable def eList : List Ex → En → R (List D)
  | [], _ => .ok []
  | e :: es, ρ => (e ρ).bind fun x => (eList es ρ).bind fun xs => .ok (x :: xs)
@[simp] noncomputable def eTup (es : List Ex) : Ex := fun ρ => (eList es ρ).bind fun xs => .ok (.tup xs)
@[simp] noncomputable def eLst (es : List Ex) : Ex := fun ρ => (eList es ρ).bind fun xs => .ok (.lst xs)
@[simp] noncomputable def eCall (f : List D → R D) (es : List Ex) : Ex := fun ρ => (eList es ρ).bind f
@[simp] noncomputable def eChain (g h : D → D → R D) (a b c : Ex) : Ex := fun ρ => (a ρ).bind fun x => (b ρ).bind fun y => (g x y).bind fun z => match z with
  | .bl true => (c ρ).bind fun w => h y w
  | .bl false => .ok (.bl false)
  | _ => .bad
@[simp] noncomputable def eDict (ks : List Ky) (es : List Ex) : Ex := fun ρ => (eList es ρ).bind fun xs => .ok (.dct ks xs)
@[simp] noncomputable def eOpt : Option Ex → En → R (Option Int)
  | none, _ => .ok none
  | some e, ρ => (e ρ).bind fun x => match x with
    | .int i => .ok (some i)
    | _ => .bad
@[simp] noncomputable def eSl (a : Ex) (lo hi : Option Ex) : Ex := fun ρ => (a ρ).bind fun x => (eOpt lo ρ).bind fun l => (eOpt hi ρ).bind fun u => oSl l u x
@[simp] noncomputable def tV (a : Ex) : Tst := fun ρ => (a ρ).bind truth
@[simp] noncomputable def tAnd (a b : Tst) : Tst := fun ρ => (a ρ).bind fun t => if t = true then b ρ else .ok false
@[simp] noncomputable def tOr (a b : Tst) : Tst := fun ρ => (a ρ).bind fun t => if t = true then .ok true else b ρ
@[simp] noncomputable def tNot (a : Tst) : Tst := fun ρ => (a ρ).bind fun t => .ok (!t)
@[simp] noncomputable def eLenO (i : Nat) : Ex := fun ρ => match ρ[i]? with
  | some (.ol xs) => .ok (.int xs.length)
  | some (.od ks _) => .ok (.int ks.length)
  | _ => .bad
@[simp] noncomputable def eIxO (i : Nat) (e : Ex) : Ex := fun ρ => (e ρ).bind fun x => match ρ[i]? with
  | some (.ol xs) => oIx (.lst xs) x
  | some (.od ks vs) => oIxD (.dct ks vs) x
  | _ => .bad
@[simp] noncomputable def eLenL (i : Nat) : Ex := fun ρ => match ρ[i]? with
  | some (.ol xs) => .ok (.int xs.length)
  | _ => .bad
@[simp] noncomputable def eIxL (i : Nat) (e : Ex) : Ex := fun ρ => (e ρ).bind fun x => match ρ[i]? with
  | some (.ol xs) => oIxQ (.lst xs) x
  | _ => .bad
noncomputable abbrev Itr := En → R (List D)
@[simp] noncomputable def items : D → R (List D)
  | .lst xs => .ok xs
  | .tup xs => .ok xs
  | .str x => .ok (x.cps.toList.map fun c => .str ⟨#[c]⟩)
  | _ => .bad
@[simp] noncomputable def iSeq (a : Ex) : Itr := fun ρ => (a ρ).bind items
noncomputable def rangeL (i j : Int) : List D := (List.range (j - i).toNat).map fun (k : Nat) => .int (i + (k : Int))
@[simp] noncomputable def iRng1 (a : Ex) : Itr := fun ρ => (a ρ).bind fun x => match x with
  | .int j => if inR j = true then .ok (rangeL 0 j) else .bad
  | _ => .bad
@[simp] noncomputable def iRng2 (a b : Ex) : Itr := fun ρ => (a ρ).bind fun x => (b ρ).bind fun y => match x, y with
  | .int i, .int j => if (inR i && inR j) = true then .ok (rangeL i j) else .bad
  | _, _ => .bad
@[simp] noncomputable def zipD : List D → List D → List D
  | x :: xs, y :: ys => .tup [x, y] :: zipD xs ys
  | _, _ => []
@[simp] noncomputable def iZip (a b : Ex) : Itr := fun ρ => (a ρ).bind fun x => (b ρ).bind fun y => (items x).bind fun xs => (items y).bind fun ys => .ok (zipD xs ys)
@[simp] noncomputable def enumD : Nat → List D → List D
  | _, [] => []
  | k, x :: xs => .tup [.int k, x] :: enumD (k + 1) xs
@[simp] noncomputable def iEnum (a : Ex) : Itr := fun ρ => (a ρ).bind fun x => (items x).bind fun xs => .ok (enumD 0 xs)
noncomputable abbrev Tgt := D → En → R En
@[simp] noncomputable def gName (i : Nat) : Tgt := fun d ρ => .ok (ρ.set i (.sh d))
@[simp] noncomputable def gNames : List Nat → List D → En → R En
  | [], [], ρ => .ok ρ
  | i :: is, d :: ds, ρ => gNames is ds (ρ.set i (.sh d))
  | _, _, _ => .bad
@[simp] noncomputable def gTup (is : List Nat) : Tgt := fun d ρ => match d with
  | .tup ds => gNames is ds ρ
  | _ => .bad
@[simp] noncomputable def shOnly : Option Slot → Slot
  | some (.sh d) => .sh d
  | _ => .un
@[simp] noncomputable def frees (ρ : En) (fv : List Nat) : En := fv.map fun i => shOnly ρ[i]?
noncomputable def compL (tg : Tgt) (cs : List Tst) (el : Ex) (ρ : En) : List D → R (List D)
  | [] => .ok []
  | d :: ds => (tg d ρ).bind fun ρ1 => (allT cs ρ1).bind fun t =>
    if t = true then (el ρ1).bind fun y => (compL tg cs el ρ ds).bind fun ys => .ok (y :: ys) else compL tg cs el ρ ds
where allT : List Tst → En → R Bool
  | [], _ => .ok true
  | c :: cs, ρ => (c ρ).bind fun t => if t = true then allT cs ρ else .ok false
@[simp] noncomputable def eComp (it : Itr) (n : Nat) (fv : List Nat) (tg : Tgt) (cs : List Tst) (el : Ex) : Ex := fun ρ => (it ρ).bind fun ds =>
  if ds.length ≤ szL then (compL tg cs el (List.replicate n .un ++ frees ρ fv) ds).bind fun ys => .ok (.lst ys) else .bad
inductive Fl where
  | next (ρ : En) | ret (d : D) | brk (ρ : En) | cont (ρ : En) | retN (d : D)
noncomputable abbrev Sm := En → R Fl
@[simp] noncomputable def sNil : Sm := fun ρ => .ok (.next ρ)
@[simp] noncomputable def sSeq (a b : Sm) : Sm := fun ρ => (a ρ).bind fun f => match f with
  | .next ρ' => b ρ'
  | f => .ok f
@[simp] noncomputable def sBlk : List Sm → Sm
  | [] => sNil
  | a :: r => sSeq a (sBlk r)
@[simp] noncomputable def sIf (c : Tst) (a b : Sm) : Sm := fun ρ => (c ρ).bind fun t => if t = true then a ρ else b ρ
@[simp] noncomputable def sAsg (g : Tgt) (e : Ex) : Sm := fun ρ => (e ρ).bind fun d => (g d ρ).bind fun ρ' => .ok (.next ρ')
@[simp] noncomputable def sRet (e : Ex) : Sm := fun ρ => (e ρ).bind fun d => .ok (.ret d)
@[simp] noncomputable def sRetN : Sm := fun _ => .ok (.ret .non)
@[simp] noncomputable def sDrop (e : Ex) : Sm := fun ρ => (e ρ).bind fun _ => .ok (.next ρ)
@[simp] noncomputable def sNever : Sm := fun _ => .bad
@[simp] noncomputable def sOwnL (i : Nat) (e : Ex) : Sm := fun ρ => (e ρ).bind fun d => match d with
  | .lst xs => .ok (.next (ρ.set i (.ol xs)))
  | _ => .bad
@[simp] noncomputable def sOwnD (i : Nat) (e : Ex) : Sm := fun ρ => (e ρ).bind fun d => match d with
  | .dct ks vs => .ok (.next (ρ.set i (.od ks vs)))
  | _ => .bad
@[simp] noncomputable def sFreeze (i : Nat) : Sm := fun ρ => match ρ[i]? with
  | some (.ol xs) => .ok (.next (ρ.set i (.sh (.lst xs))))
  | some (.od ks vs) => .ok (.next (ρ.set i (.sh (.dct ks vs))))
  | _ => .bad
@[simp] noncomputable def sAppend (i : Nat) (e : Ex) : Sm := fun ρ => (e ρ).bind fun d => match ρ[i]? with
  | some (.ol xs) => if xs.length < szL then .ok (.next (ρ.set i (.ol (xs ++ [d])))) else .bad
  | _ => .bad
@[simp] noncomputable def sSetO (i : Nat) (k e : Ex) : Sm := fun ρ => (e ρ).bind fun d => (k ρ).bind fun q => match ρ[i]?, q with
  | some (.ol xs), .int j => match ixN xs.length j with
    | some m => .ok (.next (ρ.set i (.ol (xs.set m d))))
    | none => .bad
  | _, _ => .bad
noncomputable def putK (k : Ky) (d : D) : List Ky → List D → List Ky × List D
  | a :: ks, v :: vs => if a = k then (a :: ks, d :: vs) else ((a :: (putK k d ks vs).1), (v :: (putK k d ks vs).2))
  | _, _ => ([k], [d])
@[simp] noncomputable def sPutO (i : Nat) (k e : Ex) : Sm := fun ρ => (e ρ).bind fun d => (k ρ).bind fun q => match ρ[i]?, keyOf q with
  | some (.od ks vs), some y => if ks.length < 1000 then .ok (.next (ρ.set i (.od (putK y d ks vs).1 (putK y d ks vs).2))) else .bad
  | _, _ => .bad
noncomputable def forL (tg : Tgt) (body : Sm) : List D → En → R Fl
  | [], ρ => .ok (.next ρ)
  | d :: ds, ρ => (tg d ρ).bind fun ρ1 => (body ρ1).bind fun f => match f with
    | .next ρ2 => forL tg body ds ρ2
    | .cont ρ2 => forL tg body ds ρ2
    | .brk ρ2 => .ok (.next ρ2)
    | .ret d => .ok (.ret d)
    | .retN d => .ok (.retN d)
@[simp] noncomputable def sFor (it : Itr) (tg : Tgt) (body : Sm) : Sm := fun ρ => (it ρ).bind fun ds => forL tg body ds ρ
@[simp] noncomputable def fn (n : Nat) (body : Sm) : List D → R D := fun ds => (body (ds.map .sh ++ List.replicate (n - ds.length) .un)).bind fun f => match f with
  | .ret d => .ok d
  | .next _ => .ok .non
  | _ => .bad
@[simp] noncomputable def sRetO (i : Nat) : Sm := fun ρ => match ρ[i]? with
  | some (.ol xs) => .ok (.retN (.lst xs))
  | _ => .bad
@[simp] noncomputable def fnN (n : Nat) (body : Sm) : List D → R D := fun ds => (body (ds.map .sh ++ List.replicate (n - ds.length) .un)).bind fun f => match f with
  | .retN (.lst xs) => .ok (.lst xs)
  | _ => .bad
end PL
set_option Elab.async false
set_option linter.all false
set_option maxRecDepth 100000
namespace PL
open PySem PySem.Spec
open L2 (V Hp HO Cx PE PT PW PA PS PSs St VK TE TT TA TS TI Inv RelV Vals Rd SqL SqT upd Same Key XK Ends)
structure Md where
  K : PySem.W.Frag
  P : Program
  w : World
noncomputable abbrev mdOf (X : Cx) : Md := ⟨X.K, X.prog, X.w⟩
noncomputable def LsR (M : Md) (H : Hp) (F : Addr → Prop) (a : Addr) (xs : List V) : Prop :=
  (¬ F a ∧ Rd H a (.lst xs)) ∨ ∃ (o : Obj) (its : Array Value) (n : Nat), M.K.lookup a = some o ∧ o.cls = .type "list" ∧ o.dict = none ∧ o.data = .seq its n ∧ its.size ≤ sizeLine ∧ Vals xs its.toList
noncomputable def TpR (M : Md) (H : Hp) (F : Addr → Prop) (a : Addr) (xs : List V) : Prop :=
  (¬ F a ∧ Rd H a (.tup xs)) ∨ ∃ (o : Obj) (its : Array Value) (n : Nat), M.K.lookup a = some o ∧ o.cls = .type "tuple" ∧ o.data = .seq its n ∧ its.size ≤ sizeLine ∧ Vals xs its.toList
noncomputable def DcR (M : Md) (H : Hp) (F : Addr → Prop) (a : Addr) (kvs : List (Key × V)) : Prop :=
  (¬ F a ∧ Rd H a (.dK kvs)) ∨ ∃ (o : Obj) (es : Array DictEntry) (ep : Nat) (vs : List (Key × Value)), M.K.lookup a = some o ∧ o.ExactDict ∧ o.data = .dict es ep ∧ KeysOf (L2.mixKind M.P M.w) es ∧ Pairs (L2.mixKind M.P M.w) es.toList vs ∧
    (vs.map (·.1)).Nodup ∧ L2.KV kvs vs ∧ kvs.length ≤ sizeLine ∧ (a == sysModules) = false
theorem LsR.sq {M : Md} {H : Hp} {F : Addr → Prop} {a : Addr} {xs : List V} (h : LsR M H F a xs) : SqL M.K H a xs := h.elim (fun h => .inl h.2) .inr
theorem TpR.sq {M : Md} {H : Hp} {F : Addr → Prop} {a : Addr} {xs : List V} (h : TpR M H F a xs) : SqT M.K H a xs := h.elim (fun h => .inl h.2) .inr
noncomputable def exO (a C : Addr) : HO := .ext fun h => ∃ o, h.get? a = some o ∧ o.cls = .ref C ∧ ∃ vs, o.data = .fields vs
mutual
noncomputable def Rep (M : Md) (H : Hp) (F : Addr → Prop) : D → V → Prop
  | .non, v => v = .non
  | .bl b, v => v = .bl b
  | .int i, v => v = .int i
  | .str x, v => v = .str x
  | .tup ds, v => ∃ a xs, v = .ref a ∧ TpR M H F a xs ∧ Reps M H F ds xs
  | .lst ds, v => ∃ a xs, v = .ref a ∧ LsR M H F a xs ∧ Reps M H F ds xs
  | .dct ks ds, v => ∃ a xs, v = .ref a ∧ DcR M H F a (ks.zip xs) ∧ ks.length = xs.length ∧ Reps M H F ds xs
  | .exn c ns ds, v => ∃ (a : Addr) (_u : Unit), v = .ref a ∧ ¬ F a ∧ ((ns = [] ∧ ∃ C, H a = some (exO a C) ∧ PySem.W.nsIn M.K mainGlobals c = some (some (.ref C))) ∨ (ns ≠ [] ∧ ∃ o xs, H a = some (.frz o (.tup xs)) ∧ o.dict = none ∧ Reps M H F ds xs))
noncomputable def Reps (M : Md) (H : Hp) (F : Addr → Prop) : List D → List V → Prop
  | [], xs => xs = []
  | d :: ds, xs => ∃ x r, xs = x :: r ∧ Rep M H F d x ∧ Reps M H F ds r
end
noncomputable def Mv (F : Addr → Prop) (H : Hp) (F' : Addr → Prop) (H' : Hp) : Prop := ∀ a o, ¬ F a → H a = some o → ¬ F' a ∧ H' a = some o
theorem Mv.same {F : Addr → Prop} {H H' : Hp} (h : Same H H') : Mv F H F H' := fun a o n e => ⟨n, h a o e⟩
theorem Mv.trans {F F1 F2 : Addr → Prop} {H H1 H2 : Hp} (a : Mv F H F1 H1) (b : Mv F1 H1 F2 H2) : Mv F H F2 H2 := fun c o n e => b c o (a c o n e).1 (a c o n e).2
section
variable {M : Md} {H H' : Hp} {F F' : Addr → Prop} {a : Addr} {xs : List V}
theorem rd_mv (m : Mv F H F' H') {u : HO} (n : ¬ F a) (h : Rd H a u) : ¬ F' a ∧ Rd H' a u := by
  rcases h with h | ⟨o, h⟩
  · exact ⟨(m _ _ n h).1, .inl (m _ _ n h).2⟩
  · exact ⟨(m _ _ n h).1, .inr ⟨o, (m _ _ n h).2⟩⟩
theorem LsR.mv (m : Mv F H F' H') (h : LsR M H F a xs) : LsR M H' F' a xs := by
  rcases h with ⟨n, h⟩ | h
  · exact .inl (rd_mv m n h)
  · exact .inr h
theorem TpR.mv (m : Mv F H F' H') (h : TpR M H F a xs) : TpR M H' F' a xs := by
  rcases h with ⟨n, h⟩ | h
  · exact .inl (rd_mv m n h)
  · exact .inr h
theorem DcR.mv {kvs : List (Key × V)} (m : Mv F H F' H') (h : DcR M H F a kvs) : DcR M H' F' a kvs := by
  rcases h with ⟨n, h⟩ | h
  · exact .inl (rd_mv m n h)
  · exact .inr h
mutual
theorem Rep.mv (m : Mv F H F' H') : ∀ {d : D} {v : V}, Rep M H F d v → Rep M H' F' d v
  | .non, _, h => by simp only [Rep] at h ⊢; exact h
  | .bl _, _, h => by simp only [Rep] at h ⊢; exact h
  | .int _, _, h => by simp only [Rep] at h ⊢; exact h
  | .str _, _, h => by simp only [Rep] at h ⊢; exact h
  | .tup ds, _, h => by
    simp only [Rep] at h ⊢
    obtain ⟨a, xs, e, t, r⟩ := h
    exact ⟨a, xs, e, t.mv m, Reps.mv m r⟩
  | .lst ds, _, h => by
    simp only [Rep] at h ⊢
    obtain ⟨a, xs, e, t, r⟩ := h
    exact ⟨a, xs, e, t.mv m, Reps.mv m r⟩
  | .dct ks ds, _, h => by
    simp only [Rep] at h ⊢
    obtain ⟨a, xs, e, t, l, r⟩ := h
    exact ⟨a, xs, e, t.mv m, l, Reps.mv m r⟩
  | .exn _ _ _, _, h => by
    simp only [Rep] at h ⊢
    obtain ⟨a, _, e, n, h⟩ := h
    rcases h with ⟨z, C, q, k⟩ | ⟨z, o, xs, q, hd, r⟩
    · exact ⟨a, (), e, (m _ _ n q).1, .inl ⟨z, C, (m _ _ n q).2, k⟩⟩
    · exact ⟨a, (), e, (m _ _ n q).1, .inr ⟨z, o, xs, (m _ _ n q).2, hd, Reps.mv m r⟩⟩
theorem Reps.mv (m : Mv F H F' H') : ∀ {ds : List D} {xs : List V}, Reps M H F ds xs → Reps M H' F' ds xs
  | [], _, h => by simp only [Reps] at h ⊢; exact h
  | d :: ds, _, h => by
    simp only [Reps] at h ⊢
    obtain ⟨x, r, e, h1, h2⟩ := h
    exact ⟨x, r, e, Rep.mv m h1, Reps.mv m h2⟩
end
theorem Reps.length : ∀ {ds : List D} {xs : List V}, Reps M H F ds xs → ds.length = xs.length
  | [], _, h => by simp only [Reps] at h; subst h; rfl
  | d :: ds, _, h => by
    simp only [Reps] at h
    obtain ⟨x, r, rfl, _, h2⟩ := h
    simp [Reps.length h2]
theorem Reps.get : ∀ {ds : List D} {xs : List V} {i : Nat} {d : D}, Reps M H F ds xs → ds[i]? = some d → ∃ x, xs[i]? = some x ∧ Rep M H F d x
  | [], _, _, _, _, e => by simp at e
  | d :: ds, _, 0, _, h, e => by
    simp only [Reps] at h
    obtain ⟨x, r, rfl, h1, _⟩ := h
    simp at e; subst e
    exact ⟨x, rfl, h1⟩
  | d :: ds, _, i + 1, _, h, e => by
    simp only [Reps] at h
    obtain ⟨x, r, rfl, _, h2⟩ := h
    obtain ⟨y, e1, h3⟩ := Reps.get h2 (by simpa using e)
    exact ⟨y, by simpa using e1, h3⟩
theorem Reps.append : ∀ {ds es : List D} {xs ys : List V}, Reps M H F ds xs → Reps M H F es ys → Reps M H F (ds ++ es) (xs ++ ys)
  | [], _, _, _, h, g => by simp only [Reps] at h; subst h; exact g
  | d :: ds, _, _, _, h, g => by
    simp only [Reps] at h
    obtain ⟨x, r, rfl, h1, h2⟩ := h
    simp only [List.cons_append, Reps]
    exact ⟨x, _, rfl, h1, Reps.append h2 g⟩
theorem Reps.take : ∀ {ds : List D} {xs : List V} (n : Nat), Reps M H F ds xs → Reps M H F (ds.take n) (xs.take n)
  | _, _, 0, _ => by simp [Reps]
  | [], _, n + 1, h => by simp only [Reps] at h; subst h; simp [Reps]
  | d :: ds, _, n + 1, h => by
    simp only [Reps] at h
    obtain ⟨x, r, rfl, h1, h2⟩ := h
    simp only [List.take_succ_cons, Reps]
    exact ⟨x, _, rfl, h1, Reps.take n h2⟩
theorem Reps.drop : ∀ {ds : List D} {xs : List V} (n : Nat), Reps M H F ds xs → Reps M H F (ds.drop n) (xs.drop n)
  | _, _, 0, h => h
  | [], _, n + 1, h => by simp only [Reps] at h; subst h; simp [Reps]
  | d :: ds, _, n + 1, h => by
    simp only [Reps] at h
    obtain ⟨x, r, rfl, h1, h2⟩ := h
    exact Reps.drop n h2
theorem Reps.nil : Reps M H F [] [] := by simp [Reps]
theorem Reps.cons {d : D} {x : V} {ds : List D} (h : Rep M H F d x) (t : Reps M H F ds xs) : Reps M H F (d :: ds) (x :: xs) := by
  simp only [Reps]; exact ⟨_, _, rfl, h, t⟩
end
noncomputable def Owned (ρ : En) (i : Nat) : Prop := (∃ ds, ρ[i]? = some (.ol ds)) ∨ ∃ ks ds, ρ[i]? = some (.od ks ds)
noncomputable def OnAt (H : Hp) (σ : St) (i : Nat) (b : Addr) : Prop := ∃ a vs, σ[i]? = some (some (.ref a)) ∧ H a = some (.lst vs) ∧ (b = a ∨ V.ref b ∈ vs)
noncomputable def Inn (M : Md) (H : Hp) (F : Addr → Prop) : List Addr → List (List D) → Prop
  | [], [] => True
  | b :: bs, ds :: dss => F b ∧ (∃ xs, H b = some (.lst xs) ∧ Reps M H F ds xs) ∧ Inn M H F bs dss
  | _, _ => False
noncomputable def OnR (M : Md) (H : Hp) (F : Addr → Prop) (σ : St) (ρ : En) : Prop := ∀ i xss, ρ[i]? = some (.on xss) →
  (∃ a bs, σ[i]? = some (some (.ref a)) ∧ F a ∧ H a = some (.lst (bs.map V.ref)) ∧ (a :: bs).Nodup ∧ Inn M H F bs xss) ∧
  (∀ b, OnAt H σ i b → ∀ j, Owned ρ j → σ[j]? ≠ some (some (.ref b))) ∧ ∀ j yss, ρ[j]? = some (.on yss) → j = i
theorem OnR.no {M : Md} {H : Hp} {F : Addr → Prop} {σ : St} {ρ : En} (h : ∀ (i : Nat) xss, ρ[i]? ≠ some (.on xss)) : OnR M H F σ ρ := fun i xss e => absurd e (h i xss)
theorem Inn.mv {M : Md} {H H' : Hp} {F F' : Addr → Prop} (m : Mv F H F' H') : ∀ {bs : List Addr} {xss : List (List D)}, (∀ b ∈ bs, ∀ u, F b → H b = some u → F' b ∧ H' b = some u) → Inn M H F bs xss → Inn M H' F' bs xss
  | [], [], _, _ => by simp only [Inn]
  | b :: bs, ds :: dss, k, h => by
    simp only [Inn] at h ⊢
    obtain ⟨f, ⟨xs, e, r⟩, t⟩ := h
    obtain ⟨f', e'⟩ := k b List.mem_cons_self _ f e
    exact ⟨f', ⟨xs, e', r.mv m⟩, Inn.mv m (fun c hc => k c (List.mem_cons_of_mem _ hc)) t⟩
  | [], _ :: _, _, h => by simp only [Inn] at h
  | _ :: _, [], _, h => by simp only [Inn] at h
theorem OnR.mv {M : Md} {H H' : Hp} {F F' : Addr → Prop} {σ σ' : St} {ρ ρ' : En} (r : OnR M H F σ ρ) (m : Mv F H F' H') (hρ : ∀ (j : Nat) xss, ρ'[j]? = some (.on xss) → ρ[j]? = some (.on xss) ∧ σ'[j]? = σ[j]?)
    (hk : ∀ (j : Nat) xss b u, ρ'[j]? = some (.on xss) → OnAt H σ j b → F b → H b = some u → F' b ∧ H' b = some u)
    (ho : ∀ (j : Nat) xss b, ρ'[j]? = some (.on xss) → OnAt H σ j b → ∀ k : Nat, Owned ρ' k → σ'[k]? ≠ some (some (.ref b))) : OnR M H' F' σ' ρ' := fun i xss e => by
  obtain ⟨e0, es⟩ := hρ i xss e
  obtain ⟨⟨a, bs, h1, fa, ha, nd, inn⟩, h2, h3⟩ := r i xss e0
  obtain ⟨fa', ha'⟩ := hk i xss a _ e ⟨a, _, h1, ha, .inl rfl⟩ fa ha
  refine ⟨⟨a, bs, by rw [es]; exact h1, fa', ha', nd, inn.mv m fun b hb u f eb => hk i xss b u e ⟨a, _, h1, ha, .inr (List.mem_map_of_mem hb)⟩ f eb⟩, fun b hb k ok => ?_, fun j yss ej => h3 j yss (hρ j yss ej).1⟩
  refine ho i xss b e ?_ k ok
  obtain ⟨a', vs, g1, g2, g3⟩ := hb
  rw [es, h1] at g1
  cases g1
  rw [ha'] at g2
  cases g2
  exact ⟨a, _, h1, ha, g3⟩
theorem OnR.back {M : Md} {H H' : Hp} {F : Addr → Prop} {σ σ' : St} {ρ : En} {i : Nat} {xss : List (List D)} {b : Addr} (r : OnR M H F σ ρ) (e : ρ[i]? = some (.on xss)) (hs : σ'[i]? = σ[i]?)
    (hk : ∀ a u, OnAt H σ i a → F a → H a = some u → H' a = some u) (h : OnAt H' σ' i b) : OnAt H σ i b := by
  obtain ⟨⟨a, bs, h1, fa, ha, _, _⟩, _⟩ := r i xss e
  obtain ⟨a', vs, g1, g2, g3⟩ := h
  rw [hs, h1] at g1
  cases g1
  rw [hk a _ ⟨a, _, h1, ha, .inl rfl⟩ fa ha] at g2
  cases g2
  exact ⟨a, _, h1, ha, g3⟩
theorem Inn.fs {M : Md} {H : Hp} {F : Addr → Prop} : ∀ {bs : List Addr} {xss : List (List D)}, Inn M H F bs xss → ∀ b ∈ bs, F b ∧ ∃ xs, H b = some (.lst xs)
  | [], [], _, _, hb => by cases hb
  | b :: bs, ds :: dss, h, c, hc => by
    simp only [Inn] at h
    obtain ⟨f, ⟨xs, e, _⟩, t⟩ := h
    rcases List.mem_cons.mp hc with rfl | hc
    · exact ⟨f, xs, e⟩
    · exact Inn.fs t c hc
  | [], _ :: _, h, _, _ => by simp only [Inn] at h
  | _ :: _, [], h, _, _ => by simp only [Inn] at h
theorem OnR.f {M : Md} {H : Hp} {F : Addr → Prop} {σ : St} {ρ : En} {i : Nat} {xss : List (List D)} {b : Addr} (r : OnR M H F σ ρ) (e : ρ[i]? = some (.on xss)) (h : OnAt H σ i b) : F b ∧ ∃ xs, H b = some (.lst xs) := by
  obtain ⟨⟨a, bs, h1, fa, ha, _, inn⟩, _⟩ := r i xss e
  obtain ⟨a', vs, g1, g2, g3⟩ := h
  rw [h1] at g1
  cases g1
  rw [ha] at g2
  cases g2
  rcases g3 with rfl | g3
  · exact ⟨fa, _, ha⟩
  · obtain ⟨c, hc, z⟩ := List.mem_map.mp g3
    cases z
    exact inn.fs _ hc
structure RepS (M : Md) (H : Hp) (F : Addr → Prop) (σ : St) (ρ : En) : Prop where
  len : ρ.length = σ.length
  trk : ∀ a, F a → ∃ o, H a = some o
  sh : ∀ (i : Nat) d, ρ[i]? = some (.sh d) → ∃ v, σ[i]? = some (some v) ∧ Rep M H F d v
  ol : ∀ (i : Nat) ds, ρ[i]? = some (.ol ds) → ∃ a xs, σ[i]? = some (some (.ref a)) ∧ F a ∧ H a = some (.lst xs) ∧ Reps M H F ds xs
  od : ∀ (i : Nat) ks ds, ρ[i]? = some (.od ks ds) → ∃ a xs, σ[i]? = some (some (.ref a)) ∧ F a ∧ H a = some (.dK (ks.zip xs)) ∧ ks.length = xs.length ∧ Reps M H F ds xs
  dis : ∀ (i j : Nat) a, Owned ρ i → Owned ρ j → σ[i]? = some (some (.ref a)) → σ[j]? = some (some (.ref a)) → i = j
  on : OnR M H F σ ρ
section
variable {M : Md} {H H' : Hp} {F F' : Addr → Prop} {σ : St} {ρ : En}
theorem RepS.same (r : RepS M H F σ ρ) (h : Same H H') : RepS M H' F σ ρ where
  len := r.len
  trk a f := let ⟨o, e⟩ := r.trk a f; ⟨o, h _ _ e⟩
  sh i d e := let ⟨v, e1, q⟩ := r.sh i d e; ⟨v, e1, q.mv (.same h)⟩
  ol i ds e := let ⟨a, xs, e1, f, e2, q⟩ := r.ol i ds e; ⟨a, xs, e1, f, h _ _ e2, q.mv (.same h)⟩
  od i ks ds e := let ⟨a, xs, e1, f, e2, l, q⟩ := r.od i ks ds e; ⟨a, xs, e1, f, h _ _ e2, l, q.mv (.same h)⟩
  dis := r.dis
  on := r.on.mv (.same h) (fun j xss e => ⟨e, rfl⟩) (fun j xss b u e hb f hu => ⟨f, h _ _ hu⟩) fun j xss b e hb k ok => (r.on j xss e).2.1 b hb k ok
theorem get_set {α : Type} {l : List α} {i j : Nat} {x y : α} (h : (l.set i x)[j]? = some y) : (i = j ∧ x = y ∧ i < l.length) ∨ (i ≠ j ∧ l[j]? = some y) := by
  by_cases e : i = j
  · subst e
    rw [List.getElem?_set_self'] at h
    cases q : l[i]? with
    | none => rw [q] at h; cases h
    | some z =>
      rw [q] at h
      obtain ⟨hl, _⟩ := List.getElem?_eq_some_iff.mp q
      simp at h
      exact .inl ⟨rfl, h, hl⟩
  · rw [List.getElem?_set_ne e] at h
    exact .inr ⟨e, h⟩
theorem RepS.setSh {i : Nat} {d : D} {v : V} (r : RepS M H F σ ρ) (h : Rep M H F d v) : RepS M H F (σ.set i (some v)) (ρ.set i (.sh d)) where
  len := by simp [r.len]
  trk := r.trk
  sh j e q := by
    rcases get_set q with ⟨rfl, hx, hl⟩ | ⟨hne, q⟩
    · cases hx
      exact ⟨v, by rw [List.getElem?_set_self (by rw [← r.len]; exact hl)], h⟩
    · obtain ⟨w, e1, g⟩ := r.sh j e q
      exact ⟨w, by rw [List.getElem?_set_ne hne]; exact e1, g⟩
  ol j e q := by
    rcases get_set q with ⟨rfl, x, hl⟩ | ⟨hne, q⟩
    · cases x
    · obtain ⟨a, xs, e1, g⟩ := r.ol j e q
      exact ⟨a, xs, by rw [List.getElem?_set_ne hne]; exact e1, g⟩
  od j k e q := by
    rcases get_set q with ⟨rfl, x, hl⟩ | ⟨hne, q⟩
    · cases x
    · obtain ⟨a, xs, e1, g⟩ := r.od j k e q
      exact ⟨a, xs, by rw [List.getElem?_set_ne hne]; exact e1, g⟩
  dis j k a oj ok ej ek := by
    have nj : i ≠ j := by
      rintro rfl
      rcases oj with ⟨ds, q⟩ | ⟨ks, ds, q⟩
      · rcases get_set q with ⟨_, x, _⟩ | ⟨hne, _⟩
        · cases x
        · exact hne rfl
      · rcases get_set q with ⟨_, x, _⟩ | ⟨hne, _⟩
        · cases x
        · exact hne rfl
    have nk : i ≠ k := by
      rintro rfl
      rcases ok with ⟨ds, q⟩ | ⟨ks, ds, q⟩
      · rcases get_set q with ⟨_, x, _⟩ | ⟨hne, _⟩
        · cases x
        · exact hne rfl
      · rcases get_set q with ⟨_, x, _⟩ | ⟨hne, _⟩
        · cases x
        · exact hne rfl
    rw [List.getElem?_set_ne nj] at ej
    rw [List.getElem?_set_ne nk] at ek
    refine r.dis j k a ?_ ?_ ej ek
    · unfold Owned at oj; simp only [List.getElem?_set_ne nj] at oj; exact oj
    · unfold Owned at ok; simp only [List.getElem?_set_ne nk] at ok; exact ok
  on := r.on.mv (fun _ _ n e => ⟨n, e⟩) (fun j xss e => by
      rcases get_set e with ⟨_, x, _⟩ | ⟨hne, e⟩
      · cases x
      · exact ⟨e, List.getElem?_set_ne hne⟩) (fun j xss b u e hb f hu => ⟨f, hu⟩) fun j xss b e hb k ok => by
    have e0 : ρ[j]? = some (.on xss) := by
      rcases get_set e with ⟨_, x, _⟩ | ⟨hne, e⟩
      · cases x
      · exact e
    have nk : i ≠ k := by
      rintro rfl
      rcases ok with ⟨ds, q⟩ | ⟨ks, ds, q⟩
      · rcases get_set q with ⟨_, x, _⟩ | ⟨hne, _⟩
        · cases x
        · exact hne rfl
      · rcases get_set q with ⟨_, x, _⟩ | ⟨hne, _⟩
        · cases x
        · exact hne rfl
    rw [List.getElem?_set_ne nk]
    refine (r.on j xss e0).2.1 b hb k ?_
    unfold Owned at ok; simp only [List.getElem?_set_ne nk] at ok; exact ok
end
end PL
set_option Elab.async false
set_option linter.all false
set_option maxRecDepth 100000
namespace PL
open PySem PySem.Spec
open L2 (V Hp HO Cx PE PT PW PA PS PSs St VK TE TT TA TS TI Inv RelV Vals Rd SqL SqT upd Same Key XK Ends OpR UnR CallR R2 EP)
theorem bind_ok_iff {α β : Type} {x : R α} {f : α → R β} {b : β} : x.bind f = .ok b ↔ ∃ a, x = .ok a ∧ f a = .ok b := by
  cases x with
  | ok a => simp
  | exc y => simp
  | bad => simp
noncomputable def tP (M : Md) (f : Ex) : TE := fun σ H Q => ∃ ρ F d, RepS M H F σ ρ ∧ f ρ = .ok d ∧ ∀ v H', Same H H' → Rep M H' F d v → Q v H'
noncomputable def tPT (M : Md) (c : Tst) : TT := fun σ H Q => ∃ ρ F b, RepS M H F σ ρ ∧ c ρ = .ok b ∧ ∀ H', Same H H' → Q b H'
noncomputable def tPA (M : Md) (f : En → R (List D)) : TA := fun σ H Q => ∃ ρ F ds, RepS M H F σ ρ ∧ f ρ = .ok ds ∧ ∀ vs H', Same H H' → Reps M H' F ds vs → Q vs H'
noncomputable abbrev JE (X : Cx) (e : Expr) (f : Ex) : Prop := PE X e (tP (mdOf X) f)
noncomputable abbrev JT (X : Cx) (e : Expr) (c : Tst) : Prop := PT X e (tPT (mdOf X) c)
noncomputable abbrev JA (X : Cx) (es : List Expr) (f : En → R (List D)) : Prop := PA X es (tPA (mdOf X) f)
theorem PE_imp {X : Cx} {e : Expr} {t t' : TE} (h : PE X e t') (hi : ∀ σ H Q, t σ H Q → t' σ H Q) : PE X e t := fun pins s σ H Q I q => h pins s σ H Q I (hi σ H Q q)
theorem PT_imp {X : Cx} {e : Expr} {t t' : TT} (h : PT X e t') (hi : ∀ σ H Q, t σ H Q → t' σ H Q) : PT X e t := fun pins s σ H Q I q => h pins s σ H Q I (hi σ H Q q)
theorem PA_imp {X : Cx} {e : List Expr} {t t' : TA} (h : PA X e t') (hi : ∀ σ H Q, t σ H Q → t' σ H Q) : PA X e t := fun pos pins s σ H Q I q => h pos pins s σ H Q I (hi σ H Q q)
theorem PW_imp {X : Cx} {e : Expr} {t t' : TT} (h : PW X e t') (hi : ∀ σ H Q, t σ H Q → t' σ H Q) : PW X e t := fun wh pins s σ H Q I q => h wh pins s σ H Q I (hi σ H Q q)
theorem Same.upd_new {H : Hp} {p : Addr} (h : H p = none) (o : HO) : Same H (upd H p o) := fun b u q => by rw [L2.upd_ne (L2.ne_of_none q h)]; exact q
section
variable {X : Cx} {M : Md} {H H' : Hp} {F : Addr → Prop} {σ : St} {ρ : En} {pos : Pos}
theorem eVar_ok {i : Nat} {d : D} (h : eVar i ρ = .ok d) : ρ[i]? = some (.sh d) := by
  unfold eVar at h
  split at h
  · rename_i e; cases h; exact e
  · cases h
theorem je_var (i : Nat) {x : Str} (hN : X.N[i]? = some x := by rfl) (hv : L2.Vis X.env.scope x := by first | exact Or.inl rfl | exact Or.inr (Or.inl rfl) | exact Or.inr (Or.inr rfl)) (hd : (x == ("__debug__" : Str)) = false := by decide)
    (hcd : (x == ("__classdict__" : Str)) = false := by decide) : JE X (.Name x pos) (eVar i) :=
  PE_imp (L2.pv i hN hv hd hcd) fun σ H Q ⟨ρ, F, d, r, e, q⟩ => by
    obtain ⟨v, e1, rv⟩ := r.sh i d (eVar_ok e)
    exact ⟨v, e1, q v H (Same.refl H) rv⟩
theorem je_int {i : Int} {j : Nat} : JE X (.Constant (.int i) j pos) (eC (.int i)) :=
  PE_imp L2.pe_int fun σ H Q ⟨ρ, F, d, r, e, q⟩ => by cases e; exact q _ H (Same.refl H) (by simp [Rep])
theorem je_bl {b : Bool} {j : Nat} : JE X (.Constant (.bool b) j pos) (eC (.bl b)) :=
  PE_imp L2.pe_bl fun σ H Q ⟨ρ, F, d, r, e, q⟩ => by cases e; exact q _ H (Same.refl H) (by simp [Rep])
theorem je_non {j : Nat} : JE X (.Constant .none j pos) (eC .non) :=
  PE_imp L2.pe_non fun σ H Q ⟨ρ, F, d, r, e, q⟩ => by cases e; exact q _ H (Same.refl H) (by simp [Rep])
theorem je_str {x : Str} {j : Nat} : JE X (.Constant (.str x) j pos) (eC (.str x)) :=
  PE_imp L2.pe_str fun σ H Q ⟨ρ, F, d, r, e, q⟩ => by cases e; exact q _ H (Same.refl H) (by simp [Rep])
theorem je_glob {x : Str} {d : D} {v : V} {u : Value} (hg : L2.Gl X x) (hm : X.mg x = some u) (r : RelV v u) (hr : ∀ H F, Rep (mdOf X) H F d v) (hd : (x == ("__debug__" : Str)) = false := by decide) : JE X (.Name x pos) (eC d) :=
  PE_imp (L2.pe_glob hg hm r hd) fun σ H Q ⟨ρ, F, d', r, e, q⟩ => by cases e; exact q _ H (Same.refl H) (hr H F)
noncomputable def OpL (M : Md) (g : D → D → R D) (r : R2) : Prop := ∀ (F : Addr → Prop) (H : Hp) (x y : V) (a b d : D) (Q : VK), (∀ p, F p → ∃ o, H p = some o) → Rep M H F a x → Rep M H F b y → g a b = .ok d →
  (∀ v H', Same H H' → Rep M H' F d v → Q v H') → r x y H Q
noncomputable def UnL (M : Md) (g : D → R D) (r : V → Hp → VK → Prop) : Prop := ∀ (F : Addr → Prop) (H : Hp) (x : V) (a d : D) (Q : VK), (∀ p, F p → ∃ o, H p = some o) → Rep M H F a x → g a = .ok d →
  (∀ v H', Same H H' → Rep M H' F d v → Q v H') → r x H Q
noncomputable def CaL (M : Md) (g : List D → R D) (r : List V → Hp → VK → Prop) : Prop := ∀ (F : Addr → Prop) (H : Hp) (xs : List V) (as : List D) (d : D) (Q : VK), (∀ p, F p → ∃ o, H p = some o) → Reps M H F as xs → g as = .ok d →
  (∀ v H', Same H H' → Rep M H' F d v → Q v H') → r xs H Q
theorem tOp_of {g : D → D → R D} {r : R2} (hg : OpL M g r) {fa fb : Ex} {Q : VK} (h : tP M (e2 g fa fb) σ H Q) : L2.tOp r (tP M fa) (tP M fb) σ H Q := by
  obtain ⟨ρ, F, d, hr, e, q⟩ := h
  obtain ⟨a, ea, e⟩ := bind_ok_iff.mp e
  obtain ⟨b, eb, e⟩ := bind_ok_iff.mp e
  refine ⟨ρ, F, a, hr, ea, fun x H1 s1 rx => ⟨ρ, F, b, hr.same s1, eb, fun y H2 s2 ry => ?_⟩⟩
  exact hg F H2 x y a b d Q ((hr.same s1).same s2).trk (rx.mv (.same s2)) ry e fun v H3 s3 rv => q v H3 (s1.trans (s2.trans s3)) rv
theorem je_op {op : Operator} {g : D → D → R D} {r : R2} {a b : Expr} {fa fb : Ex} (ho : OpR X (binaryOp op) r) (hg : OpL (mdOf X) g r) (ha : JE X a fa) (hb : JE X b fb) : JE X (.BinOp a op b pos) (e2 g fa fb) :=
  PE_imp (L2.pe_op ho ha hb) fun σ H Q h => tOp_of hg h
theorem je_cmp {op : CmpOp} {g : D → D → R D} {r : R2} {a b : Expr} {fa fb : Ex} (ho : OpR X (compareOp op) r) (hg : OpL (mdOf X) g r) (ha : JE X a fa) (hb : JE X b fb) (hm : behindInMarks op b = false) : JE X (.Compare a [op] [b] pos) (e2 g fa fb) :=
  PE_imp (L2.pe_cmpR ho ha hb hm) fun σ H Q h => tOp_of hg h
theorem tUn_of {g : D → R D} {r : V → Hp → VK → Prop} (hg : UnL M g r) {fa : Ex} {Q : VK} (h : tP M (e1 g fa) σ H Q) : L2.tUn r (tP M fa) σ H Q := by
  obtain ⟨ρ, F, d, hr, e, q⟩ := h
  obtain ⟨a, ea, e⟩ := bind_ok_iff.mp e
  exact ⟨ρ, F, a, hr, ea, fun x H1 s1 rx => hg F H1 x a d Q (hr.same s1).trk rx e fun v H3 s3 rv => q v H3 (s1.trans s3) rv⟩
theorem je_un {op : UnaryOp} {g : D → R D} {r : V → Hp → VK → Prop} {a : Expr} {fa : Ex} (ho : UnR X (unaryOp op) r) (hg : UnL (mdOf X) g r) (ha : JE X a fa) : JE X (.UnaryOp op a pos) (e1 g fa) :=
  PE_imp (L2.pe_un ho ha) fun σ H Q h => tUn_of hg h
theorem rep_int {i : Int} {v : V} (h : Rep M H F (.int i) v) : v = .int i := by simpa only [Rep] using h
theorem rep_bl {i : Bool} {v : V} (h : Rep M H F (.bl i) v) : v = .bl i := by simpa only [Rep] using h
theorem rep_str {i : Str} {v : V} (h : Rep M H F (.str i) v) : v = .str i := by simpa only [Rep] using h
theorem rep_non {v : V} (h : Rep M H F .non v) : v = .non := by simpa only [Rep] using h
theorem rep_int_mk {i : Int} : Rep M H F (.int i) (.int i) := by simp only [Rep]
theorem rep_bl_mk {i : Bool} : Rep M H F (.bl i) (.bl i) := by simp only [Rep]
theorem rep_str_mk {i : Str} : Rep M H F (.str i) (.str i) := by simp only [Rep]
theorem rep_non_mk : Rep M H F .non .non := by simp only [Rep]
theorem small_iff {i : Int} (h : small i = true) : -(2 ^ 64) < i ∧ i < 2 ^ 64 := by
  unfold small at h
  rw [Bool.and_eq_true, decide_eq_true_eq, decide_eq_true_eq] at h
  exact ⟨h.1, h.2⟩
theorem l_sub : OpL M oSub (L2.rI0 fun i j => .int (i - j)) := by
  intro F H x y a b d Q tr ra rb e q
  unfold oSub at e
  split at e
  · cases e
    exact ⟨_, _, rep_int ra, rep_int rb, q _ _ (Same.refl _) rep_int_mk⟩
  · cases e
theorem l_lt : OpL M oLt (L2.rI0 fun i j => .bl (decide (i < j))) := by
  intro F H x y a b d Q tr ra rb e q
  unfold oLt at e
  split at e
  · cases e
    exact ⟨_, _, rep_int ra, rep_int rb, q _ _ (Same.refl _) rep_bl_mk⟩
  · cases e
theorem l_le : OpL M oLe (L2.rI0 fun i j => .bl (decide (i ≤ j))) := by
  intro F H x y a b d Q tr ra rb e q
  unfold oLe at e
  split at e
  · cases e
    exact ⟨_, _, rep_int ra, rep_int rb, q _ _ (Same.refl _) rep_bl_mk⟩
  · cases e
theorem l_gt : OpL M oGt (L2.rI0 fun i j => .bl (decide (j < i))) := by
  intro F H x y a b d Q tr ra rb e q
  unfold oGt at e
  split at e
  · cases e
    exact ⟨_, _, rep_int ra, rep_int rb, q _ _ (Same.refl _) rep_bl_mk⟩
  · cases e
theorem l_ge : OpL M oGe (L2.rI0 fun i j => .bl (decide (j ≤ i))) := by
  intro F H x y a b d Q tr ra rb e q
  unfold oGe at e
  split at e
  · cases e
    exact ⟨_, _, rep_int ra, rep_int rb, q _ _ (Same.refl _) rep_bl_mk⟩
  · cases e
theorem l_mod : OpL M oMod (L2.rI (fun _ j => 0 < j) fun i j => .int (i % j)) := by
  intro F H x y a b d Q tr ra rb e q
  unfold oMod at e
  split at e
  · split at e
    · cases e
      exact ⟨_, _, rep_int ra, rep_int rb, by assumption, q _ _ (Same.refl _) rep_int_mk⟩
    · cases e
  · cases e
theorem l_pow : OpL M oPow (L2.rI L2.CPow fun i j => .int (i ^ j.toNat)) := by
  intro F H x y a b d Q tr ra rb e q
  unfold oPow at e
  split at e
  · split at e
    · rename_i i j h
      cases e
      rw [Bool.and_eq_true] at h
      have h3 := small_iff h.2
      have h4 := h.1
      unfold okPow at h4
      rw [Bool.and_eq_true, decide_eq_true_eq, decide_eq_true_eq] at h4
      exact ⟨_, _, rep_int ra, rep_int rb, ⟨h4.1, by omega, by omega⟩, q _ _ (Same.refl _) rep_int_mk⟩
    · cases e
  · cases e
theorem l_neg : UnL M oNeg (L2.rU fun i => .int (-i)) := by
  intro F H x a d Q tr ra e q
  unfold oNeg at e
  split at e
  · cases e
    exact ⟨_, rep_int ra, q _ _ (Same.refl _) rep_int_mk⟩
  · cases e
noncomputable def CDivB (i j : Int) : Prop := 0 < j ∧ j < 340282366920938463463374607431768211456
theorem op_div : OpR X (binaryOp .FloorDiv) (L2.rI CDivB fun i j => .int (i / j)) := by
  refine L2.opI fun i j t u s Q E c h => ?_
  have e : i / j = i.fdiv j := (Int.fdiv_eq_ediv_of_nonneg _ (Int.le_of_lt c.1)).symm
  rw [e] at h
  refine PyProof.Rows.floordiv_int (by have := c.1; omega) h (Or.inl ?_)
  refine PyProof.noPylong_of_log2 ?_
  have h0 : j.natAbs ≠ 0 := by have := c.1; omega
  have h1 : j.natAbs.log2 < 128 := (Nat.log2_lt h0).mpr (by have := c.2; have h2 : (340282366920938463463374607431768211456 : Nat) = 2 ^ 128 := by decide
                                                            have := c.1; omega)
  omega
theorem l_div : OpL M oDiv (L2.rI CDivB fun i j => .int (i / j)) := by
  intro F H x y a b d Q tr ra rb e q
  unfold oDiv at e
  split at e
  · split at e
    · rename_i h
      cases e
      unfold okDiv at h
      rw [Bool.and_eq_true, decide_eq_true_eq, decide_eq_true_eq] at h
      exact ⟨_, _, rep_int ra, rep_int rb, h, q _ _ (Same.refl _) rep_int_mk⟩
    · cases e
  · cases e
end
end PL
set_option Elab.async false
set_option linter.all false
set_option maxRecDepth 100000
namespace PL
open PySem PySem.Spec
open L2 (V Hp HO Cx PE PT PW PA PS PSs VK TE TT TA TS TI Inv RelV Vals Rd SqL SqT upd Same Key XK Ends OpR UnR CallR R2 EP)
section
variable {X : Cx} {M : Md} {H H' : Hp} {F : Addr → Prop} {σ : L2.St} {ρ : En} {pos : Pos} {pins : List (Addr × Obj)} {s : Shared}
theorem ls_at {a : Addr} {xs : List V} (I : Inv X pins σ H s) (h : LsR (mdOf X) H F a xs) : ∃ (its : List Value) (n : Nat) (sl : Array (Option Value)), Vals xs its ∧ s.heap.get? a = some { cls := .type "list", data := .seq its.toArray n, slots := sl } ∧ xs.length ≤ sizeLine := by
  rcases h with ⟨_, h⟩ | ⟨o, its, n, hk, h1, h2, h3, hz, r⟩
  · obtain ⟨z, its, n, r, e⟩ := h.ok I.hok
    exact ⟨its, n, #[], r, e, z⟩
  · obtain ⟨c, dd, dt, sl⟩ := o
    simp only at h1 h2 h3
    subst h1 h2 h3
    refine ⟨its.toList, n, sl, r, by simpa using I.kIn a _ hk, ?_⟩
    have e := r.length
    simp only [Array.length_toList] at e
    omega
theorem list_add_any (l : Addr) (items : Array Value) (n : Nat) (sl : Array (Option Value)) (b : Addr) (items2 : Array Value) (n2 : Nat) (sl2 : Array (Option Value)) (hc0 : items.size + items2.size ≤ sizeLine) :
    Meets (Builtin.«list.__add__» ⟨[.ref l, .ref b], []⟩) (fun _ R s => s.heap.get? l = some { cls := .type "list", dict := none, data := .seq items n, slots := sl } ∧ s.heap.get? b = some { cls := .type "list", dict := none, data := .seq items2 n2, slots := sl2 } ∧ R (.ok (.ret (Value.ref s.heap.objs.size))) { s with heap := s.heap.push { cls := Value.type "list", data := Data.seq (items ++ items2) }, toks := s.toks }) :=
  .of_wp fun prog w A R s h => by obtain ⟨hp, g, d, tk, os⟩ := s; obtain ⟨hl, hb, h⟩ := h; have f1 := AutoSeq1.idx_int; have f2 := AutoSeq1.sub_tuple_tuple; have f3 := AutoSeq1.sub_list_list; have f4 := AutoSeq1.sub_tuple_list; have f5 := AutoSeq1.sub_list_tuple; wp_walk using AutoSeq1.wpAny_loadPart' hl, AutoSeq1.wpAny_loadPart' hb; exact ⟨_, rfl, h⟩
theorem tp_at {a : Addr} {xs : List V} (I : Inv X pins σ H s) (h : TpR (mdOf X) H F a xs) : ∃ its : List Value, Vals xs its ∧ PyProof.Rows.IsTup s.heap a its.toArray ∧ xs.length ≤ sizeLine := I.tuple h.sq
noncomputable def rAddL (M : Md) : R2 := fun x y H Q => ∃ F l b xs zs, x = .ref l ∧ y = .ref b ∧ LsR M H F l xs ∧ LsR M H F b zs ∧ xs.length + zs.length ≤ sizeLine ∧ ∀ p, H p = none → Q (.ref p) (upd H p (.lst (xs ++ zs)))
theorem op_addL : OpR X (binaryOp .Add) (rAddL (mdOf X)) := by
  intro pins s σ H x y v u Q I rx ry h
  obtain ⟨F, l, b, xs, zs, rfl, rfl, hH, hB, hz, q⟩ := h
  cases rx
  cases ry
  obtain ⟨its, n, sl, r, e, z⟩ := ls_at I hH
  obtain ⟨its2, n2, sl2, r2, e2, z2⟩ := ls_at I hB
  have h1 := r.length
  have h2 := r2.length
  refine concat_meets ⟨_, e, rfl⟩ ⟨_, e2, rfl⟩ noFill_list_add seq_list_add PySem.F.slot_list_add PySem.F.entry_list_add (PySem.F.args_list_add_2 _ _) (list_add_any l its.toArray n sl b its2.toArray n2 sl2 (by rw [List.size_toArray, List.size_toArray]; omega)) ⟨e, e2, ?_⟩
  have ea : its.toArray ++ its2.toArray = (its ++ its2).toArray := by simp
  rw [ea]
  exact ⟨.ref _, _, I.lnew (t' := s.toks) (r.append r2) (by rw [List.length_append]; omega), rfl, q _ I.fresh⟩
noncomputable def rAdd (M : Md) : R2 := fun x y H Q => (L2.rI0 fun i j => .int (i + j)) x y H Q ∨ (∃ i j, x = .str i ∧ y = .str j ∧ i.length + j.length ≤ sizeLine ∧ Q (.str (i ++ j)) H) ∨ rAddL M x y H Q ∨ L2.rCatT M.K x y H Q
theorem op_add : OpR X (binaryOp .Add) (rAdd (mdOf X)) := L2.OpR.or L2.op_add (L2.OpR.or L2.op_add_str (L2.OpR.or op_addL L2.op_catT))
theorem not_own {p : Addr} (tr : ∀ p, F p → ∃ o, H p = some o) (h : H p = none) : ¬ F p := fun f => by obtain ⟨o, e⟩ := tr p f; rw [h] at e; cases e
theorem rep_lst_new {p : Addr} {ds : List D} {xs : List V} (tr : ∀ p, F p → ∃ o, H p = some o) (h : H p = none) (r : Reps M H F ds xs) : Rep M (upd H p (.lst xs)) F (.lst ds) (.ref p) := by
  simp only [Rep]
  exact ⟨p, xs, rfl, .inl ⟨not_own tr h, .inl L2.upd_same⟩, r.mv (.same (Same.upd_new h _))⟩
theorem rep_tup_new {p : Addr} {ds : List D} {xs : List V} (tr : ∀ p, F p → ∃ o, H p = some o) (h : H p = none) (r : Reps M H F ds xs) : Rep M (upd H p (.tup xs)) F (.tup ds) (.ref p) := by
  simp only [Rep]
  exact ⟨p, xs, rfl, .inl ⟨not_own tr h, .inl L2.upd_same⟩, r.mv (.same (Same.upd_new h _))⟩
theorem l_add : OpL M oAdd (rAdd M) := by
  intro F H x y a b d Q tr ra rb e q
  unfold oAdd at e
  split at e
  · cases e
    exact .inl ⟨_, _, rep_int ra, rep_int rb, q _ _ (Same.refl _) rep_int_mk⟩
  · split at e
    · cases e
      exact .inr (.inl ⟨_, _, rep_str ra, rep_str rb, by assumption, q _ _ (Same.refl _) rep_str_mk⟩)
    · cases e
  · split at e
    · rename_i hz
      cases e
      simp only [Rep] at ra rb
      obtain ⟨l, xs, rfl, h1, r1⟩ := ra
      obtain ⟨m, zs, rfl, h2, r2⟩ := rb
      refine .inr (.inr (.inl ⟨F, l, m, xs, zs, rfl, rfl, h1, h2, by rw [← r1.length, ← r2.length]; exact hz, fun p hp => q _ _ (Same.upd_new hp _) (rep_lst_new tr hp (r1.append r2))⟩))
    · cases e
  · split at e
    · rename_i hz
      cases e
      simp only [Rep] at ra rb
      obtain ⟨l, xs, rfl, h1, r1⟩ := ra
      obtain ⟨m, zs, rfl, h2, r2⟩ := rb
      have l1 := r1.length
      have l2 := r2.length
      refine .inr (.inr (.inr ⟨l, m, xs, zs, rfl, rfl, h1.sq, h2.sq, ?_, by rw [← l1, ← l2]; exact hz.2, fun e0 => ?_, fun _ p hp => q _ _ (Same.upd_new hp _) (rep_tup_new tr hp (r1.append r2))⟩))
      · intro e0
        subst e0
        have := hz.1
        rename_i as bs
        cases as with
        | nil => cases this
        | cons _ _ => simp at l1
      · subst e0
        rename_i as bs
        cases bs with
        | cons _ _ => simp at l2
        | nil =>
          refine q _ _ (Same.refl _) ?_
          rw [List.append_nil]
          simp only [Rep]
          exact ⟨l, xs, rfl, h1, r1⟩
    · cases e
  · cases e
theorem je_isN {j : Nat} {p2 : Pos} {a : Expr} {fa : Ex} (ha : JE X a fa) : JE X (.Compare a [.Is] [.Constant .none j p2] pos) (e1 oIsN fa) :=
  PE_imp (L2.pe_cmp (L2.pc_isN ha)) fun σ H Q ⟨ρ, F, d, hr, e, q⟩ => by
    obtain ⟨a, ea, e⟩ := bind_ok_iff.mp e
    refine ⟨ρ, F, a, hr, ea, fun x H1 s1 rx => ?_⟩
    cases e
    refine q _ _ s1 ?_
    cases a <;> simp only [Rep] at rx
    all_goals first
      | (subst rx; exact rep_bl_mk)
      | (obtain ⟨p, xs, rfl, _⟩ := rx; exact rep_bl_mk)
theorem je_one {op : BoolOp} {a : Expr} {fa : Ex} (h : JE X a fa) : JE X (.BoolOp op [a] pos) fa := L2.pe_one h
theorem je_and {a b : Expr} {rest : List Expr} {fa fb : Ex} (ha : JE X a fa) (hb : JE X (.BoolOp .And (b :: rest) pos) fb) : JE X (.BoolOp .And (a :: b :: rest) pos) (eAnd fa fb) :=
  PE_imp (L2.pe_and ha hb) fun σ H Q ⟨ρ, F, d, hr, e, q⟩ => by
    obtain ⟨a, ea, e⟩ := bind_ok_iff.mp e
    refine ⟨ρ, F, a, hr, ea, fun x H1 s1 rx => ?_⟩
    split at e
    · exact ⟨true, rep_bl rx, by rw [if_pos rfl]; exact ⟨ρ, F, d, hr.same s1, e, fun v H2 s2 rv => q v H2 (s1.trans s2) rv⟩⟩
    · cases e
      exact ⟨false, rep_bl rx, by rw [if_neg (by decide)]; exact q _ _ s1 rep_bl_mk⟩
    · cases e
theorem je_chain {op op' : CmpOp} {g g' : D → D → R D} {r r' : R2} {a b c : Expr} {fa fb fc : Ex} (ho : OpR X (compareOp op) r) (ho' : OpR X (compareOp op') r') (hg : OpL (mdOf X) g r) (hg' : OpL (mdOf X) g' r')
    (ha : JE X a fa) (hb : JE X b fb) (hc : JE X c fc) (hm : lastMarks [op, op'] [b, c] = false := by with_unfolding_all rfl) : JE X (.Compare a [op, op'] [b, c] pos) (eChain g g' fa fb fc) :=
  PE_imp (L2.pe_chain ho ho' ha hb hc hm) fun σ H Q ⟨ρ, F, d, hr, e, q⟩ => by
    obtain ⟨a, ea, e⟩ := bind_ok_iff.mp e
    obtain ⟨b, eb, e⟩ := bind_ok_iff.mp e
    obtain ⟨z, ez, e⟩ := bind_ok_iff.mp e
    refine ⟨ρ, F, a, hr, ea, fun x H1 s1 rx => ⟨ρ, F, b, hr.same s1, eb, fun y H2 s2 ry => ?_⟩⟩
    refine hg F H2 x y a b z _ ((hr.same s1).same s2).trk (rx.mv (.same s2)) ry ez fun v H3 s3 rv => ?_
    split at e
    · obtain ⟨w, ew, e⟩ := bind_ok_iff.mp e
      refine ⟨true, rep_bl rv, ?_⟩
      rw [if_pos rfl]
      refine ⟨ρ, F, w, ((hr.same s1).same s2).same s3, ew, fun u H4 s4 ru => ?_⟩
      exact hg' F H4 y u b w d Q ((((hr.same s1).same s2).same s3).same s4).trk (ry.mv (.same (s3.trans s4))) ru e fun v H5 s5 rv => q v H5 (s1.trans (s2.trans (s3.trans (s4.trans s5)))) rv
    · cases e
      exact ⟨false, rep_bl rv, by rw [if_neg (by decide)]; exact q _ _ (s1.trans (s2.trans s3)) rep_bl_mk⟩
    · cases e
theorem rep_tru {a : D} {x : V} {t : Bool} (r : Rep M H F a x) (e : truth a = .ok t) : L2.TruV M.K x H t := by
  cases a with
  | non => cases e; cases rep_non r; rfl
  | bl b => cases e; cases rep_bl r; rfl
  | int i => cases e; cases rep_int r; rfl
  | str z =>
    unfold truth at e
    dsimp only at e
    split at e
    · rename_i hz
      cases e; cases rep_str r
      refine ⟨hz, ?_⟩
      rw [Bool.eq_iff_iff]
      simp
    · cases e
  | tup ds =>
    cases e
    simp only [Rep] at r
    obtain ⟨p, xs, rfl, h, rs⟩ := r
    refine .inr (.inl ⟨xs, h.sq, ?_⟩)
    have := rs.length
    cases ds <;> cases xs <;> simp at this ⊢
  | lst ds =>
    cases e
    simp only [Rep] at r
    obtain ⟨p, xs, rfl, h, rs⟩ := r
    refine .inl ⟨xs, h.sq, ?_⟩
    have := rs.length
    cases ds <;> cases xs <;> simp at this ⊢
  | dct ks ds => cases e
  | exn _ _ _ => cases e
theorem jt_val {a : Expr} {fa : Ex} (ha : JE X a fa) (he : ∀ whole, isTrue a X.env whole = (do let v ← whole; standAt a.pos; holding [v] (truthy v)) := by intro _; rfl) : JT X a (tV fa) :=
  PT_imp (L2.pt_truth ha he) fun σ H Q ⟨ρ, F, b, hr, e, q⟩ => by
    obtain ⟨a, ea, e⟩ := bind_ok_iff.mp e
    exact ⟨ρ, F, a, hr, ea, fun x H1 s1 rx => ⟨b, rep_tru rx e, q H1 s1⟩⟩
noncomputable def Bin (g : D → D → R D) : Prop := ∀ a b d, g a b = .ok d → ∃ k, d = .bl k
theorem jt_cmp {op : CmpOp} {g : D → D → R D} {r : R2} {a b : Expr} {fa fb : Ex} (ho : OpR X (compareOp op) r) (hg : OpL (mdOf X) g r) (hB : Bin g) (ha : JE X a fa) (hb : JE X b fb) (hm : behindInMarks op b = false) : JT X (.Compare a [op] [b] pos) (tV (e2 g fa fb)) :=
  PT_imp (L2.pt_cmpR ho ha hb hm) fun σ H Q ⟨ρ, F, t, hr, e, q⟩ => by
    obtain ⟨d, ed, e⟩ := bind_ok_iff.mp e
    refine tOp_of hg ⟨ρ, F, d, hr, ed, fun v H1 s1 rv => ?_⟩
    obtain ⟨a, ea, ed⟩ := bind_ok_iff.mp ed
    obtain ⟨b, eb, ed⟩ := bind_ok_iff.mp ed
    obtain ⟨k, rfl⟩ := hB _ _ _ ed
    cases e
    exact ⟨_, rep_bl rv, q H1 s1⟩
theorem jt_isN {j : Nat} {p2 : Pos} {a : Expr} {fa : Ex} (ha : JE X a fa) : JT X (.Compare a [.Is] [.Constant .none j p2] pos) (tV (e1 oIsN fa)) :=
  PT_imp (L2.pt_cmp (L2.pc_isN ha)) fun σ H Q ⟨ρ, F, t, hr, e, q⟩ => by
    obtain ⟨d, ed, e⟩ := bind_ok_iff.mp e
    obtain ⟨a, ea, ed⟩ := bind_ok_iff.mp ed
    refine ⟨ρ, F, a, hr, ea, fun x H1 s1 rx => ⟨t, ?_, q H1 s1⟩⟩
    cases ed
    cases e
    cases a <;> simp only [Rep] at rx
    all_goals first
      | (subst rx; rfl)
      | (obtain ⟨p, xs, rfl, _⟩ := rx; rfl)
theorem jt_notN {j : Nat} {p2 : Pos} {a : Expr} {fa : Ex} (ha : JE X a fa) : JT X (.Compare a [.IsNot] [.Constant .none j p2] pos) (tV (e1 oNotN fa)) :=
  PT_imp (L2.pt_cmp (L2.pc_notN ha)) fun σ H Q ⟨ρ, F, t, hr, e, q⟩ => by
    obtain ⟨d, ed, e⟩ := bind_ok_iff.mp e
    obtain ⟨a, ea, ed⟩ := bind_ok_iff.mp ed
    refine ⟨ρ, F, a, hr, ea, fun x H1 s1 rx => ⟨t, ?_, q H1 s1⟩⟩
    cases ed
    cases e
    cases a <;> simp only [Rep] at rx
    all_goals first
      | (subst rx; rfl)
      | (obtain ⟨p, xs, rfl, _⟩ := rx; rfl)
theorem jt_chain {op op' : CmpOp} {g g' : D → D → R D} {r r' : R2} {a b c : Expr} {fa fb fc : Ex} (ho : OpR X (compareOp op) r) (ho' : OpR X (compareOp op') r') (hg : OpL (mdOf X) g r) (hg' : OpL (mdOf X) g' r') (hB : Bin g')
    (ha : JE X a fa) (hb : JE X b fb) (hc : JE X c fc) (hm : lastMarks [op, op'] [b, c] = false := by with_unfolding_all rfl) : JT X (.Compare a [op, op'] [b, c] pos) (tV (eChain g g' fa fb fc)) :=
  PT_imp (L2.pt_chain ho ho' ha hb hc hm) fun σ H Q ⟨ρ, F, t, hr, e, q⟩ => by
    obtain ⟨d, e, et⟩ := bind_ok_iff.mp e
    obtain ⟨a, ea, e⟩ := bind_ok_iff.mp e
    obtain ⟨b, eb, e⟩ := bind_ok_iff.mp e
    obtain ⟨z, ez, e⟩ := bind_ok_iff.mp e
    refine ⟨ρ, F, a, hr, ea, fun x H1 s1 rx => ⟨ρ, F, b, hr.same s1, eb, fun y H2 s2 ry => ?_⟩⟩
    refine hg F H2 x y a b z _ ((hr.same s1).same s2).trk (rx.mv (.same s2)) ry ez fun v H3 s3 rv => ?_
    split at e
    · obtain ⟨w, ew, e⟩ := bind_ok_iff.mp e
      obtain ⟨k, rfl⟩ := hB _ _ _ e
      refine ⟨true, rep_bl rv, ?_⟩
      rw [if_pos rfl]
      refine ⟨ρ, F, w, ((hr.same s1).same s2).same s3, ew, fun u H4 s4 ru => ?_⟩
      refine hg' F H4 y u b w _ _ ((((hr.same s1).same s2).same s3).same s4).trk (ry.mv (.same (s3.trans s4))) ru e fun v H5 s5 rv => ?_
      cases et
      exact ⟨_, rep_bl rv, q H5 (s1.trans (s2.trans (s3.trans (s4.trans s5))))⟩
    · cases e
      cases et
      exact ⟨false, rep_bl rv, by rw [if_neg (by decide)]; exact ⟨_, rfl, q _ (s1.trans (s2.trans s3))⟩⟩
    · cases e
theorem jt_not {a : Expr} {c : Tst} (ha : JT X a c) : JT X (.UnaryOp .Not a pos) (tNot c) :=
  PT_imp (L2.pt_not ha) fun σ H Q ⟨ρ, F, t, hr, e, q⟩ => by
    obtain ⟨b, eb, e⟩ := bind_ok_iff.mp e
    cases e
    exact ⟨ρ, F, b, hr, eb, fun H1 s1 => q H1 s1⟩
noncomputable abbrev JW (X : Cx) (e : Expr) (c : Tst) : Prop := PW X e (tPT (mdOf X) c)
theorem jw_and1 {a : Expr} {c : Tst} (ha : JT X a c) : JW X (.BoolOp .And [a] pos) c := L2.pw_and1 ha
theorem jw_or1 {a : Expr} {c : Tst} (ha : JT X a c) : JW X (.BoolOp .Or [a] pos) c := L2.pw_or1 ha
theorem jw_and {a b : Expr} {rest : List Expr} {c c' : Tst} (ha : JT X a c) (hb : JW X (.BoolOp .And (b :: rest) pos) c') : JW X (.BoolOp .And (a :: b :: rest) pos) (tAnd c c') :=
  PW_imp (L2.pw_and ha hb) fun σ H Q ⟨ρ, F, t, hr, e, q⟩ => by
    obtain ⟨b, eb, e⟩ := bind_ok_iff.mp e
    refine ⟨ρ, F, b, hr, eb, fun H1 s1 => ?_⟩
    split at e
    · rename_i h; rw [if_pos h]; exact ⟨ρ, F, t, hr.same s1, e, fun H2 s2 => q H2 (s1.trans s2)⟩
    · rename_i h; rw [if_neg h]; cases e; exact q H1 s1
theorem jw_or {a b : Expr} {rest : List Expr} {c c' : Tst} (ha : JT X a c) (hb : JW X (.BoolOp .Or (b :: rest) pos) c') : JW X (.BoolOp .Or (a :: b :: rest) pos) (tOr c c') :=
  PW_imp (L2.pw_or ha hb) fun σ H Q ⟨ρ, F, t, hr, e, q⟩ => by
    obtain ⟨b, eb, e⟩ := bind_ok_iff.mp e
    refine ⟨ρ, F, b, hr, eb, fun H1 s1 => ?_⟩
    split at e
    · rename_i h; rw [if_pos h]; cases e; exact q H1 s1
    · rename_i h; rw [if_neg h]; exact ⟨ρ, F, t, hr.same s1, e, fun H2 s2 => q H2 (s1.trans s2)⟩
theorem jt_bool {e : Expr} {c : Tst} (h : JW X e c) : JT X e c := L2.PW.pt h
theorem je_not {a : Expr} {fa : Ex} (ha : JE X a fa) : JE X (.UnaryOp .Not a pos) (e1 oNot fa) :=
  PE_imp (L2.pe_not ha) fun σ H Q ⟨ρ, F, d, hr, e, q⟩ => by
    obtain ⟨a, ea, e⟩ := bind_ok_iff.mp e
    refine ⟨ρ, F, a, hr, ea, fun x H1 s1 rx => ?_⟩
    unfold oNot at e
    split at e
    · cases e; exact ⟨_, rep_bl rx, q _ _ s1 rep_bl_mk⟩
    · cases e
theorem je_if {c a b : Expr} {fc : Tst} {fa fb : Ex} (hc : JT X c fc) (ha : JE X a fa) (hb : JE X b fb) : JE X (.IfExp c a b pos) (eIf fc fa fb) :=
  PE_imp (L2.pe_ifExp hc ha hb) fun σ H Q ⟨ρ, F, d, hr, e, q⟩ => by
    obtain ⟨t, et, e⟩ := bind_ok_iff.mp e
    refine ⟨ρ, F, t, hr, et, fun H1 s1 => ?_⟩
    split at e
    · rename_i h; rw [if_pos h]; exact ⟨ρ, F, d, hr.same s1, e, fun v H2 s2 rv => q v H2 (s1.trans s2) rv⟩
    · rename_i h; rw [if_neg h]; exact ⟨ρ, F, d, hr.same s1, e, fun v H2 s2 rv => q v H2 (s1.trans s2) rv⟩
theorem ja_nil : JA X [] (eList []) := PA_imp L2.pa_nil fun σ H Q ⟨ρ, F, ds, hr, e, q⟩ => by cases e; exact q [] H (Same.refl H) Reps.nil
theorem ja_cons {e : Expr} {es : List Expr} {f : Ex} {fs : List Ex} (ha : JE X e f) (hr : JA X es (eList fs)) (hs : starEach (e :: es) X.env = (false, eval e X.env) :: starEach es X.env := by rfl) : JA X (e :: es) (eList (f :: fs)) :=
  PA_imp (L2.pa_cons ha hr hs) fun σ H Q ⟨ρ, F, ds, hr, e, q⟩ => by
    obtain ⟨a, ea, e⟩ := bind_ok_iff.mp e
    obtain ⟨as, eas, e⟩ := bind_ok_iff.mp e
    cases e
    exact ⟨ρ, F, a, hr, ea, fun x H1 s1 rx => ⟨ρ, F, as, hr.same s1, eas, fun xs H2 s2 rs => q _ H2 (s1.trans s2) (Reps.cons (rx.mv (.same s2)) rs)⟩⟩
theorem eList_len : ∀ {fs : List Ex} {ρ : En} {ds : List D}, eList fs ρ = .ok ds → ds.length = fs.length
  | [], _, _, h => by cases h; rfl
  | f :: fs, _, _, h => by
    obtain ⟨a, _, h⟩ := bind_ok_iff.mp h
    obtain ⟨as, h2, h⟩ := bind_ok_iff.mp h
    cases h
    simp [eList_len h2]
theorem je_tup {es : List Expr} {fs : List Ex} {k : Nat} (h : JA X es (eList fs)) (hl : fs.length ≤ 1000 := by decide) : JE X (.Tuple es k pos) (eTup fs) :=
  PE_imp (L2.pe_tup h) fun σ H Q ⟨ρ, F, d, hr, e, q⟩ => by
    obtain ⟨as, ea, e⟩ := bind_ok_iff.mp e
    cases e
    refine ⟨ρ, F, as, hr, ea, fun xs H1 s1 rs => ⟨?_, fun p hp => q _ _ (s1.trans (Same.upd_new hp _)) (rep_tup_new (hr.same s1).trk hp rs)⟩⟩
    rw [← rs.length, eList_len ea]
    exact Nat.le_trans hl (by decide)
theorem je_lst {es : List Expr} {fs : List Ex} (h : JA X es (eList fs)) (hl : fs.length ≤ 1000 := by decide) : JE X (.List es pos) (eLst fs) :=
  PE_imp (L2.pe_lst h) fun σ H Q ⟨ρ, F, d, hr, e, q⟩ => by
    obtain ⟨as, ea, e⟩ := bind_ok_iff.mp e
    cases e
    refine ⟨ρ, F, as, hr, ea, fun xs H1 s1 rs => ⟨?_, fun p hp => q _ _ (s1.trans (Same.upd_new hp _)) (rep_lst_new (hr.same s1).trk hp rs)⟩⟩
    rw [← rs.length, eList_len ea]
    exact Nat.le_trans hl (by decide)
theorem je_dict0 : JE X (.Dict [] [] pos) (eDict [] []) :=
  PE_imp L2.pe_dnewK fun σ H Q ⟨ρ, F, d, hr, e, q⟩ => by
    cases e
    intro p hp
    refine q _ _ (Same.upd_new hp _) ?_
    simp only [Rep]
    exact ⟨p, [], rfl, .inl ⟨not_own hr.trk hp, .inl L2.upd_same⟩, rfl, Reps.nil⟩
end
end PL
set_option Elab.async false
set_option linter.all false
set_option maxRecDepth 100000
namespace PL
open PySem PySem.Spec
open L2 (V Hp HO Cx PE PT PW PA PS PSs VK TE TT TA TS TI Inv RelV Vals Rd SqL SqT upd Same Key XK Ends OpR UnR CallR R2 EP)
section
variable {X : Cx} {M : Md} {H H' : Hp} {F : Addr → Prop} {σ : L2.St} {ρ : En} {pos : Pos} {pins : List (Addr × Obj)} {s : Shared}
theorem at_len {α β : Type} {xs : List α} {ys : List β} {i : Int} {x : α} (hl : xs.length = ys.length) (h : atI xs i = some x) : ∃ j y, ixN ys.length i = some j ∧ xs[j]? = some x ∧ ys[j]? = some y ∧ atI ys i = some y := by
  unfold atI at h ⊢
  rw [hl] at h
  cases e : ixN ys.length i with
  | none => rw [e] at h; cases h
  | some j =>
    rw [e] at h
    have hx : xs[j]? = some x := h
    obtain ⟨hj, _⟩ := List.getElem?_eq_some_iff.mp hx
    have hy : j < ys.length := by omega
    exact ⟨j, ys[j], rfl, hx, List.getElem?_eq_getElem hy, by simp [hy]⟩
theorem l_ixQ : OpL M oIxQ (L2.rIx M.K) := by
  intro F H x y a b d Q tr ra rb e q
  unfold oIxQ at e
  split at e
  · split at e
    · rename_i xs i _ v hv
      cases e
      simp only [Rep] at ra
      obtain ⟨p, ys, rfl, h, rs⟩ := ra
      obtain ⟨j, y, _, h1, h2, h3⟩ := at_len rs.length hv
      obtain ⟨z, hz, rz⟩ := rs.get h1
      rw [h2] at hz
      cases hz
      exact .inl ⟨p, ys, _, y, rfl, rep_int rb, h.sq, h3, q _ _ (Same.refl _) rz⟩
    · cases e
  · split at e
    · rename_i xs i _ v hv
      cases e
      simp only [Rep] at ra
      obtain ⟨p, ys, rfl, h, rs⟩ := ra
      obtain ⟨j, y, _, h1, h2, h3⟩ := at_len rs.length hv
      obtain ⟨z, hz, rz⟩ := rs.get h1
      rw [h2] at hz
      cases hz
      exact .inr (.inl ⟨p, ys, _, y, rfl, rep_int rb, h.sq, h3, q _ _ (Same.refl _) rz⟩)
    · cases e
  · split at e
    · split at e
      · rename_i hz _ c hc
        cases e
        exact .inr (.inr ⟨_, _, c, rep_str ra, rep_int rb, hz, hc, q _ _ (Same.refl _) rep_str_mk⟩)
      · cases e
    · cases e
  · cases e
theorem sIx_eq (n d : Nat) (o : Option Int) : HT.sIx n d o = sIx n d o := by cases o <;> rfl
theorem cut_eq (xs : List V) (lo hi : Option Int) : L2.cutV xs lo hi = cut xs lo hi := by unfold L2.cutV cut; simp only [sIx_eq]
theorem Reps.cut {ds : List D} {xs : List V} (lo hi : Option Int) (r : Reps M H F ds xs) : Reps M H F (cut ds lo hi) (PL.cut xs lo hi) := by
  unfold PL.cut
  rw [r.length]
  exact (r.drop _).take _
noncomputable def tPO (M : Md) (f : En → R (Option Int)) : L2.TO := fun σ H Q => ∃ ρ F o, RepS M H F σ ρ ∧ f ρ = .ok o ∧ ∀ H', Same H H' → Q o H'
noncomputable abbrev JO (X : Cx) (e : Option Expr) (f : Option Ex) : Prop := L2.PO X e (tPO (mdOf X) (eOpt f))
theorem jo_none : JO X none none := fun pins s σ H Q I ⟨ρ, F, o, hr, e, q⟩ => by
  cases e
  exact L2.po_none pins s σ H Q I (q H (Same.refl H))
theorem jo_some {e : Expr} {f : Ex} (h : JE X e f) : JO X (some e) (some f) := fun pins s σ H Q I ⟨ρ, F, o, hr, e, q⟩ => by
  obtain ⟨a, ea, e⟩ := bind_ok_iff.mp e
  refine L2.po_some h pins s σ H Q I ⟨ρ, F, a, hr, ea, fun x H1 s1 rx => ?_⟩
  split at e
  · cases e; exact ⟨_, rep_int rx, q H1 s1⟩
  · cases e
theorem je_sl {a : Expr} {lo hi : Option Expr} {fa : Ex} {fl fh : Option Ex} {p2 : Pos} (ha : JE X a fa) (hl : JO X lo fl) (hh : JO X hi fh) : JE X (.Subscript a (.Slice lo hi none p2) pos) (eSl fa fl fh) :=
  PE_imp (L2.pe_slice (L2.SlR.or L2.sl_list L2.sl_tup) ha hl hh) fun σ H Q ⟨ρ, F, d, hr, e, q⟩ => by
    obtain ⟨a, ea, e⟩ := bind_ok_iff.mp e
    obtain ⟨l, el, e⟩ := bind_ok_iff.mp e
    obtain ⟨h, eh, e⟩ := bind_ok_iff.mp e
    refine ⟨ρ, F, a, hr, ea, fun x H1 s1 rx => ⟨ρ, F, l, hr.same s1, el, fun H2 s2 => ⟨ρ, F, h, (hr.same s1).same s2, eh, fun H3 s3 => ?_⟩⟩⟩
    have rx' := rx.mv (.same (s2.trans s3))
    have tr := (((hr.same s1).same s2).same s3).trk
    have s123 := s1.trans (s2.trans s3)
    unfold oSl at e
    split at e
    · cases e
      simp only [Rep] at rx'
      obtain ⟨p, xs, rfl, h1, rs⟩ := rx'
      refine .inl ⟨p, xs, rfl, h1.sq, fun b hb => ?_⟩
      rw [cut_eq]
      exact q _ _ (s123.trans (Same.upd_new hb _)) (rep_lst_new tr hb (rs.cut _ _))
    · split at e
      · cases e
      · rename_i hw
        cases e
        simp only [Rep] at rx'
        obtain ⟨p, xs, rfl, h1, rs⟩ := rx'
        refine .inr ⟨p, xs, rfl, h1.sq, ?_, fun b hb => ?_⟩
        · rw [sIx_eq, sIx_eq, ← rs.length]; exact hw
        · rw [cut_eq]
          exact q _ _ (s123.trans (Same.upd_new hb _)) (rep_tup_new tr hb (rs.cut _ _))
    · cases e
theorem tCB_of {g : List D → R D} {r : List V → Hp → VK → Prop} (hg : CaL M g r) {fs : List Ex} {Q : VK} (h : tP M (eCall g fs) σ H Q) : L2.tCB r (tPA M (eList fs)) σ H Q := by
  obtain ⟨ρ, F, d, hr, e, q⟩ := h
  obtain ⟨as, ea, e⟩ := bind_ok_iff.mp e
  exact ⟨ρ, F, as, hr, ea, fun xs H1 s1 rs => hg F H1 xs as d Q (hr.same s1).trk rs e fun v H2 s2 rv => q v H2 (s1.trans s2) rv⟩
@[simp] noncomputable def g1 (g : D → R D) : List D → R D
  | [a] => g a
  | _ => .bad
@[simp] noncomputable def g2 (g : D → D → R D) : List D → R D
  | [a, b] => g a b
  | _ => .bad
theorem e1_call (g : D → R D) (f : Ex) : e1 g f = eCall (g1 g) [f] := by
  funext ρ
  show (f ρ).bind g = ((f ρ).bind fun x => R.bind (R.ok []) fun xs => R.ok (x :: xs)).bind (g1 g)
  cases f ρ <;> rfl
theorem e2_call (g : D → D → R D) (f f' : Ex) : e2 g f f' = eCall (g2 g) [f, f'] := by
  funext ρ
  show (f ρ).bind _ = ((f ρ).bind fun x => ((f' ρ).bind fun y => R.bind (R.ok []) fun ys => R.ok (y :: ys)).bind fun xs => R.ok (x :: xs)).bind (g2 g)
  cases f ρ with
  | ok a => cases f' ρ <;> rfl
  | _ => rfl
theorem Reps.one {d : D} {xs : List V} (r : Reps M H F [d] xs) : ∃ x, xs = [x] ∧ Rep M H F d x := by
  simp only [Reps] at r
  obtain ⟨x, t, rfl, h, rfl⟩ := r
  exact ⟨x, rfl, h⟩
theorem Reps.two {d e : D} {xs : List V} (r : Reps M H F [d, e] xs) : ∃ x y, xs = [x, y] ∧ Rep M H F d x ∧ Rep M H F e y := by
  simp only [Reps] at r
  obtain ⟨x, t, rfl, h, y, u, rfl, h2, rfl⟩ := r
  exact ⟨x, y, rfl, h, h2⟩
theorem je_b1 {g : D → R D} {r : List V → Hp → VK → Prop} {x : Str} {id : String} {a : Expr} {fa : Ex} {p : Pos} (hc : CallR X (.builtin id) r) (hg : CaL (mdOf X) (g1 g) r) (hgl : L2.Gl X x) (hm : X.mg x = none) (hv : bootBuiltins x = some (.builtin id)) (ha : JE X a fa)
    (hs : starEach [a] X.env = (false, eval a X.env) :: starEach [] X.env := by rfl) (hn : x ≠ "__name__" := by decide) (hdb : (x == ("__debug__" : Str)) = false := by decide) : JE X (.Call (.Name x p) [a] [] pos) (e1 g fa) := by
  rw [e1_call]
  exact PE_imp (L2.pe_callB hc hgl hm hv (ja_cons ha ja_nil hs) hn hdb hs) fun σ H Q h => tCB_of hg h
theorem je_b2 {g : D → D → R D} {r : List V → Hp → VK → Prop} {x : Str} {id : String} {a b : Expr} {fa fb : Ex} {p : Pos} (hc : CallR X (.builtin id) r) (hg : CaL (mdOf X) (g2 g) r) (hgl : L2.Gl X x) (hm : X.mg x = none) (hv : bootBuiltins x = some (.builtin id)) (ha : JE X a fa) (hb : JE X b fb)
    (hs : starEach [a, b] X.env = (false, eval a X.env) :: starEach [b] X.env := by rfl) (hs2 : starEach [b] X.env = (false, eval b X.env) :: starEach [] X.env := by rfl) (hn : x ≠ "__name__" := by decide) (hdb : (x == ("__debug__" : Str)) = false := by decide) : JE X (.Call (.Name x p) [a, b] [] pos) (e2 g fa fb) := by
  rw [e2_call]
  exact PE_imp (L2.pe_callB hc hgl hm hv (ja_cons ha (ja_cons hb ja_nil hs2) hs) hn hdb hs (by rw [hs2]; rfl)) fun σ H Q h => tCB_of hg h
theorem je_t1 {g : D → R D} {r : List V → Hp → VK → Prop} {x : Str} {T : String} {a : Expr} {fa : Ex} {p : Pos} (hc : CallR X (.type T) r) (hg : CaL (mdOf X) (g1 g) r) (hgl : L2.Gl X x) (hm : X.mg x = none) (hv : bootBuiltins x = some (.type T)) (ha : JE X a fa)
    (hs : starEach [a] X.env = (false, eval a X.env) :: starEach [] X.env := by rfl) (hn : x ≠ "__name__" := by decide) (hdb : (x == ("__debug__" : Str)) = false := by decide) : JE X (.Call (.Name x p) [a] [] pos) (e1 g fa) := by
  rw [e1_call]
  exact PE_imp (L2.pe_callTy hc hgl hm hv (ja_cons ha ja_nil hs) hn hdb hs) fun σ H Q h => tCB_of hg h
noncomputable def rLen (M : Md) : List V → Hp → VK → Prop := fun xs H Q => (∃ p ys, xs = [.ref p] ∧ (SqL M.K H p ys ∨ SqT M.K H p ys) ∧ Q (.int ys.length) H) ∨ (∃ z, xs = [.str z] ∧ z.length ≤ sizeLine ∧ Q (.int z.length) H)
theorem call_len : CallR X (.builtin "len") (rLen (mdOf X)) := L2.CallR.or L2.call_len_seq L2.call_len_str
theorem l_len : CaL M (g1 oLen) (rLen M) := by
  intro F H xs as d Q tr rs e q
  unfold g1 at e
  split at e
  · obtain ⟨x, rfl, r⟩ := rs.one
    unfold oLen at e
    split at e
    · cases e
      simp only [Rep] at r
      obtain ⟨p, ys, rfl, h, rs⟩ := r
      exact .inl ⟨p, ys, rfl, .inl h.sq, q _ _ (Same.refl _) (by rw [← rs.length]; exact rep_int_mk)⟩
    · cases e
      simp only [Rep] at r
      obtain ⟨p, ys, rfl, h, rs⟩ := r
      exact .inl ⟨p, ys, rfl, .inr h.sq, q _ _ (Same.refl _) (by rw [← rs.length]; exact rep_int_mk)⟩
    · split at e
      · cases e
        exact .inr ⟨_, by rw [rep_str r], by assumption, q _ _ (Same.refl _) rep_int_mk⟩
      · cases e
    · cases e
  · cases e
theorem l_int : CaL M (g1 oInt) (fun xs H Q => (∃ i, xs = [.int i] ∧ Q (.int i) H) ∨ ∃ k, xs = [.bl k] ∧ Q (.int (if k then 1 else 0)) H) := by
  intro F H xs as d Q tr rs e q
  unfold g1 at e
  split at e
  · obtain ⟨x, rfl, r⟩ := rs.one
    unfold oInt at e
    split at e
    · cases e; exact .inl ⟨_, by rw [rep_int r], q _ _ (Same.refl _) rep_int_mk⟩
    · cases e; exact .inr ⟨_, by rw [rep_bl r], q _ _ (Same.refl _) rep_int_mk⟩
    · cases e
  · cases e
theorem l_tuple : CaL M (g1 oTuple) (fun xs H Q => ∃ p ys, xs = [.ref p] ∧ ((SqL M.K H p ys ∧ ∀ l, H l = none → Q (.ref l) (upd H l (.tup ys))) ∨ (SqT M.K H p ys ∧ Q (.ref p) H))) := by
  intro F H xs as d Q tr rs e q
  unfold g1 at e
  split at e
  · obtain ⟨x, rfl, r⟩ := rs.one
    unfold oTuple at e
    split at e
    · cases e
      simp only [Rep] at r
      obtain ⟨p, ys, rfl, h, rs⟩ := r
      exact ⟨p, ys, rfl, .inl ⟨h.sq, fun l hl => q _ _ (Same.upd_new hl _) (rep_tup_new tr hl rs)⟩⟩
    · cases e
      have r' := r
      simp only [Rep] at r
      obtain ⟨p, ys, rfl, h, rs⟩ := r
      exact ⟨p, ys, rfl, .inr ⟨h.sq, q _ _ (Same.refl _) r'⟩⟩
    · cases e
  · cases e
theorem l_min : CaL M (g2 oMin) (fun xs H Q => ∃ i j, xs = [.int i, .int j] ∧ Q (.int (if j < i then j else i)) H) := by
  intro F H xs as d Q tr rs e q
  unfold g2 at e
  split at e
  · obtain ⟨x, y, rfl, r, r2⟩ := rs.two
    unfold oMin at e
    split at e
    · cases e; exact ⟨_, _, by rw [rep_int r, rep_int r2], q _ _ (Same.refl _) rep_int_mk⟩
    · cases e
  · cases e
end
end PL
set_option Elab.async false
set_option linter.all false
set_option maxRecDepth 100000
namespace PL
open PySem PySem.Spec
open L2 (V Hp HO Cx PE PT PW PA PS PSs VK TE TT TA TS TI Inv RelV Vals Rd SqL SqT upd Same Key XK Ends OpR UnR CallR R2 EP)
section
variable {X : Cx} {M : Md} {H H' : Hp} {F : Addr → Prop} {σ : L2.St} {ρ : En} {pos : Pos} {pins : List (Addr × Obj)} {s : Shared}
mutual
noncomputable def pyd : D → PyData
  | .non => .none
  | .bl b => .bool b
  | .int i => .int i
  | .str x => .str x
  | .tup xs => .tuple (pyds xs)
  | .lst xs => .list (pyds xs)
  | .dct _ _ => .dict []
  | .exn _ _ _ => .dict []
noncomputable def pyds : List D → List PyData
  | [] => []
  | x :: xs => pyd x :: pyds xs
end
mutual
theorem pyd_eqv : ∀ (a b : D), lay a = true → lay b = true → PyData.eqv (pyd a) (pyd b) = eqD a b
  | .non, b, _, hb => by cases b <;> first | rfl | (simp [lay] at hb)
  | .bl _, b, _, hb => by cases b <;> first | rfl | (simp [lay] at hb)
  | .int _, b, _, hb => by cases b <;> first | rfl | (simp [lay] at hb)
  | .str x, b, _, hb => by
    cases b with
    | str y => show (x == y) = decide (x = y); rw [Bool.eq_iff_iff, beq_iff_eq, decide_eq_true_eq]
    | _ => first | rfl | (simp [lay] at hb)
  | .tup xs, b, ha, hb => by
    cases b with
    | tup ys => simp only [lay] at ha hb; exact pyds_eqv xs ys ha hb
    | _ => first | rfl | (simp [lay] at hb)
  | .lst xs, b, ha, hb => by
    cases b with
    | lst ys => simp only [lay] at ha hb; exact pyds_eqv xs ys ha hb
    | _ => first | rfl | (simp [lay] at hb)
  | .dct _ _, _, ha, _ => by simp [lay] at ha
  | .exn _ _ _, _, ha, _ => by simp [lay] at ha
theorem pyds_eqv : ∀ (a b : List D), lays a = true → lays b = true → PyData.eqvAll (pyds a) (pyds b) = eqDs a b
  | [], [], _, _ => rfl
  | [], _ :: _, _, _ => rfl
  | _ :: _, [], _, _ => rfl
  | x :: xs, y :: ys, ha, hb => by
    simp only [lays, Bool.and_eq_true] at ha hb
    show (PyData.eqv (pyd x) (pyd y) && PyData.eqvAll (pyds xs) (pyds ys)) = (eqD x y && eqDs xs ys)
    rw [pyd_eqv x y ha.1 hb.1, pyds_eqv xs ys ha.2 hb.2]
end
mutual
theorem lay_can : ∀ a : D, lay a = true → (pyd a).canLay0 = true
  | .non, _ => rfl
  | .bl _, _ => rfl
  | .int _, _ => rfl
  | .str x, h => by simp only [lay] at h; exact h
  | .tup xs, h => by simp only [lay] at h; exact lays_can xs h
  | .lst xs, h => by simp only [lay] at h; exact lays_can xs h
  | .dct _ _, h => by simp [lay] at h
  | .exn _ _ _, h => by simp [lay] at h
theorem lays_can : ∀ a : List D, lays a = true → PyData.canLayAll0 (pyds a) = true
  | [], _ => rfl
  | x :: xs, h => by
    simp only [lays, Bool.and_eq_true] at h
    show ((pyd x).canLay0 && PyData.canLayAll0 (pyds xs)) = true
    rw [lay_can x h.1, lays_can xs h.2]; rfl
end
mutual
theorem pyd_dep : ∀ a : D, lay a = true → (pyd a).depth = dep a
  | .non, _ => rfl
  | .bl _, _ => rfl
  | .int _, _ => rfl
  | .str _, _ => rfl
  | .tup xs, h => by simp only [lay] at h; show PyData.depthAll (pyds xs) + 1 = _; rw [pyds_dep xs h]; simp only [dep]
  | .lst xs, h => by simp only [lay] at h; show PyData.depthAll (pyds xs) + 1 = _; rw [pyds_dep xs h]; simp only [dep]
  | .dct _ _, h => by simp [lay] at h
  | .exn _ _ _, h => by simp [lay] at h
theorem pyds_dep : ∀ a : List D, lays a = true → PyData.depthAll (pyds a) = deps a
  | [], _ => rfl
  | x :: xs, h => by
    simp only [lays, Bool.and_eq_true] at h
    show max (pyd x).depth (PyData.depthAll (pyds xs)) = _
    rw [pyd_dep x h.1, pyds_dep xs h.2]; simp only [deps]
end
mutual
theorem rep_reads (I : Inv X pins σ H s) : ∀ {a : D} {x : V} {u : Value}, lay a = true → Rep (mdOf X) H F a x → RelV x u → ∃ as, Reads s.heap u (pyd a) as
  | .non, _, _, _, r, rx => by cases rep_non r; cases rx; exact ⟨_, .none⟩
  | .bl b, _, _, _, r, rx => by cases rep_bl r; cases rx; exact ⟨_, .bool b⟩
  | .int i, _, _, _, r, rx => by cases rep_int r; obtain ⟨t, rfl⟩ := rx; exact ⟨_, .int i t⟩
  | .str z, _, _, _, r, rx => by cases rep_str r; obtain ⟨t, rfl⟩ := rx; exact ⟨_, .str z t⟩
  | .tup ds, _, _, h, r, rx => by
    simp only [lay] at h
    simp only [Rep] at r
    obtain ⟨p, xs, rfl, t, rs⟩ := r
    cases rx
    obtain ⟨its, rv, ⟨o, e, c, n, d⟩, _⟩ := tp_at I t
    obtain ⟨as, ra⟩ := reps_reads I h rs rv
    exact ⟨_, .tuple e c d (by simpa using ra)⟩
  | .lst ds, _, _, h, r, rx => by
    simp only [lay] at h
    simp only [Rep] at r
    obtain ⟨p, xs, rfl, t, rs⟩ := r
    cases rx
    obtain ⟨its, n, sl, rv, e, _⟩ := ls_at I t
    obtain ⟨as, ra⟩ := reps_reads I h rs rv
    exact ⟨_, .list e rfl rfl (by simpa using ra)⟩
  | .dct _ _, _, _, h, _, _ => by simp [lay] at h
  | .exn _ _ _, _, _, h, _, _ => by simp [lay] at h
theorem reps_reads (I : Inv X pins σ H s) : ∀ {as : List D} {xs : List V} {us : List Value}, lays as = true → Reps (mdOf X) H F as xs → Vals xs us → ∃ bs, ReadsAll s.heap us (pyds as) bs
  | [], _, _, _, r, rv => by simp only [Reps] at r; subst r; cases rv; exact ⟨_, .nil⟩
  | a :: as, _, _, h, r, rv => by
    simp only [lays, Bool.and_eq_true] at h
    simp only [Reps] at r
    obtain ⟨x, t, rfl, r1, r2⟩ := r
    cases rv with
    | cons q w =>
      obtain ⟨bs, h1⟩ := rep_reads I h.1 r1 q
      obtain ⟨cs, h2⟩ := reps_reads I h.2 r2 w
      exact ⟨_, .cons h1 h2⟩
end
theorem dict_eq_declines_str (l : Addr) (es : Array DictEntry) (n : Nat) (dd : Option Addr) (sl : Array (Option Value)) (b : Str) (u : Tok) :
    Meets (Builtin.«dict.__eq__» ⟨[.ref l, .str b u], []⟩) (fun _ R s => s.heap.get? l = some { cls := .type "dict", dict := dd, data := .dict es n, slots := sl } ∧ R (.ok (.ret .notImplemented)) s) :=
  .of_wp fun prog w A R s h => by obtain ⟨hp, g, d, tk, os⟩ := s; obtain ⟨hl, h⟩ := h; have f1 := F.sub_str_dict; wp_walk; exact ⟨_, rfl, h⟩
theorem str_eq_declines_dict (b : Str) (u : Tok) (l : Addr) (es : Array DictEntry) (n : Nat) (dd : Option Addr) (sl : Array (Option Value)) :
    Meets (Builtin.«str.__eq__» ⟨[.str b u, .ref l], []⟩) (fun _ R s => s.heap.get? l = some { cls := .type "dict", dict := dd, data := .dict es n, slots := sl } ∧ R (.ok (.ret .notImplemented)) s) :=
  .of_wp fun prog w A R s h => by obtain ⟨hp, g, d, tk, os⟩ := s; obtain ⟨hl, h⟩ := h; wp_walk using AutoSeq1.wpAny_loadPart' hl, wpAny_load hl; exact ⟨_, rfl, h⟩
theorem rc_dict_str {A : Around} {l : Addr} {o : Obj} {es : Array DictEntry} {n : Nat} (b : Str) (u : Tok) (ho : s.heap.get? l = some o) (hc : o.cls = .type "dict") (hd : o.data = .dict es n) (hu : A.units < cLine) : SeqAt.RcAt A s (.ref l) (.str b u) false := fun prog w E Q h => by
  obtain ⟨cls, dd, data, sl⟩ := o
  simp only at hc hd
  subst hc hd
  exact SeqAt.rc_eq_decline_or (k := false) ⟨_, ho, rfl⟩ (typeIs_str s b u) (by decide) F.sub_str_dict F.slot_dict_eq F.slot_str_eq_refl
    (fun _ hq => call_meets F.slot_dict_eq ⟨_, ho, rfl⟩ F.entry_dict_eq (F.args_dict_eq_2 _ _) (dict_eq_declines_str l es n dd sl b u) ⟨ho, hq⟩)
    (fun _ hq => call_meets F.slot_str_eq_refl (typeIs_str s b u) F.entry_str_eq (F.args_str_eq_2 _ _) (str_eq_declines_dict b u l es n dd sl) ⟨ho, hq⟩)
    (fun _ hq => wpAny_of_eq (rfl : isSame (.ref l) (.str b u) = pure false) hq) (.inr hu) h
theorem dc_at {a : Addr} {kvs : List (Key × V)} (I : Inv X pins σ H s) (h : DcR (mdOf X) H F a kvs) : kvs.length ≤ sizeLine ∧ (a == sysModules) = false ∧ ∃ vs, L2.KV kvs vs ∧ s.heap.DictOf (L2.mixKind X.prog X.w) a vs := by
  rcases h with ⟨_, h⟩ | ⟨o, es, ep, vs, h1, h2, h3, h4, h5, h6, h7, h8, h9⟩
  · exact L2.dk_rd I.hok h
  · exact ⟨h8, h9, vs, h7, o, es, ep, I.kIn a o h1, h2, h3, h4, h5, h6⟩
noncomputable def rEqD (M : Md) : R2 := fun x y H Q => ∃ F a b, Rep M H F a x ∧ Rep M H F b y ∧ eqOk a b = true ∧ Q (.bl (eqD a b)) H
noncomputable def rNeD (M : Md) : R2 := fun x y H Q => ∃ F a b, Rep M H F a x ∧ Rep M H F b y ∧ neOk a b = true ∧ Q (.bl (!eqD a b)) H
theorem str_beq (a b : Str) : (a == b) = decide (a = b) := by rw [Bool.eq_iff_iff, beq_iff_eq, decide_eq_true_eq]
theorem rc_flat {A : Around} {a b : D} {x y : V} {u v : Value} (fa : flat a = true) (fb : flat b = true) (ra : Rep M H F a x) (rb : Rep M H F b y) (rx : RelV x u) (ry : RelV y v) : SeqAt.RcAt A s u v (eqD a b) := by
  cases a <;> (try cases fa) <;> cases b <;> (try cases fb) <;> simp only [Rep] at ra rb <;> subst ra <;> subst rb
  · cases rx; cases ry; exact SeqAt.RcAt.none_none
  · cases rx; cases ry; exact SeqAt.RcAt.none_bool _
  · cases rx; obtain ⟨t, rfl⟩ := ry; exact SeqAt.RcAt.none_int _ _
  · cases rx; obtain ⟨t, rfl⟩ := ry; exact SeqAt.RcAt.none_str _ _
  · cases rx; cases ry; exact SeqAt.RcAt.bool_none _
  · cases rx; cases ry; exact SeqAt.RcAt.bool_bool _ _
  · cases rx; obtain ⟨t, rfl⟩ := ry; exact SeqAt.RcAt.bool_int _ _ _
  · cases rx; obtain ⟨t, rfl⟩ := ry; exact SeqAt.RcAt.bool_str _ _ _
  · obtain ⟨t, rfl⟩ := rx; cases ry; exact SeqAt.RcAt.int_none _ _
  · obtain ⟨t, rfl⟩ := rx; cases ry; exact SeqAt.RcAt.int_bool _ _ _
  · obtain ⟨t, rfl⟩ := rx; obtain ⟨t, rfl⟩ := ry; exact SeqAt.RcAt.int_int _ _ _ _
  · obtain ⟨t, rfl⟩ := rx; obtain ⟨t, rfl⟩ := ry; exact SeqAt.RcAt.int_str _ _ _ _
  · obtain ⟨t, rfl⟩ := rx; cases ry; exact SeqAt.RcAt.str_none _ _
  · obtain ⟨t, rfl⟩ := rx; cases ry; exact SeqAt.RcAt.str_bool _ _ _
  · obtain ⟨t, rfl⟩ := rx; obtain ⟨t, rfl⟩ := ry; exact SeqAt.RcAt.str_int _ _ _ _
  · obtain ⟨t, rfl⟩ := rx; obtain ⟨t, rfl⟩ := ry; simp only [eqD]; rw [← str_beq]; exact SeqAt.RcAt.str_str _ _ _ _
theorem rcne_flat {A : Around} {a b : D} {x y : V} {u v : Value} (fa : flat a = true) (fb : flat b = true) (ra : Rep M H F a x) (rb : Rep M H F b y) (rx : RelV x u) (ry : RelV y v) : SeqAt.RcNeAt A s u v (!eqD a b) := by
  cases a <;> (try cases fa) <;> cases b <;> (try cases fb) <;> simp only [Rep] at ra rb <;> subst ra <;> subst rb
  · cases rx; cases ry; exact SeqAt.RcNeAt.none_none
  · cases rx; cases ry; exact SeqAt.RcNeAt.none_bool _
  · cases rx; obtain ⟨t, rfl⟩ := ry; exact SeqAt.RcNeAt.none_int _ _
  · cases rx; obtain ⟨t, rfl⟩ := ry; exact SeqAt.RcNeAt.none_str _ _
  · cases rx; cases ry; exact SeqAt.RcNeAt.bool_none _
  · cases rx; cases ry; exact SeqAt.RcNeAt.bool_bool _ _
  · cases rx; obtain ⟨t, rfl⟩ := ry; exact SeqAt.RcNeAt.bool_int _ _ _
  · cases rx; obtain ⟨t, rfl⟩ := ry; exact SeqAt.RcNeAt.bool_str _ _ _
  · obtain ⟨t, rfl⟩ := rx; cases ry; exact SeqAt.RcNeAt.int_none _ _
  · obtain ⟨t, rfl⟩ := rx; cases ry; exact SeqAt.RcNeAt.int_bool _ _ _
  · obtain ⟨t, rfl⟩ := rx; obtain ⟨t, rfl⟩ := ry; exact SeqAt.RcNeAt.int_int _ _ _ _
  · obtain ⟨t, rfl⟩ := rx; obtain ⟨t, rfl⟩ := ry; exact SeqAt.RcNeAt.int_str _ _ _ _
  · obtain ⟨t, rfl⟩ := rx; cases ry; exact SeqAt.RcNeAt.str_none _ _
  · obtain ⟨t, rfl⟩ := rx; cases ry; exact SeqAt.RcNeAt.str_bool _ _ _
  · obtain ⟨t, rfl⟩ := rx; obtain ⟨t, rfl⟩ := ry; exact SeqAt.RcNeAt.str_int _ _ _ _
  · obtain ⟨t, rfl⟩ := rx; obtain ⟨t, rfl⟩ := ry; simp only [eqD]; rw [← str_beq]; exact SeqAt.RcNeAt.str_str _ _ _ _
theorem tup_nil_eq (ds : List D) : ((List.range (min ds.length 0)).all (fun _ => true) && (ds.length == 0)) = eqD (.tup ds) (.tup []) := by
  cases ds <;> simp
theorem rc_tup_nil {A : Around} {ds : List D} {x y : V} {u v : Value} (I : Inv X pins σ H s) (hu : A.units < cLine) (ra : Rep (mdOf X) H F (.tup ds) x) (rb : Rep (mdOf X) H F (.tup []) y) (rx : RelV x u) (ry : RelV y v) :
    SeqAt.RcAt A s u v (eqD (.tup ds) (.tup [])) ∧ SeqAt.RcNeAt A s u v (!eqD (.tup ds) (.tup [])) := by
  simp only [Rep] at ra rb
  obtain ⟨p, xs, rfl, h, rs⟩ := ra
  obtain ⟨p2, xs2, rfl, h2, rs2⟩ := rb
  cases rx
  cases ry
  simp only [Reps] at rs2
  subst rs2
  obtain ⟨its, rv, ⟨o, e, c, n, d⟩, _⟩ := tp_at I h
  obtain ⟨its2, rv2, ⟨o2, e2, c2, n2, d2⟩, _⟩ := tp_at I h2
  cases rv2
  have hl : its.toArray.size = ds.length := by rw [List.size_toArray, ← rv.length, ← rs.length]
  have z1 := SeqAt.RcAt.tuples (A := A) (s := s) (e := fun _ => true) (l := p) (b := p2) ⟨o, e, c, n, d⟩ ⟨o2, e2, c2, n2, d2⟩ hu (fun j _ h2 => by simp at h2)
  have z2 := SeqAt.RcNeAt.tuples (A := A) (s := s) (e := fun _ => true) (l := p) (b := p2) ⟨o, e, c, n, d⟩ ⟨o2, e2, c2, n2, d2⟩ hu (fun j _ h2 => by simp at h2)
  rw [← tup_nil_eq]
  rw [hl] at z1 z2
  exact ⟨z1, z2⟩
theorem op_neD (hu : X.A.units + 64 < cLine) : OpR X (compareOp .NotEq) (rNeD (mdOf X)) := by
  intro pins s σ H x y v u Q I rx ry h
  obtain ⟨F, a, b, ra, rb, ok, q⟩ := h
  have fin : EP X pins σ Q (.bool (!eqD a b)) s := ⟨.bl _, H, I, rfl, q⟩
  unfold neOk at ok
  rw [Bool.or_eq_true, Bool.or_eq_true, Bool.and_eq_true] at ok
  rcases ok with (⟨fa, fb⟩ | t) | l
  · exact rcne_flat fa fb ra rb rx ry _ _ _ _ fin
  · unfold tupNil at t
    split at t
    · exact (rc_tup_nil I (by omega) ra rb rx ry).2 _ _ _ _ fin
    · cases t
  · rw [Bool.and_eq_true, Bool.and_eq_true, decide_eq_true_eq] at l
    obtain ⟨⟨la, lb⟩, hd⟩ := l
    obtain ⟨as, h1⟩ := rep_reads I la ra rx
    obtain ⟨bs, h2⟩ := rep_reads I lb rb ry
    refine SeqAt.compareNe_reads h1 h2 (lay_can a la) (lay_can b lb) (by rw [pyd_dep a la, pyd_dep b lb]; omega) ?_
    rw [pyd_eqv a b la lb]
    exact fin
theorem op_eqD (hu : X.A.units + 64 < cLine) : OpR X (compareOp .Eq) (rEqD (mdOf X)) := by
  intro pins s σ H x y v u Q I rx ry h
  obtain ⟨F, a, b, ra, rb, ok, q⟩ := h
  have fin : EP X pins σ Q (.bool (eqD a b)) s := ⟨.bl _, H, I, rfl, q⟩
  unfold eqOk at ok
  rw [Bool.or_eq_true] at ok
  rcases ok with ok | dc
  · unfold neOk at ok
    rw [Bool.or_eq_true, Bool.or_eq_true, Bool.and_eq_true] at ok
    rcases ok with (⟨fa, fb⟩ | t) | l
    · exact rc_flat fa fb ra rb rx ry _ _ _ _ fin
    · unfold tupNil at t
      split at t
      · exact (rc_tup_nil I (by omega) ra rb rx ry).1 _ _ _ _ fin
      · cases t
    · rw [Bool.and_eq_true, Bool.and_eq_true, decide_eq_true_eq] at l
      obtain ⟨⟨la, lb⟩, hd⟩ := l
      obtain ⟨as, h1⟩ := rep_reads I la ra rx
      obtain ⟨bs, h2⟩ := rep_reads I lb rb ry
      refine SeqAt.compareEq_reads h1 h2 (lay_can a la) (lay_can b lb) (by rw [pyd_dep a la, pyd_dep b lb]; omega) ?_
      rw [pyd_eqv a b la lb]
      exact fin
  · unfold dctStr at dc
    split at dc
    · cases rep_str rb
      obtain ⟨t, rfl⟩ := ry
      simp only [Rep] at ra
      obtain ⟨p, xs, rfl, h, _⟩ := ra
      cases rx
      obtain ⟨_, _, vs, _, o, es, ep, e1, e2, e3, _⟩ := dc_at I h
      exact rc_dict_str _ t e1 e2.1 e3 (by omega) _ _ _ _ fin
    · cases dc
theorem l_eq : OpL M oEq (rEqD M) := by
  intro F H x y a b d Q tr ra rb e q
  unfold oEq at e
  split at e
  · cases e; exact ⟨F, a, b, ra, rb, by assumption, q _ _ (Same.refl _) rep_bl_mk⟩
  · cases e
theorem l_ne : OpL M oNe (rNeD M) := by
  intro F H x y a b d Q tr ra rb e q
  unfold oNe at e
  split at e
  · cases e; exact ⟨F, a, b, ra, rb, by assumption, q _ _ (Same.refl _) rep_bl_mk⟩
  · cases e
theorem bin_eq : Bin oEq := fun a b d h => by unfold oEq at h; split at h <;> cases h; exact ⟨_, rfl⟩
theorem bin_ne : Bin oNe := fun a b d h => by unfold oNe at h; split at h <;> cases h; exact ⟨_, rfl⟩
theorem bin_lt : Bin oLt := fun a b d h => by unfold oLt at h; split at h <;> cases h; exact ⟨_, rfl⟩
theorem bin_le : Bin oLe := fun a b d h => by unfold oLe at h; split at h <;> cases h; exact ⟨_, rfl⟩
theorem bin_gt : Bin oGt := fun a b d h => by unfold oGt at h; split at h <;> cases h; exact ⟨_, rfl⟩
theorem bin_ge : Bin oGe := fun a b d h => by unfold oGe at h; split at h <;> cases h; exact ⟨_, rfl⟩
theorem bt_isinstance : bootBuiltins "isinstance" = some (.builtin "isinstance") := by decide +kernel
theorem bt_len : bootBuiltins "len" = some (.builtin "len") := by decide +kernel
theorem bt_min : bootBuiltins "min" = some (.builtin "min") := by decide +kernel
theorem bt_all : bootBuiltins "all" = some (.builtin "all") := by decide +kernel
theorem bt_int : bootBuiltins "int" = some (.type "int") := by decide +kernel
theorem bt_bool : bootBuiltins "bool" = some (.type "bool") := by decide +kernel
theorem bt_str : bootBuiltins "str" = some (.type "str") := by decide +kernel
theorem bt_list : bootBuiltins "list" = some (.type "list") := by decide +kernel
theorem bt_tuple : bootBuiltins "tuple" = some (.type "tuple") := by decide +kernel
noncomputable def tyN : Ty → String
  | .int => "int" | .bool => "bool" | .str => "str" | .tuple => "tuple" | .list => "list" | .dict => "dict"
theorem call_isA : CallR X (.builtin "isinstance") (fun xs H Q => ∃ F d x b ty, xs = [x, .ty (tyN ty)] ∧ Rep (mdOf X) H F d x ∧ oIsA ty d = .ok (.bl b) ∧ (∀ c ns vs, d ≠ .exn c ns vs) ∧ Q (.bl b) H) := by
  intro pins s σ H xs us Q I r h
  obtain ⟨F, d, x, b, ty, rfl, rd, e, ne, q⟩ := h
  obtain ⟨u, w, rfl, ru, rw'⟩ := L2.vals2 r
  cases (show w = Value.type (tyN ty) from rw')
  have fin : ∀ tk, EP X pins σ Q (.bool b) { s with toks := tk } := fun tk => ⟨.bl _, H, I.tok tk, rfl, q⟩
  cases d with
  | non => cases rep_non rd; cases ru; cases ty <;> cases e <;> exact PySem.W.kia_one PySem.W.kitx_none I.kIn True.intro rfl (fun z => nomatch z) fin
  | bl y => cases rep_bl rd; cases ru; cases ty <;> cases e <;> exact PySem.W.kia_one PySem.W.kitx_bool I.kIn True.intro rfl (fun z => nomatch z) fin
  | int i => cases rep_int rd; obtain ⟨t, rfl⟩ := ru; cases ty <;> cases e <;> exact PySem.W.kia_one PySem.W.kitx_int I.kIn True.intro rfl (fun z => nomatch z) fin
  | str z => cases rep_str rd; obtain ⟨t, rfl⟩ := ru; cases ty <;> cases e <;> exact PySem.W.kia_one PySem.W.kitx_str I.kIn True.intro rfl (fun z => nomatch z) fin
  | tup ds =>
    simp only [Rep] at rd
    obtain ⟨p, xs, rfl, h, _⟩ := rd
    cases ru
    obtain ⟨its, _, ⟨o, h1, h2, _⟩, _⟩ := tp_at I h
    cases ty <;> cases e <;> exact PySem.W.kia_one PySem.W.kitx_tuple I.kIn ⟨o, h1, h2⟩ rfl (fun z => nomatch z) fin
  | lst ds =>
    simp only [Rep] at rd
    obtain ⟨p, xs, rfl, h, _⟩ := rd
    cases ru
    obtain ⟨its, n, sl, _, h1, _⟩ := ls_at I h
    cases ty <;> cases e <;> exact PySem.W.kia_one PySem.W.kitx_list I.kIn ⟨_, h1, rfl⟩ rfl (fun z => nomatch z) fin
  | dct ks ds =>
    simp only [Rep] at rd
    obtain ⟨p, xs, rfl, h, _⟩ := rd
    cases ru
    obtain ⟨_, _, vs, _, o, es, ep, e1, e2, e3, _⟩ := dc_at I h
    cases ty <;> cases e <;> exact PySem.W.kia_one PySem.W.kitx_dict I.kIn ⟨o, e1, e2.1⟩ rfl (fun z => nomatch z) fin
  | exn c ns vs => exact absurd rfl (ne _ _ _)
theorem isA_bl {ty : Ty} {d r : D} (h : oIsA ty d = .ok r) : ∃ b, r = .bl b := by
  unfold oIsA at h
  split at h <;> cases h <;> exact ⟨_, rfl⟩
theorem je_isA (ty : Ty) {a : Expr} {fa : Ex} {p p2 : Pos} {T : Str} (ha : JE X a fa) (hg : L2.Gl X "isinstance") (hm : X.mg "isinstance" = none) (hgT : L2.Gl X T) (hmT : X.mg T = none) (hvT : bootBuiltins T = some (.type (tyN ty)))
    (hs : starEach [a, .Name T p2] X.env = (false, eval a X.env) :: starEach [.Name T p2] X.env := by rfl) (hs2 : starEach [.Name T p2] X.env = (false, eval (.Name T p2) X.env) :: starEach [] X.env := by rfl)
    (hnT : T ≠ "__name__" := by decide) (hdT : (T == ("__debug__" : Str)) = false := by decide) : JE X (.Call (.Name "isinstance" p) [a, .Name T p2] [] pos) (e1 (oIsA ty) fa) :=
  PE_imp (L2.pe_callB call_isA hg hm bt_isinstance (L2.pa_cons ha (L2.pa_cons (L2.pe_bltn (v := .ty (tyN ty)) hgT hmT hvT rfl hnT hdT) L2.pa_nil hs2) hs) (by decide) (by decide) hs (by rw [hs2]; rfl)) fun σ H Q ⟨ρ, F, d, hr, e, q⟩ => by
    obtain ⟨a, ea, e⟩ := bind_ok_iff.mp e
    obtain ⟨b, rfl⟩ := isA_bl e
    refine ⟨ρ, F, a, hr, ea, fun x H1 s1 rx => ⟨F, a, x, b, ty, rfl, rx, e, ?_, q _ _ s1 rep_bl_mk⟩⟩
    intro c ns vs h
    subst h
    cases ty <;> cases e
end
end PL
set_option Elab.async false
set_option linter.all false
set_option maxRecDepth 100000
namespace PL
open PySem PySem.Spec
open L2 (V Hp HO Cx PE PT PW PA PS PSs PG PGs VK TE TT TA TS TI TG Inv RelV Vals Rd SqL SqT upd Same Key XK Ends OpR UnR CallR R2 EP)
structure RepG (M : Md) (G : Hp) (F0 : Addr → Prop) (H : Hp) (F : Addr → Prop) (σ : L2.St) (ρ : En) : Prop where
  rs : RepS M H F σ ρ
  sm : Same G H
  sub : ∀ a, F0 a → F a
  trk0 : ∀ a, F0 a → ∃ o, G a = some o
  own : ∀ (i : Nat) a, Owned ρ i → σ[i]? = some (some (.ref a)) → G a = none
  onG : ∀ (i : Nat) xss b, ρ[i]? = some (.on xss) → OnAt H σ i b → G b = none
noncomputable def EndG (M : Md) (G : Hp) (F0 : Addr → Prop) (H : Hp) (F : Addr → Prop) (D : Ends) : Fl → Prop
  | .next ρ' => ∀ σ' H' F', Mv F H F' H' → RepG M G F0 H' F' σ' ρ' → D.nx σ' H'
  | .brk ρ' => ∀ σ' H' F', Mv F H F' H' → RepG M G F0 H' F' σ' ρ' → D.bk σ' H'
  | .cont ρ' => ∀ σ' H' F', Mv F H F' H' → RepG M G F0 H' F' σ' ρ' → D.ct σ' H'
  | .ret d => ∀ v H' F', Mv F H F' H' → Same G H' → (∀ a, F0 a → F' a) → Rep M H' F' d v → D.rt v H'
  | .retN d => ∀ p H' F' xs ds, d = .lst ds → Mv F H F' H' → Same G H' → (∀ a, F0 a → F' a) → H' p = none → Reps M H' F' ds xs → D.rt (.ref p) (upd H' p (.lst xs))
noncomputable def tPS (M : Md) (G : Hp) (F0 : Addr → Prop) (f : Sm) : TS := fun D σ H => ∃ ρ F fl, RepG M G F0 H F σ ρ ∧ f ρ = .ok fl ∧ EndG M G F0 H F D fl
noncomputable abbrev JS (X : Cx) (st : Stmt) (f : Sm) : Prop := ∀ F0, PS X st (tPS (mdOf X) X.H₀ F0 f)
noncomputable abbrev JSs (X : Cx) (sts : List Stmt) (f : Sm) : Prop := ∀ F0, PSs X sts (tPS (mdOf X) X.H₀ F0 f)
theorem PS_imp {X : Cx} {e : Stmt} {t t' : TS} (h : PS X e t') (hi : ∀ D σ H, t D σ H → t' D σ H) : PS X e t := fun pins s σ H Q I q => h pins s σ H Q I (hi Q σ H q)
theorem PSs_imp {X : Cx} {e : List Stmt} {t t' : TS} (h : PSs X e t') (hi : ∀ D σ H, t D σ H → t' D σ H) : PSs X e t := fun pins s σ H Q I q => h pins s σ H Q I (hi Q σ H q)
theorem Mv.refl {F : Addr → Prop} {H : Hp} : Mv F H F H := fun _ _ n e => ⟨n, e⟩
section
variable {X : Cx} {M : Md} {G H H' : Hp} {F0 F F' : Addr → Prop} {σ : L2.St} {ρ : En} {pos : Pos} {DE : Ends}
theorem RepG.same (r : RepG M G F0 H F σ ρ) (h : Same H H') : RepG M G F0 H' F σ ρ := ⟨r.rs.same h, r.sm.trans h, r.sub, r.trk0, r.own, fun i xss b e hb => r.onG i xss b e (r.rs.on.back e rfl (fun a u _ _ hu => h _ _ hu) hb)⟩
theorem EndG.mv (m : Mv F H F' H') : ∀ {fl : Fl}, EndG M G F0 H F DE fl → EndG M G F0 H' F' DE fl
  | .next _, h => fun σ' H2 F2 m2 r => h σ' H2 F2 (m.trans m2) r
  | .brk _, h => fun σ' H2 F2 m2 r => h σ' H2 F2 (m.trans m2) r
  | .cont _, h => fun σ' H2 F2 m2 r => h σ' H2 F2 (m.trans m2) r
  | .ret _, h => fun σ' H2 F2 m2 a b r => h σ' H2 F2 (m.trans m2) a b r
  | .retN _, h => fun p H2 F2 xs ds e m2 a b c r => h p H2 F2 xs ds e (m.trans m2) a b c r
theorem js_nil : JSs X [] (sBlk []) := fun F0 => PSs_imp L2.pss_nil fun D σ H ⟨ρ, F, fl, r, e, q⟩ => by
  cases e
  exact q σ H F Mv.refl r
theorem js_nil' : JSs X [] sNil := js_nil
theorem seq_of {f g : Sm} {t u : TS} (hf : ∀ D σ H, tPS M G F0 f D σ H → t D σ H) (hg : ∀ D σ H, tPS M G F0 g D σ H → u D σ H) (D : Ends) (σ : L2.St) (H : Hp) (h : tPS M G F0 (sSeq f g) D σ H) : L2.tSeq t u D σ H := by
  obtain ⟨ρ, F, fl, r, e, q⟩ := h
  obtain ⟨f1, e1, e⟩ := bind_ok_iff.mp e
  refine hf _ _ _ ⟨ρ, F, f1, r, e1, ?_⟩
  cases f1 with
  | next ρ1 => exact fun σ1 H1 F1 m1 r1 => hg D σ1 H1 ⟨ρ1, F1, fl, r1, e, q.mv m1⟩
  | ret d => cases e; exact q
  | brk d => cases e; exact q
  | cont d => cases e; exact q
  | retN d => cases e; exact q
theorem js_cons {st : Stmt} {rest : List Stmt} {f : Sm} {fs : List Sm} (h1 : JS X st f) (h2 : JSs X rest (sBlk fs)) : JSs X (st :: rest) (sBlk (f :: fs)) := fun F0 =>
  PSs_imp (L2.pss_cons (h1 F0) (h2 F0)) fun D σ H h => seq_of (fun _ _ _ h => h) (fun _ _ _ h => h) D σ H h
theorem js_one {st : Stmt} {f : Sm} (h : JS X st f) : JSs X [st] f := fun F0 => L2.pss_one (h F0)
theorem js_if {c : Expr} {a b : List Stmt} {fc : Tst} {fa fb : Sm} (hc : JT X c fc) (ha : JSs X a fa) (hb : JSs X b fb) : JS X (.If c a b pos) (sIf fc fa fb) := fun F0 =>
  PS_imp (L2.ps_if hc (ha F0) (hb F0)) fun D σ H ⟨ρ, F, fl, r, e, q⟩ => by
    obtain ⟨t, et, e⟩ := bind_ok_iff.mp e
    refine ⟨ρ, F, t, r.rs, et, fun H1 s1 => ?_⟩
    split at e
    · rename_i h; rw [if_pos h]; exact ⟨ρ, F, fl, r.same s1, e, q.mv (.same s1)⟩
    · rename_i h; rw [if_neg h]; exact ⟨ρ, F, fl, r.same s1, e, q.mv (.same s1)⟩
theorem js_ret {a : Expr} {fa : Ex} (ha : JE X a fa) : JS X (.Return (some a) pos) (sRet fa) := fun F0 =>
  PS_imp (L2.ps_ret ha) fun D σ H ⟨ρ, F, fl, r, e, q⟩ => by
    obtain ⟨d, ed, e⟩ := bind_ok_iff.mp e
    cases e
    exact ⟨ρ, F, d, r.rs, ed, fun v H1 s1 rv => q v H1 F (.same s1) (r.sm.trans s1) r.sub rv⟩
theorem js_drop {a : Expr} {fa : Ex} (ha : JE X a fa) (hs : swapsWith a none pos.line X.env = pure false := by rfl) : JS X (.Expr a pos) (sDrop fa) := fun F0 =>
  PS_imp (L2.ps_expr ha hs) fun D σ H ⟨ρ, F, fl, r, e, q⟩ => by
    obtain ⟨d, ed, e⟩ := bind_ok_iff.mp e
    cases e
    exact ⟨ρ, F, d, r.rs, ed, fun v H1 s1 rv => q σ H1 F (.same s1) (r.same s1)⟩
theorem js_never {st : Stmt} : JS X st sNever := fun F0 => PS_imp L2.ps_never fun D σ H ⟨ρ, F, fl, r, e, q⟩ => by cases e
noncomputable def tPG (M : Md) (G : Hp) (F0 : Addr → Prop) (g : Tgt) : TG := fun v σ H Q => ∃ ρ F d ρ', RepG M G F0 H F σ ρ ∧ Rep M H F d v ∧ g d ρ = .ok ρ' ∧ ∀ σ', RepG M G F0 H F σ' ρ' → Q σ' H
noncomputable def tPGs (M : Md) (G : Hp) (F0 : Addr → Prop) (g : List D → En → R En) : L2.TGs := fun vs σ H Q => ∃ ρ F ds ρ', RepG M G F0 H F σ ρ ∧ Reps M H F ds vs ∧ g ds ρ = .ok ρ' ∧ ∀ σ', RepG M G F0 H F σ' ρ' → Q σ' H
noncomputable abbrev JG (X : Cx) (e : Expr) (g : Tgt) : Prop := ∀ F0, PG X e (tPG (mdOf X) X.H₀ F0 g)
noncomputable abbrev JGs (X : Cx) (es : List Expr) (g : List D → En → R En) : Prop := ∀ F0, PGs X es (tPGs (mdOf X) X.H₀ F0 g)
theorem PG_imp {X : Cx} {e : Expr} {t t' : TG} (h : PG X e t') (hi : ∀ v σ H Q, t v σ H Q → t' v σ H Q) : PG X e t := fun pins s σ H x u Q I rx q => h pins s σ H x u Q I rx (hi x σ H Q q)
theorem PGs_imp {X : Cx} {e : List Expr} {t t' : L2.TGs} (h : PGs X e t') (hi : ∀ v σ H Q, t v σ H Q → t' v σ H Q) : PGs X e t := fun pins s σ H x u Q I rx q => h pins s σ H x u Q I rx (hi x σ H Q q)
theorem Owned.set_ne {ρ : En} {i j : Nat} {d : D} (h : Owned (ρ.set i (.sh d)) j) : i ≠ j ∧ Owned ρ j := by
  rcases h with ⟨ds, q⟩ | ⟨ks, ds, q⟩
  · rcases get_set q with ⟨_, x, _⟩ | ⟨hne, q⟩
    · cases x
    · exact ⟨hne, .inl ⟨ds, q⟩⟩
  · rcases get_set q with ⟨_, x, _⟩ | ⟨hne, q⟩
    · cases x
    · exact ⟨hne, .inr ⟨ks, ds, q⟩⟩
theorem RepG.setSh {i : Nat} {d : D} {v : V} (r : RepG M G F0 H F σ ρ) (h : Rep M H F d v) : RepG M G F0 H F (σ.set i (some v)) (ρ.set i (.sh d)) where
  rs := r.rs.setSh h
  sm := r.sm
  sub := r.sub
  trk0 := r.trk0
  own j a o e := by
    obtain ⟨ne, o⟩ := o.set_ne
    rw [List.getElem?_set_ne ne] at e
    exact r.own j a o e
  onG j xss b e hb := by
    rcases get_set e with ⟨_, x, _⟩ | ⟨hne, e⟩
    · cases x
    · exact r.onG j xss b e (r.rs.on.back e (List.getElem?_set_ne hne) (fun a u _ _ hu => hu) hb)
theorem jg_name (i : Nat) {x : Str} (hN : X.N.Nodup) (hi : X.N[i]? = some x := by rfl) (hx : L2.Loc X.env.scope x := by exact Or.inl rfl) (hf : X.fn x = true ∨ X.env.scope.names.lookup x = some .local := by first | exact .inl rfl | exact .inr rfl) : JG X (.Name x pos) (gName i) := fun F0 =>
  PG_imp (L2.pg_name hN hi hx hf) fun v σ H Q ⟨ρ, F, d, ρ', r, rv, e, q⟩ => by
    cases e
    exact q _ (r.setSh rv)
theorem jgs_nil : JGs X [] (gNames []) := fun F0 =>
  PGs_imp L2.pgs_nil fun vs σ H Q ⟨ρ, F, ds, ρ', r, rv, e, q⟩ => by
    cases ds with
    | nil => cases e; simp only [Reps] at rv; exact ⟨rv, q _ r⟩
    | cons _ _ => cases e
theorem pgs_go {is : List Nat} {i : Nat} {t : TG} {u : L2.TGs} (ht : ∀ v σ H Q, tPG M G F0 (gName i) v σ H Q → t v σ H Q) (hu : ∀ v σ H Q, tPGs M G F0 (gNames is) v σ H Q → u v σ H Q) (vs : List V) (σ : L2.St) (H : Hp) (Q : L2.St → Hp → Prop)
    (h : tPGs M G F0 (gNames (i :: is)) vs σ H Q) : L2.gCons t u vs σ H Q := by
  obtain ⟨ρ, F, ds, ρ', r, rv, e, q⟩ := h
  cases ds with
  | nil => cases e
  | cons d ds =>
    simp only [Reps] at rv
    obtain ⟨x, xs, rfl, rx, rxs⟩ := rv
    refine ⟨x, xs, rfl, ht _ _ _ _ ⟨ρ, F, d, _, r, rx, rfl, fun σ1 r1 => hu _ _ _ _ ⟨_, F, ds, ρ', r1, rxs, e, q⟩⟩⟩
theorem jgs_cons (i : Nat) {is : List Nat} {e : Expr} {es : List Expr} (h1 : JG X e (gName i)) (h2 : JGs X es (gNames is)) (hs : (assignEach (e :: es) X.env).map (·.2) = assign e X.env :: (assignEach es X.env).map (·.2) := by rfl) : JGs X (e :: es) (gNames (i :: is)) := fun F0 =>
  PGs_imp (L2.pgs_cons (h1 F0) (h2 F0) hs) fun vs σ H Q h => pgs_go (fun _ _ _ _ h => h) (fun _ _ _ _ h => h) vs σ H Q h
theorem gNames_len : ∀ {is : List Nat} {ds : List D} {ρ ρ' : En}, gNames is ds ρ = .ok ρ' → ds.length = is.length
  | [], [], _, _, _ => rfl
  | _ :: _, _ :: _, _, _, h => by simp only [gNames] at h; simp [gNames_len h]
  | [], _ :: _, _, _, h => by cases h
  | _ :: _, [], _, _, h => by cases h
theorem jg_tup {is : List Nat} {es : List Expr} {k : Nat} (hc : X.calm = true) (h : JGs X es (gNames is)) (hn : (assignEach es X.env).length = is.length := by rfl) (hst : (assignEach es X.env).findIdx? (·.1) = none := by rfl) : JG X (.Tuple es k pos) (gTup is) := fun F0 =>
  PG_imp (L2.pg_tup hc (h F0) hn hst) fun v σ H Q ⟨ρ, F, d, ρ', r, rv, e, q⟩ => by
    unfold gTup at e
    split at e
    · rename_i ds
      simp only [Rep] at rv
      obtain ⟨a, xs, rfl, h1, rs⟩ := rv
      exact ⟨a, xs, rfl, h1.sq, by rw [← rs.length]; exact gNames_len e, ρ, F, ds, ρ', r, rs, e, q⟩
    · cases e
theorem js_asg {tg e : Expr} {fa : Ex} {g : Tgt} (ha : JE X e fa) (hg : JG X tg g) (hs : swapsWithSole [tg] e pos.line X.env = pure false := by rfl) (hw : swappedStores [tg] e X.env = pure none := by rfl) (h1 : (assignEach [tg] X.env).map (·.2) = [assign tg X.env] := by rfl) : JS X (.Assign [tg] e pos) (sAsg g fa) := fun F0 =>
  PS_imp (L2.ps_asg ha (hg F0) hs hw h1) fun D σ H ⟨ρ, F, fl, r, e, q⟩ => by
    obtain ⟨d, ed, e⟩ := bind_ok_iff.mp e
    obtain ⟨ρ', eg, e⟩ := bind_ok_iff.mp e
    cases e
    exact ⟨ρ, F, d, r.rs, ed, fun v H1 s1 rv => ⟨ρ, F, d, ρ', r.same s1, rv, eg, fun σ' r' => q σ' H1 F (.same s1) r'⟩⟩
noncomputable def Gives (M : Md) (J : L2.It) (H1 : Hp) (F1 : Addr → Prop) (ds : List D) : Prop := ∀ H F, Mv F1 H1 F H → (∀ p, F p → ∃ o, H p = some o) →
  (∀ i d, ds[i]? = some d → J.go i H ∧ ∀ x H', J.yld i H x H' → Same H H' ∧ Rep M H' F d x) ∧ J.stop ds.length H
noncomputable def tPI (M : Md) (f : En → R (List D)) : TI := fun σ H Rr => ∃ ρ F ds, RepS M H F σ ρ ∧ f ρ = .ok ds ∧ ∀ J H', Same H H' → Gives M J H' F ds → Rr J H'
noncomputable abbrev JI (X : Cx) (tg e : Expr) (f : Itr) : Prop := L2.PI X tg e (tPI (mdOf X) f)
theorem PI_imp {X : Cx} {tg e : Expr} {t t' : TI} (h : L2.PI X tg e t') (hi : ∀ σ H Q, t σ H Q → t' σ H Q) : L2.PI X tg e t := fun pins s σ H Q I q => h pins s σ H Q I (hi σ H Q q)
theorem for_of {J : L2.It} {tg : Tgt} {body : Sm} {g : TG} {tb : TS} (hg : ∀ v σ H Q, tPG M G F0 tg v σ H Q → g v σ H Q) (hb : ∀ D σ H, tPS M G F0 body D σ H → tb D σ H)
    {H1 : Hp} {F1 : Addr → Prop} {ds : List D} (gv : Gives M J H1 F1 ds) {ρ : En} (r : RepG M G F0 H1 F1 σ ρ) {fl : Fl} (e : forL tg body ds ρ = .ok fl) (q : EndG M G F0 H1 F1 DE fl) :
    ∃ W : Nat → Nat → L2.St → Hp → Prop, (∃ m, W 0 m σ H1) ∧ ∀ i m σ H, W i m σ H →
      (J.stop i H ∧ DE.nx σ H) ∨ (J.go i H ∧ ∃ N : L2.St → Hp → Prop, (∀ σ' H', N σ' H' → ∃ m', m' < m ∧ W (i + 1) m' σ' H') ∧ ∀ x H', J.yld i H x H' → g x σ H' fun σ2 H2 => tb { DE with nx := N, ct := N, bk := DE.nx } σ2 H2) := by
  refine ⟨fun i m σ H => m = ds.length - i ∧ i ≤ ds.length ∧ ∃ ρ F, Mv F1 H1 F H ∧ RepG M G F0 H F σ ρ ∧ forL tg body (ds.drop i) ρ = .ok fl, ⟨ds.length, by simp, Nat.zero_le _, ρ, F1, Mv.refl, r, e⟩, ?_⟩
  rintro i m σ H ⟨rfl, hi, ρ, F, mv, r, e⟩
  obtain ⟨g1, g2⟩ := gv H F mv r.rs.trk
  by_cases hlt : i < ds.length
  · refine .inr ⟨(g1 i ds[i] (by simp [hlt])).1, fun σ' H' => i + 1 ≤ ds.length ∧ ∃ ρ F, Mv F1 H1 F H' ∧ RepG M G F0 H' F σ' ρ ∧ forL tg body (ds.drop (i + 1)) ρ = .ok fl, fun σ' H' p' => ⟨ds.length - (i + 1), by omega, rfl, p'.1, p'.2⟩, fun x H' y => ?_⟩
    obtain ⟨s1, rx⟩ := (g1 i ds[i] (by simp [hlt])).2 x H' y
    rw [List.drop_eq_getElem_cons hlt] at e
    unfold forL at e
    obtain ⟨ρ1, e1, e⟩ := bind_ok_iff.mp e
    obtain ⟨f, e2, e⟩ := bind_ok_iff.mp e
    refine hg _ _ _ _ ⟨ρ, F, ds[i], ρ1, r.same s1, rx, e1, fun σ2 r2 => hb _ _ _ ⟨ρ1, F, f, r2, e2, ?_⟩⟩
    have mv1 : Mv F1 H1 F H' := mv.trans (.same s1)
    cases f with
    | next ρ2 => exact fun σ3 H3 F3 m3 r3 => ⟨hlt, ρ2, F3, mv1.trans m3, r3, e⟩
    | cont ρ2 => exact fun σ3 H3 F3 m3 r3 => ⟨hlt, ρ2, F3, mv1.trans m3, r3, e⟩
    | brk ρ2 => cases e; exact fun σ3 H3 F3 m3 r3 => q σ3 H3 F3 (mv1.trans m3) r3
    | ret d => cases e; exact fun v H3 F3 m3 a b rv => q v H3 F3 (mv1.trans m3) a b rv
    | retN d => cases e; exact fun p H3 F3 xs ds e m3 a b c rv => q p H3 F3 xs ds e (mv1.trans m3) a b c rv
  · have ei : i = ds.length := by omega
    subst ei
    rw [List.drop_length] at e
    cases e
    exact .inl ⟨g2, q σ H F mv r⟩
theorem js_for {tg iter : Expr} {body : List Stmt} {it : Itr} {g : Tgt} {f : Sm} (hp : PassesOwn (model X.prog X.w) X.A X.env X.xe) (hc : X.calm = true) (hi : JI X tg iter it) (hg : JG X tg g) (hb : JSs X body f)
    (hs : ∀ x, foldedSetIterable iter X.env x = pure x := by intro _; rfl) : JS X (.For tg iter body [] pos) (sFor it g f) := fun F0 =>
  PS_imp (L2.ps_for hp hc hi (hg F0) (hb F0) hs) fun D σ H ⟨ρ, F, fl, r, e, q⟩ => by
    obtain ⟨ds, ed, e⟩ := bind_ok_iff.mp e
    exact ⟨ρ, F, ds, r.rs, ed, fun J H1 s1 gv => for_of (fun _ _ _ _ h => h) (fun _ _ _ h => h) gv (r.same s1) e (q.mv (.same s1))⟩
theorem gives_list {a : Addr} {xs : List V} {ds : List D} (h : LsR M H F a xs) (rs : Reps M H F ds xs) : Gives M (L2.Itl M.K a) H F ds := by
  intro H' F' mv tr
  have h' := h.mv mv
  have rs' := rs.mv mv
  refine ⟨fun i d hd => ?_, ?_⟩
  · obtain ⟨x, hx, rx⟩ := rs'.get hd
    refine ⟨⟨xs, x, h'.sq, hx⟩, fun y H2 hy => ?_⟩
    obtain ⟨rfl, hy⟩ := hy
    have := hy xs h'.sq
    rw [hx] at this
    cases this
    exact ⟨Same.refl _, rx⟩
  · exact ⟨xs, h'.sq, by rw [rs.length]; exact Nat.le_refl _⟩
theorem gives_tup {a : Addr} {xs : List V} {ds : List D} (h : TpR M H F a xs) (rs : Reps M H F ds xs) : Gives M (L2.Itt M.K a) H F ds := by
  intro H' F' mv tr
  have h' := h.mv mv
  have rs' := rs.mv mv
  refine ⟨fun i d hd => ?_, ?_⟩
  · obtain ⟨x, hx, rx⟩ := rs'.get hd
    refine ⟨⟨xs, x, h'.sq, hx⟩, fun y H2 hy => ?_⟩
    obtain ⟨rfl, hy⟩ := hy
    have := hy xs h'.sq
    rw [hx] at this
    cases this
    exact ⟨Same.refl _, rx⟩
  · exact ⟨xs, h'.sq, by rw [rs.length]; exact Nat.le_refl _⟩
theorem gives_rng {lo hi : Int} : Gives M (L2.Itr lo (hi - lo).toNat) H F (rangeL lo hi) := by
  intro H' F' mv tr
  refine ⟨fun i d hd => ?_, ?_⟩
  · unfold rangeL at hd
    rw [List.getElem?_map] at hd
    cases e : (List.range (hi - lo).toNat)[i]? with
    | none => rw [e] at hd; cases hd
    | some k =>
      rw [e] at hd
      obtain ⟨hlt, hk⟩ := List.getElem?_eq_some_iff.mp e
      simp at hk hlt hd
      subst hk hd
      refine ⟨show i < (hi - lo).toNat by omega, fun y H2 hy => ?_⟩
      obtain ⟨rfl, rfl⟩ := hy
      exact ⟨Same.refl _, rep_int_mk⟩
  · show (hi - lo).toNat ≤ (rangeL lo hi).length
    unfold rangeL; simp
@[simp] noncomputable def itemsL : D → R (List D)
  | .lst xs => .ok xs
  | _ => .bad
@[simp] noncomputable def itemsT : D → R (List D)
  | .tup xs => .ok xs
  | _ => .bad
theorem inR_iff {j : Int} (h : inR j = true) : -(2 ^ 62) ≤ j ∧ j < 2 ^ 62 := by
  unfold inR at h
  rw [Bool.and_eq_true, decide_eq_true_eq, decide_eq_true_eq] at h
  exact ⟨by omega, by omega⟩
theorem ji_rng1 {tg a : Expr} {fa : Ex} {p : Pos} (hg : L2.Gl X "range") (hm : X.mg "range" = none) (ha : JE X a fa) (hs : starEach [a] X.env = (false, eval a X.env) :: starEach [] X.env := by rfl) : JI X tg (.Call (.Name "range" p) [a] [] pos) (iRng1 fa) :=
  PI_imp (L2.pi_range1 hg hm (ja_cons ha ja_nil hs) hs) fun σ H Q ⟨ρ, F, ds, r, e, q⟩ => by
    obtain ⟨d, ed, e⟩ := bind_ok_iff.mp e
    refine ⟨ρ, F, [d], r, by show (fa ρ).bind _ = _; rw [ed]; rfl, fun vs H1 s1 rv => ?_⟩
    obtain ⟨x, rfl, rx⟩ := rv.one
    split at e
    · split at e
      · rename_i j hj
        cases e
        have hj := inR_iff hj
        have := q (L2.Itr 0 j.toNat) H1 s1 (by have := gives_rng (M := mdOf X) (H := H1) (F := F) (lo := 0) (hi := j); rwa [Int.sub_zero] at this)
        exact ⟨j, by rw [rep_int rx], hj.1, hj.2, this⟩
      · cases e
    · cases e
theorem ji_rng2 {tg a b : Expr} {fa fb : Ex} {p : Pos} (hg : L2.Gl X "range") (hm : X.mg "range" = none) (ha : JE X a fa) (hb : JE X b fb) (hs : starEach [a, b] X.env = (false, eval a X.env) :: starEach [b] X.env := by rfl) (hs2 : starEach [b] X.env = (false, eval b X.env) :: starEach [] X.env := by rfl) :
    JI X tg (.Call (.Name "range" p) [a, b] [] pos) (iRng2 fa fb) :=
  PI_imp (L2.pi_range2 hg hm (ja_cons ha (ja_cons hb ja_nil hs2) hs) (by rw [hs, hs2]; rfl) hs2) fun σ H Q ⟨ρ, F, ds, r, e, q⟩ => by
    obtain ⟨d, ed, e⟩ := bind_ok_iff.mp e
    obtain ⟨d2, ed2, e⟩ := bind_ok_iff.mp e
    refine ⟨ρ, F, [d, d2], r, by show (fa ρ).bind _ = _; rw [ed]; show ((fb ρ).bind _).bind _ = _; rw [ed2]; rfl, fun vs H1 s1 rv => ?_⟩
    obtain ⟨x, y, rfl, rx, ry⟩ := rv.two
    split at e
    · split at e
      · rename_i i j _ hj
        cases e
        rw [Bool.and_eq_true] at hj
        have h1 := inR_iff hj.1
        have h2 := inR_iff hj.2
        exact ⟨i, j, by rw [rep_int rx, rep_int ry], ⟨h1.1, h1.2, h2.1, h2.2⟩, q _ H1 s1 gives_rng⟩
      · cases e
    · cases e
noncomputable def spM (M : Md) (m : List D → R D) (n : Nat) : L2.Sp := fun vs H Q _ => ∃ F ds d, (∀ p, F p → ∃ o, H p = some o) ∧ Reps M H F ds vs ∧ ds.length = n ∧ m ds = .ok d ∧ ∀ v H', Same H H' → Rep M H' F d v → Q v H'
theorem Rep.sub (hs : ∀ a, F a → F' a) {d : D} {v : V} (h : Rep M H F' d v) : Rep M H F d v := h.mv fun a o n e => ⟨fun f => n (hs a f), e⟩
theorem start_rep {N : List Str} {n : Nat} {ds : List D} {vs : List V} (tr : ∀ p, F p → ∃ o, G p = some o) (rs : Reps M G F ds vs) (hl : ds.length = n) (hn : n ≤ N.length) : RepG M G F G F (L2.start N vs) (ds.map Slot.sh ++ List.replicate (N.length - ds.length) .un) := by
  have hl2 := rs.length
  have no : ∀ i, ¬ Owned (ds.map Slot.sh ++ List.replicate (N.length - ds.length) .un) i := by
    intro i hi
    have : ∀ s, (ds.map Slot.sh ++ List.replicate (N.length - ds.length) Slot.un)[i]? = some s → (∃ d, s = .sh d) ∨ s = .un := by
      intro s hs
      rw [List.getElem?_append] at hs
      split at hs
      · rw [List.getElem?_map] at hs
        cases e1 : ds[i]? with
        | none => rw [e1] at hs; cases hs
        | some d' => rw [e1] at hs; cases hs; exact .inl ⟨_, rfl⟩
      · rw [List.getElem?_replicate] at hs
        split at hs <;> cases hs
        exact .inr rfl
    rcases hi with ⟨x, hx⟩ | ⟨k, x, hx⟩
    · rcases this _ hx with ⟨_, h⟩ | h <;> cases h
    · rcases this _ hx with ⟨_, h⟩ | h <;> cases h
  have non : ∀ (i : Nat) xss, (ds.map Slot.sh ++ List.replicate (N.length - ds.length) Slot.un)[i]? ≠ some (.on xss) := by
    intro i xss hs
    rw [List.getElem?_append] at hs
    split at hs
    · rw [List.getElem?_map] at hs
      cases e1 : ds[i]? with
      | none => rw [e1] at hs; cases hs
      | some d' => rw [e1] at hs; cases hs
    · rw [List.getElem?_replicate] at hs
      split at hs <;> cases hs
  refine ⟨⟨?_, tr, ?_, ?_, ?_, ?_, .no non⟩, Same.refl _, fun _ h => h, tr, ?_, fun i xss b e => absurd e (non i xss)⟩
  · unfold L2.start; simp [hl2]
  · intro i d hd
    rw [List.getElem?_append] at hd
    split at hd
    · rw [List.getElem?_map] at hd
      cases e1 : ds[i]? with
      | none => rw [e1] at hd; cases hd
      | some d' =>
        rw [e1] at hd; cases hd
        obtain ⟨v, ev, rv⟩ := rs.get e1
        refine ⟨v, ?_, rv⟩
        unfold L2.start
        rw [List.getElem?_append_left (by obtain ⟨h, _⟩ := List.getElem?_eq_some_iff.mp ev; simpa using h), List.getElem?_map, ev]; rfl
    · rw [List.getElem?_replicate] at hd
      split at hd <;> cases hd
  · intro i d hd
    rw [List.getElem?_append] at hd
    split at hd
    · rw [List.getElem?_map] at hd
      cases e1 : ds[i]? with
      | none => rw [e1] at hd; cases hd
      | some d' => rw [e1] at hd; cases hd
    · rw [List.getElem?_replicate] at hd
      split at hd <;> cases hd
  · intro i k d hd
    rw [List.getElem?_append] at hd
    split at hd
    · rw [List.getElem?_map] at hd
      cases e1 : ds[i]? with
      | none => rw [e1] at hd; cases hd
      | some d' => rw [e1] at hd; cases hd
    · rw [List.getElem?_replicate] at hd
      split at hd <;> cases hd
  · intro i j a oi
    exact absurd oi (no i)
  · intro i a oi
    exact absurd oi (no i)
theorem body_of {N : List Str} {n : Nat} {body : Sm} {vs : List V} {Q : VK} {E : XK} {t : TS} (ht : ∀ F0 D σ H, tPS M G F0 body D σ H → t D σ H) (h : spM M (fn N.length body) n vs G Q E) (hn : n ≤ N.length) : t { nx := fun _ H' => Q .non H', rt := Q } (L2.start N vs) G := by
  obtain ⟨F, ds, d, tr, rs, hl, e, q⟩ := h
  obtain ⟨f, ef, e⟩ := bind_ok_iff.mp e
  refine ht F _ _ _ ⟨_, F, f, start_rep tr rs hl hn, ef, ?_⟩
  cases f with
  | next ρ' => cases e; exact fun σ' H' F' mv r' => q _ _ r'.sm rep_non_mk
  | ret d' => cases e; exact fun v H' F' mv sm sub rv => q _ _ sm (rv.sub sub)
  | brk _ => cases e
  | cont _ => cases e
  | retN _ => cases e
end
end PL
set_option Elab.async false
set_option linter.all false
set_option maxRecDepth 100000
namespace PL
open PySem PySem.Spec
open L2 (V Hp HO Cx PE PT PW PA PS PSs PG PGs VK TE TT TA TS TI TG Inv RelV Vals Rd SqL SqT upd Same Key XK Ends OpR UnR CallR R2 EP)
section
variable {X : Cx} {M : Md} {G H H' : Hp} {F0 F F' : Addr → Prop} {σ : L2.St} {ρ : En} {pos : Pos} {DE : Ends}
noncomputable def Own (M : Md) (H : Hp) (F : Addr → Prop) (s : Slot) (o : HO) : Prop :=
  (∃ ds xs, s = .ol ds ∧ o = .lst xs ∧ Reps M H F ds xs) ∨ ∃ ks ds xs, s = .od ks ds ∧ o = .dK (ks.zip xs) ∧ ks.length = xs.length ∧ Reps M H F ds xs
theorem Own.mv {s : Slot} {o : HO} (m : Mv F H F' H') (h : Own M H F s o) : Own M H' F' s o := by
  rcases h with ⟨ds, xs, e1, e2, r⟩ | ⟨ks, ds, xs, e1, e2, l, r⟩
  · exact .inl ⟨ds, xs, e1, e2, r.mv m⟩
  · exact .inr ⟨ks, ds, xs, e1, e2, l, r.mv m⟩
theorem RepS.ownAt (r : RepS M H F σ ρ) {i : Nat} (o : Owned ρ i) : ∃ a s u, ρ[i]? = some s ∧ σ[i]? = some (some (.ref a)) ∧ F a ∧ H a = some u ∧ Own M H F s u := by
  rcases o with ⟨ds, q⟩ | ⟨ks, ds, q⟩
  · obtain ⟨a, xs, h1, h2, h3, h4⟩ := r.ol i ds q
    exact ⟨a, _, _, q, h1, h2, h3, .inl ⟨ds, xs, rfl, rfl, h4⟩⟩
  · obtain ⟨a, xs, h1, h2, h3, h4, h5⟩ := r.od i ks ds q
    exact ⟨a, _, _, q, h1, h2, h3, .inr ⟨ks, ds, xs, rfl, rfl, h4, h5⟩⟩
theorem owned_set {i j : Nat} {s : Slot} (h : Owned (ρ.set i s) j) : j = i ∨ (i ≠ j ∧ Owned ρ j) := by
  rcases h with ⟨ds, q⟩ | ⟨ks, ds, q⟩
  · rcases get_set q with ⟨h, _, _⟩ | ⟨hne, q⟩
    · exact .inl h.symm
    · exact .inr ⟨hne, .inl ⟨ds, q⟩⟩
  · rcases get_set q with ⟨h, _, _⟩ | ⟨hne, q⟩
    · exact .inl h.symm
    · exact .inr ⟨hne, .inr ⟨ks, ds, q⟩⟩
theorem RepS.put {i : Nat} {a : Addr} {s : Slot} {o : HO} (r : RepS M H F σ ρ) (mv : Mv F H F' H') (hF : ∀ b, F b → F' b) (ha : F' a) (ho : H' a = some o) (hk : ∀ b u, F b → b ≠ a → H b = some u → H' b = some u) (htr : ∀ b, F' b → F b ∨ b = a)
    (hn : ∀ j, j ≠ i → Owned ρ j → σ[j]? ≠ some (some (.ref a))) (hon : ∀ (j : Nat) xss b, j ≠ i → ρ[j]? = some (.on xss) → OnAt H σ j b → b ≠ a) (own : Own M H' F' s o) : RepS M H' F' (σ.set i (some (.ref a))) (ρ.set i s) where
  len := by simp [r.len]
  trk b f := by
    by_cases e : b = a
    · subst e; exact ⟨o, ho⟩
    · rcases htr b f with f | f
      · obtain ⟨u, hu⟩ := r.trk b f
        exact ⟨u, hk b u f e hu⟩
      · exact absurd f e
  sh j d q := by
    rcases get_set q with ⟨rfl, hx, hl⟩ | ⟨hne, q⟩
    · rcases own with ⟨ds, xs, rfl, _⟩ | ⟨ks, ds, xs, rfl, _⟩ <;> cases hx
    · obtain ⟨w, e1, g⟩ := r.sh j d q
      exact ⟨w, by rw [List.getElem?_set_ne hne]; exact e1, g.mv mv⟩
  ol j d q := by
    rcases get_set q with ⟨rfl, x, hl⟩ | ⟨hne, q⟩
    · rcases own with ⟨ds, xs, rfl, rfl, rs⟩ | ⟨ks, ds, xs, rfl, _⟩
      · cases x
        exact ⟨a, xs, by rw [List.getElem?_set_self (by rw [← r.len]; exact hl)], ha, ho, rs⟩
      · cases x
    · obtain ⟨b, xs, e1, f, e2, g⟩ := r.ol j d q
      refine ⟨b, xs, by rw [List.getElem?_set_ne hne]; exact e1, hF _ f, hk _ _ f ?_ e2, g.mv mv⟩
      rintro rfl
      exact hn j (Ne.symm hne) (.inl ⟨_, q⟩) e1
  od j k d q := by
    rcases get_set q with ⟨rfl, x, hl⟩ | ⟨hne, q⟩
    · rcases own with ⟨ds, xs, rfl, _⟩ | ⟨ks, ds, xs, rfl, rfl, l, rs⟩
      · cases x
      · cases x
        exact ⟨a, xs, by rw [List.getElem?_set_self (by rw [← r.len]; exact hl)], ha, ho, l, rs⟩
    · obtain ⟨b, xs, e1, f, e2, l, g⟩ := r.od j k d q
      refine ⟨b, xs, by rw [List.getElem?_set_ne hne]; exact e1, hF _ f, hk _ _ f ?_ e2, l, g.mv mv⟩
      rintro rfl
      exact hn j (Ne.symm hne) (.inr ⟨_, _, q⟩) e1
  dis j k b oj ok ej ek := by
    have self : ∀ c, (σ.set i (some (.ref a)))[i]? = some (some (.ref c)) → c = a := fun c h => by
      rw [List.getElem?_set_self'] at h
      cases hq : σ[i]? with
      | none => rw [hq] at h; cases h
      | some z => rw [hq] at h; cases h; rfl
    rcases owned_set oj with hj | ⟨nj, oj⟩
    · rcases owned_set ok with hk2 | ⟨nk, ok⟩
      · rw [hj, hk2]
      · rw [hj] at ej
        rw [List.getElem?_set_ne nk] at ek
        cases self _ ej
        exact absurd ek (hn k (Ne.symm nk) ok)
    · rw [List.getElem?_set_ne nj] at ej
      rcases owned_set ok with hk2 | ⟨nk, ok⟩
      · rw [hk2] at ek
        cases self _ ek
        exact absurd ej (hn j (Ne.symm nj) oj)
      · rw [List.getElem?_set_ne nk] at ek
        exact r.dis j k b oj ok ej ek
  on := by
    have old : ∀ (j : Nat) xss, (ρ.set i s)[j]? = some (.on xss) → i ≠ j ∧ ρ[j]? = some (.on xss) := fun j xss e => by
      rcases get_set e with ⟨_, x, _⟩ | ⟨hne, e⟩
      · rcases own with ⟨ds, xs, rfl, _⟩ | ⟨ks, ds, xs, rfl, _⟩ <;> cases x
      · exact ⟨hne, e⟩
    refine r.on.mv mv (fun j xss e => ⟨(old j xss e).2, List.getElem?_set_ne (old j xss e).1⟩) (fun j xss b u e hb f hu => ⟨hF b f, hk b u f (hon j xss b (Ne.symm (old j xss e).1) (old j xss e).2 hb) hu⟩) fun j xss b e hb k ok => ?_
    obtain ⟨hne, e0⟩ := old j xss e
    rcases owned_set ok with rfl | ⟨nk, ok⟩
    · intro h
      rw [List.getElem?_set_self'] at h
      cases hq : σ[k]? with
      | none => rw [hq] at h; cases h
      | some z => rw [hq] at h; cases h; exact hon j xss _ (Ne.symm hne) e0 hb rfl
    · rw [List.getElem?_set_ne nk]
      exact (r.on j xss e0).2.1 b hb k ok
theorem RepG.new {i : Nat} {p : Addr} {s : Slot} {o : HO} (r : RepG M G F0 H F σ ρ) (hp : H p = none) (own : Own M H F s o) :
    Mv F H (fun b => F b ∨ b = p) (upd H p o) ∧ RepG M G F0 (upd H p o) (fun b => F b ∨ b = p) (σ.set i (some (.ref p))) (ρ.set i s) := by
  have ne : ∀ b u, H b = some u → b ≠ p := fun b u e z => by subst z; rw [hp] at e; cases e
  have mv : Mv F H (fun b => F b ∨ b = p) (upd H p o) := fun b u n e => ⟨fun h => h.elim n (ne b u e), by rw [L2.upd_ne (ne b u e)]; exact e⟩
  have hG : G p = none := r.sm.free hp
  refine ⟨mv, ⟨r.rs.put mv (fun _ h => .inl h) (.inr rfl) L2.upd_same (fun b u _ n e => by rw [L2.upd_ne n]; exact e) (fun _ h => h) (fun j _ oj e => ?_) (fun j xss b _ e hb z => by
      obtain ⟨_, xs, hx⟩ := r.rs.on.f e hb
      exact ne b _ hx z) (own.mv mv), fun b u e => by rw [L2.upd_ne (ne b u (r.sm b u e))]; exact r.sm b u e, fun b h => .inl (r.sub b h), r.trk0, fun j a oj e => ?_, fun j xss b e hb => ?_⟩⟩
  · obtain ⟨a, _, u, _, e1, _, e2, _⟩ := r.rs.ownAt oj
    rw [e1] at e; cases e
    exact ne _ _ e2 rfl
  · rcases owned_set oj with rfl | ⟨nj, oj⟩
    · rw [List.getElem?_set] at e
      split at e
      · split at e
        · cases e; exact hG
        · cases e
      · rename_i h; exact absurd rfl h
    · rw [List.getElem?_set_ne nj] at e
      exact r.own j a oj e
  · rcases get_set e with ⟨_, x, _⟩ | ⟨hne, e⟩
    · rcases own with ⟨ds, xs, rfl, _⟩ | ⟨ks, ds, xs, rfl, _⟩ <;> cases x
    · exact r.onG j xss b e (r.rs.on.back e (List.getElem?_set_ne hne) (fun a u _ _ hu => by rw [L2.upd_ne (ne a u hu)]; exact hu) hb)
theorem RepG.chg {i : Nat} {a : Addr} {s : Slot} {o : HO} (r : RepG M G F0 H F σ ρ) (oi : Owned ρ i) (ei : σ[i]? = some (some (.ref a))) (own : Own M H F s o) :
    Mv F H F (upd H a o) ∧ RepG M G F0 (upd H a o) F σ (ρ.set i s) := by
  obtain ⟨a', _, u, _, e1, fa, e2, _⟩ := r.rs.ownAt oi
  rw [ei] at e1; cases e1
  have mv : Mv F H F (upd H a o) := fun b v n e => ⟨n, by rw [L2.upd_ne (fun z => by subst z; exact n fa)]; exact e⟩
  have hG := r.own i a oi ei
  have hs : σ.set i (some (.ref a)) = σ := by
    obtain ⟨hl, h⟩ := List.getElem?_eq_some_iff.mp ei
    rw [← h]; exact List.set_getElem_self hl
  have key := r.rs.put (i := i) mv (fun _ h => h) fa L2.upd_same (fun b u _ n e => by rw [L2.upd_ne n]; exact e) (fun _ h => .inl h) (fun j nj oj e => nj (r.rs.dis j i a oj oi e ei)) (fun j xss b _ e hb z => by subst z; exact (r.rs.on j xss e).2.1 _ hb i oi ei) (own.mv mv)
  rw [hs] at key
  refine ⟨mv, ⟨key, fun b u e => by rw [L2.upd_ne (fun z => by subst z; rw [hG] at e; cases e)]; exact r.sm b u e, r.sub, r.trk0, fun j b oj e => ?_, fun j xss b e hb => ?_⟩⟩
  · rcases owned_set oj with rfl | ⟨nj, oj⟩
    · rw [ei] at e; cases e; exact hG
    · exact r.own j b oj e
  · rcases get_set e with ⟨_, x, _⟩ | ⟨hne, e⟩
    · rcases own with ⟨ds, xs, rfl, _⟩ | ⟨ks, ds, xs, rfl, _⟩ <;> cases x
    · refine r.onG j xss b e (r.rs.on.back e rfl (fun c u hc _ hu => ?_) hb)
      rw [L2.upd_ne (fun z => by subst z; exact (r.rs.on j xss e).2.1 _ hc i oi ei)]; exact hu
theorem on_frz {i : Nat} {a : Addr} {d : D} (r : OnR M H F σ ρ) (oi : Owned ρ i) (ei : σ[i]? = some (some (.ref a))) (mv : Mv F H F' H) (hF : ∀ b, F b → b ≠ a → F' b) : OnR M H F' σ (ρ.set i (.sh d)) := by
  have old : ∀ (j : Nat) xss, (ρ.set i (.sh d))[j]? = some (.on xss) → ρ[j]? = some (.on xss) := fun j xss e => by
    rcases get_set e with ⟨_, x, _⟩ | ⟨hne, e⟩
    · cases x
    · exact e
  refine r.mv mv (fun j xss e => ⟨old j xss e, rfl⟩) (fun j xss b u e hb f hu => ⟨hF b f fun z => ?_, hu⟩) fun j xss b e hb k ok => (r j xss (old j xss e)).2.1 b hb k ok.set_ne.2
  subst z
  exact (r j xss (old j xss e)).2.1 _ hb i oi ei
theorem RepG.frz {i : Nat} {a : Addr} {s : Slot} {u : HO} {d : D} (r : RepG M G F0 H F σ ρ) (oi : Owned ρ i) (es : ρ[i]? = some s) (ei : σ[i]? = some (some (.ref a))) (hd : (∃ ds, s = .ol ds ∧ d = .lst ds) ∨ ∃ ks ds, s = .od ks ds ∧ d = .dct ks ds) :
    ∃ F', Mv F H F' H ∧ RepG M G F0 H F' σ (ρ.set i (.sh d)) := by
  obtain ⟨a', s', u, es', e1, fa, e2, ow⟩ := r.rs.ownAt oi
  rw [ei] at e1; cases e1
  rw [es] at es'; cases es'
  have hG := r.own i a oi ei
  have mv : Mv F H (fun b => F b ∧ b ≠ a) H := fun b v n e => ⟨fun h => n h.1, e⟩
  have hrep : Rep M H (fun b => F b ∧ b ≠ a) d (.ref a) := by
    rcases hd with ⟨ds, rfl, rfl⟩ | ⟨ks, ds, rfl, rfl⟩
    · rcases ow with ⟨ds', xs, h1, rfl, rs⟩ | ⟨ks, ds, xs, h1, _⟩
      · cases h1
        simp only [Rep]
        exact ⟨a, xs, rfl, .inl ⟨fun h => h.2 rfl, .inl e2⟩, rs.mv mv⟩
      · cases h1
    · rcases ow with ⟨ds', xs, h1, _⟩ | ⟨ks', ds', xs, h1, rfl, l, rs⟩
      · cases h1
      · cases h1
        simp only [Rep]
        exact ⟨a, xs, rfl, .inl ⟨fun h => h.2 rfl, .inl e2⟩, l, rs.mv mv⟩
  refine ⟨fun b => F b ∧ b ≠ a, mv, ⟨⟨by simp [r.rs.len], fun b h => r.rs.trk b h.1, ?_, ?_, ?_, ?_, ?_⟩, r.sm, fun b h => ⟨r.sub b h, fun z => by subst z; obtain ⟨o, e⟩ := r.trk0 _ h; rw [hG] at e; cases e⟩, r.trk0, ?_, ?_⟩⟩
  · intro j e q
    rcases get_set q with ⟨rfl, hx, hl⟩ | ⟨hne, q⟩
    · cases hx
      exact ⟨_, ei, hrep⟩
    · obtain ⟨w, e1, g⟩ := r.rs.sh j e q
      exact ⟨w, e1, g.mv mv⟩
  · intro j e q
    rcases get_set q with ⟨rfl, x, hl⟩ | ⟨hne, q⟩
    · cases x
    · obtain ⟨b, xs, e1, f, e3, g⟩ := r.rs.ol j e q
      exact ⟨b, xs, e1, ⟨f, fun z => by subst z; exact hne (r.rs.dis i j _ oi (.inl ⟨_, q⟩) ei e1)⟩, e3, g.mv mv⟩
  · intro j k e q
    rcases get_set q with ⟨rfl, x, hl⟩ | ⟨hne, q⟩
    · cases x
    · obtain ⟨b, xs, e1, f, e3, l, g⟩ := r.rs.od j k e q
      exact ⟨b, xs, e1, ⟨f, fun z => by subst z; exact hne (r.rs.dis i j _ oi (.inr ⟨_, _, q⟩) ei e1)⟩, e3, l, g.mv mv⟩
  · intro j k b oj ok ej ek
    exact r.rs.dis j k b oj.set_ne.2 ok.set_ne.2 ej ek
  · exact on_frz r.rs.on oi ei mv (fun b f n => ⟨f, n⟩)
  · intro j b oj e
    exact r.own j b oj.set_ne.2 e
  · intro j xss b e hb
    rcases get_set e with ⟨_, x, _⟩ | ⟨_, e⟩
    · cases x
    · exact r.onG j xss b e hb
theorem js_freeze (i : Nat) {rest : List Stmt} {fs : List Sm} (h : JSs X rest (sBlk fs)) : JSs X rest (sBlk (sFreeze i :: fs)) := fun F0 =>
  PSs_imp (h F0) fun D σ H ⟨ρ, F, fl, r, e, q⟩ => by
    obtain ⟨f1, e1, e⟩ := bind_ok_iff.mp e
    unfold sFreeze at e1
    split at e1
    · rename_i xs q1
      cases e1
      have oi : Owned ρ i := .inl ⟨_, q1⟩
      obtain ⟨a, _, _, _, ea, _⟩ := r.rs.ownAt oi
      obtain ⟨F', mv, r'⟩ := r.frz (u := .lst []) oi q1 ea (.inl ⟨_, rfl, rfl⟩)
      exact ⟨_, F', fl, r', e, q.mv mv⟩
    · rename_i ks vs q1
      cases e1
      have oi : Owned ρ i := .inr ⟨_, _, q1⟩
      obtain ⟨a, _, _, _, ea, _⟩ := r.rs.ownAt oi
      obtain ⟨F', mv, r'⟩ := r.frz (u := .lst []) oi q1 ea (.inr ⟨_, _, rfl, rfl⟩)
      exact ⟨_, F', fl, r', e, q.mv mv⟩
    · cases e1
noncomputable def tPF (M : Md) (f : Ex) : TE := fun σ H Q => ∃ ρ F ds, RepS M H F σ ρ ∧ f ρ = .ok (.lst ds) ∧ ∀ p H' xs, Same H H' → H' p = none → Reps M H' F ds xs → Q (.ref p) (upd H' p (.lst xs))
noncomputable abbrev JF (X : Cx) (e : Expr) (f : Ex) : Prop := PE X e (tPF (mdOf X) f)
theorem jf_lst {es : List Expr} {fs : List Ex} (h : JA X es (eList fs)) (hl : fs.length ≤ 1000 := by decide) : JF X (.List es pos) (eLst fs) :=
  PE_imp (L2.pe_lst h) fun σ H Q ⟨ρ, F, d, hr, e, q⟩ => by
    obtain ⟨as, ea, e⟩ := bind_ok_iff.mp e
    cases e
    refine ⟨ρ, F, _, hr, ea, fun xs H1 s1 rs => ⟨?_, fun p hp => q p H1 xs s1 hp rs⟩⟩
    rw [← rs.length, eList_len ea]
    exact Nat.le_trans hl (by decide)
theorem js_ownL (i : Nat) {x : Str} {e : Expr} {f : Ex} {p2 : Pos} (hN : X.N.Nodup) (he : JF X e f) (hi : X.N[i]? = some x := by rfl) (hx : L2.Loc X.env.scope x := by exact Or.inl rfl) (hf : X.fn x = true ∨ X.env.scope.names.lookup x = some .local := by first | exact .inl rfl | exact .inr rfl)
    (hs : swapsWith e (some (.Name x p2)) pos.line X.env = pure false := by rfl) : JS X (.Assign [.Name x p2] e pos) (sOwnL i f) := fun F0 =>
  PS_imp (L2.ps_set hN hi hx he hs hf) fun D σ H ⟨ρ, F, fl, r, e, q⟩ => by
    obtain ⟨d, ed, e⟩ := bind_ok_iff.mp e
    split at e
    · cases e
      refine ⟨ρ, F, _, r.rs, ed, fun p H1 xs s1 hp rs => ?_⟩
      obtain ⟨mv, r'⟩ := (r.same s1).new (i := i) (s := .ol _) hp (.inl ⟨_, xs, rfl, rfl, rs⟩)
      exact q _ _ _ (Mv.trans (.same s1) mv) r'
    · cases e
theorem js_append (i : Nat) {x : Str} {e : Expr} {f : Ex} {p2 apos cpos : Pos} (he : JE X e f) (hN : X.N[i]? = some x := by rfl) (hv : L2.Vis X.env.scope x := by first | exact Or.inl rfl | exact Or.inr (Or.inl rfl) | exact Or.inr (Or.inr rfl)) (hd : (x == ("__debug__" : Str)) = false := by decide)
    (hcd : (x == ("__classdict__" : Str)) = false := by decide) (hbase : attributeBase (.Name x p2) "append" X.env (eval (.Name x p2) X.env) = eval (.Name x p2) X.env := by rfl)
    (hfew : ((backTo cpos (starEach [e] X.env)).all (fun x => !x.1) && (backToKw cpos (keywordEach [] X.env)).all (fun x => x.1.isSome)
      && decide (([e] : List Expr).length + ([] : List Keyword).length + (if ([] : List Keyword).isEmpty then 0 else 1) < 30)) = true := by rfl)
    (hline : (apos.endLine == cpos.line) = true := by rfl) (hs : starEach [e] X.env = (false, eval e X.env) :: starEach [] X.env := by rfl)
    (hsw : swapsWith (.Call (.Attribute (.Name x p2) "append" apos) [e] [] cpos) none pos.line X.env = pure false := by rfl) :
    JS X (.Expr (.Call (.Attribute (.Name x p2) "append" apos) [e] [] cpos) pos) (sAppend i f) := fun F0 =>
  PS_imp (L2.ps_expr (L2.pe_bm PySem.F.plainAttrs_list PySem.F.slot_list_append PySem.F.type_list_append L2.mt_append (L2.pv i hN hv hd hcd) (ja_cons he ja_nil hs) hbase hfew hline hs) hsw) fun D σ H ⟨ρ, F, fl, r, e, q⟩ => by
    obtain ⟨d, ed, e⟩ := bind_ok_iff.mp e
    split at e
    · rename_i xs q1
      split at e
      · rename_i hlt
        cases e
        have oi : Owned ρ i := .inl ⟨_, q1⟩
        obtain ⟨a, ys, ea, fa, ha, rs⟩ := r.rs.ol i _ q1
        refine ⟨_, ea, .inl ⟨rfl, ys, SqL.of ha⟩, ρ, F, [d], r.rs, by show (f ρ).bind _ = _; rw [ed]; rfl, fun vs H1 s1 rv => ?_⟩
        obtain ⟨y, rfl, ry⟩ := rv.one
        have r1 := r.same s1
        refine ⟨a, ys, y, rfl, rfl, s1 _ _ ha, by rw [← rs.length]; exact hlt, ?_⟩
        obtain ⟨mv, r'⟩ := r1.chg (s := .ol (xs ++ [d])) oi ea (.inl ⟨_, ys ++ [y], rfl, rfl, (rs.mv (.same s1)).append (Reps.cons ry Reps.nil)⟩)
        exact q _ _ _ (Mv.trans (.same s1) mv) r'
      · cases e
    · cases e
structure Df (P : Program) (w : World) (K : PySem.W.Frag) (mg : Str → Option Value) (base : Heap) (x : Str) (k n : Nat) (m : List D → R D) : Prop where
  ex : ∃ f fd ps, L2.FnOk P w K mg base L2.CX0 k f fd ps (spM ⟨K, P, w⟩ m n) ∧ L2.Binds K fd ps [] ∧ PySem.W.keepIn K (.ref f) = true ∧ mg x = some (.ref f)
theorem tCall_of {m : List D → R D} {n : Nat} {fs : List Ex} {Q : VK} {E : XK} (hn : fs.length = n) (h : tP M (eCall m fs) σ H Q) : L2.tCall (spM M m n) [] E (tPA M (eList fs)) σ H Q := by
  obtain ⟨ρ, F, d, hr, e, q⟩ := h
  obtain ⟨ds, eds, e⟩ := bind_ok_iff.mp e
  refine ⟨ρ, F, ds, hr, eds, fun vs H1 s1 rs => ?_⟩
  show spM M m n (vs ++ []) H1 Q E
  rw [List.append_nil]
  exact ⟨F, ds, d, (hr.same s1).trk, rs, by rw [eList_len eds]; exact hn, e, fun v H2 s2 rv => q v H2 (s1.trans s2) rv⟩
theorem je_call {x : Str} {k j n : Nat} {m : List D → R D} {e : Expr} {es : List Expr} {fs : List Ex} {p : Pos} (d : Df X.prog X.w X.K X.mg X.base x k n m) (hr : L2.Room j X.A) (hg : L2.Gl X x) (ha : JA X (e :: es) (eList fs)) (hk : k ≤ j := by decide) (hn : fs.length = n := by rfl)
    (hdb : (x == ("__debug__" : Str)) = false := by decide) (he : starEach (e :: es) X.env = (false, eval e X.env) :: starEach es X.env := by rfl) (hpl : (backTo pos (starEach es X.env)).any (·.1) = false := by rfl) : JE X (.Call (.Name x p) (e :: es) [] pos) (eCall m fs) := by
  obtain ⟨f, fd, ps, h1, h2, h3, h4⟩ := d.ex
  exact PE_imp (L2.pe_call h1 (hr.mono hk) hg h4 h3 h2 .nil L2.pass0 ha hdb he hpl) fun σ H Q h => tCall_of hn h
theorem je_call0 {x : Str} {k j : Nat} {m : List D → R D} {p : Pos} (d : Df X.prog X.w X.K X.mg X.base x k 0 m) (hr : L2.Room j X.A) (hg : L2.Gl X x) (hk : k ≤ j := by decide) (hdb : (x == ("__debug__" : Str)) = false := by decide) : JE X (.Call (.Name x p) [] [] pos) (eCall m []) := by
  obtain ⟨f, fd, ps, h1, h2, h3, h4⟩ := d.ex
  refine PE_imp (L2.pe_call0 h1 (hr.mono hk) hg h4 h3 h2 .nil L2.pass0 hdb) fun σ H Q ⟨ρ, F, d, hr, e, q⟩ => ?_
  exact ⟨F, [], d, hr.trk, Reps.nil, rfl, e, q⟩
theorem fnok_of {P : Program} {w : World} {K : PySem.W.Frag} {mg : Str → Option Value} {base : Heap} {x qual : Str} {st : Stmt} {f : Addr} {fd : FuncData} {N ps : List Str} {k n : Nat} {body : Sm} (Fu : L2.Fun K x qual st f fd) (S : L2.FnScope N ps (L2.defScope st))
    (h : ∀ (cdv : Value) (A : Around) (outer : List Env) (s : Shared) (H : Hp) (E : XK), L2.Room k (A.deeper (PyProof.Rows.envOfC qual (L2.defScope st) s.heap.objs.size f cdv)) → JSs (L2.cxOf L2.CX0 P w K mg base N qual (L2.defScope st) f cdv A outer s H E).nox (L2.defBody st) body)
    (hn : ps.length = n := by rfl) : L2.FnOk P w K mg base L2.CX0 (k + 1) f fd ps (spM ⟨K, P, w⟩ (fn N.length body) n) := by
  refine Fu.ok S (fun vs H Q E h => ?_) (fun cdv A outer s H vs Q E hr hsp => ?_)
  · obtain ⟨F, ds, d, _, rs, hl, _⟩ := h
    rw [← rs.length, hl, hn]
  · refine ⟨fun D σ H' => ∃ F0, tPS ⟨K, P, w⟩ H F0 body D σ H', fun pins s' σ H' D I ⟨F0, q⟩ => h cdv A outer s H E hr F0 pins s' σ H' D I q, ?_⟩
    refine body_of (G := H) (t := fun D σ H' => ∃ F0, tPS ⟨K, P, w⟩ H F0 body D σ H') (fun F0 D σ H' h => ⟨F0, h⟩) hsp ?_
    have := congrArg List.length S.pre
    rw [List.length_take] at this
    omega
theorem df_of {P : Program} {w : World} {K : PySem.W.Frag} {mg : Str → Option Value} {base : Heap} {x qual : Str} {st : Stmt} {f : Addr} {fd : FuncData} {N ps : List Str} {k n : Nat} {body : Sm} (Fu : L2.Fun K x qual st f fd) (hm : mg x = some (.ref f)) (S : L2.FnScope N ps (L2.defScope st)) (hb : L2.Binds K fd ps [])
    (h : ∀ (cdv : Value) (A : Around) (outer : List Env) (s : Shared) (H : Hp) (E : XK), L2.Room k (A.deeper (PyProof.Rows.envOfC qual (L2.defScope st) s.heap.objs.size f cdv)) → JSs (L2.cxOf L2.CX0 P w K mg base N qual (L2.defScope st) f cdv A outer s H E).nox (L2.defBody st) body)
    (hn : ps.length = n := by rfl) : Df P w K mg base x (k + 1) n (fn N.length body) := ⟨f, fd, ps, fnok_of Fu S h hn, hb, Fu.kp, hm⟩
end
end PL
set_option Elab.async false
set_option linter.all false
set_option maxRecDepth 100000
namespace PL
open PySem PySem.Spec
open L2 (V Hp HO Cx PE PT PW PA PS PSs PG PGs VK TE TT TA TS TI TG Inv RelV Vals Rd SqL SqT upd Same Key XK Ends OpR UnR CallR R2 EP It Turn FpOk)
section
variable {X : Cx} {M : Md} {G H H' : Hp} {F0 F F' : Addr → Prop} {σ : L2.St} {ρ : En} {pos : Pos} {DE : Ends}
theorem l_mul : OpL M oMul (L2.rI L2.CMul fun i j => .int (i * j)) := by
  intro F H x y a b d Q tr ra rb e q
  unfold oMul at e
  split at e
  · split at e
    · rename_i h
      cases e
      rw [Bool.or_eq_true] at h
      exact ⟨_, _, rep_int ra, rep_int rb, h.elim (fun h => .inl (small_iff h)) (fun h => .inr (small_iff h)), q _ _ (Same.refl _) rep_int_mk⟩
    · cases e
  · cases e
noncomputable def Its (x : Str) : It := ⟨fun i _ => i < x.cps.size, fun i H v H' => H' = H ∧ ∃ c, x.cps[i]? = some c ∧ v = .str ⟨#[c]⟩, fun i _ => x.cps.size ≤ i⟩
theorem turn_strA {P : Program} {w : World} {K : PySem.W.Frag} {tg : Expr} (x : Str) (t : Tok) (it : Addr) : Turn P w K tg (Its x) [it] it (fun i h => h.IsStrIter it "str_ascii_iterator" x t i) where
  mem := by simp
  obj := fun i h st b hb => by
    have e : b = it := by simpa using hb
    subst e
    obtain ⟨o, e, c, d⟩ := st
    exact ⟨o, e, fun v z => by rw [d] at z; cases z⟩
  keep := fun i h h' st k => let ⟨o, e, r⟩ := st; ⟨o, k it (by simp) o e, r⟩
  item := by
    intro X hP hw hK hc i pins s σ H E I hf st hg
    subst hP hw hK
    obtain ⟨f0, f1, f2, f3, f4, f5⟩ := hf it (by simp)
    have hg : i < x.cps.size := hg
    refine wpAny_pyNext_ascii_item st (c := x.cps[i]) (by simp [hg]) fun h' st' sb => ?_
    have I1 : Inv X pins σ H { s with heap := h', toks := s.toks + 1 } := I.turned (t' := s.toks + 1) (fun b o hb e => (sb.2 b hb).trans e) f0 f1 f3 f4 f5
    obtain ⟨o, e, c, d⟩ := id st'
    exact ⟨_, rfl, L2.go_of (s := { s with heap := h', toks := s.toks + 1 }) e c d (by decide) ⟨.str ⟨#[x.cps[i]]⟩, H, I1, ⟨_, rfl⟩, ⟨rfl, _, by simp [hg], rfl⟩, st', fun b hb => (hf b hb).1⟩⟩
  done := by
    intro X hP hw hK hc i pins s σ H E I hf st hg
    subst hP hw hK
    have hg : x.cps.size ≤ i := hg
    obtain ⟨f0, f1, f2, f3, f4, f5⟩ := hf it (by simp)
    exact wpAny_pyNext_ascii_end (I.ok.hd hc) st (by simp [hg]) fun h' eb => ⟨rfl, I.turned (t' := s.toks) (fun b o hb e => eb b o hb e) f0 f1 f3 f4 f5⟩
  self := fun _ _ _ _ _ st h => wpAny_pyIter_striter_ascii st h
theorem turn_strW {P : Program} {w : World} {K : PySem.W.Frag} {tg : Expr} (x : Str) (t : Tok) (it : Addr) : Turn P w K tg (Its x) [it] it (fun i h => h.IsStrIter it "str_iterator" x t i) where
  mem := by simp
  obj := fun i h st b hb => by
    have e : b = it := by simpa using hb
    subst e
    obtain ⟨o, e, c, d⟩ := st
    exact ⟨o, e, fun v z => by rw [d] at z; cases z⟩
  keep := fun i h h' st k => let ⟨o, e, r⟩ := st; ⟨o, k it (by simp) o e, r⟩
  item := by
    intro X hP hw hK hc i pins s σ H E I hf st hg
    subst hP hw hK
    obtain ⟨f0, f1, f2, f3, f4, f5⟩ := hf it (by simp)
    have hg : i < x.cps.size := hg
    refine wpAny_pyNext_wide_item st (c := x.cps[i]) (by simp [hg]) fun h' st' sb => ?_
    have I1 : Inv X pins σ H { s with heap := h', toks := s.toks + 1 } := I.turned (t' := s.toks + 1) (fun b o hb e => (sb.2 b hb).trans e) f0 f1 f3 f4 f5
    obtain ⟨o, e, c, d⟩ := id st'
    exact ⟨_, rfl, L2.go_of (s := { s with heap := h', toks := s.toks + 1 }) e c d (by decide) ⟨.str ⟨#[x.cps[i]]⟩, H, I1, ⟨_, rfl⟩, ⟨rfl, _, by simp [hg], rfl⟩, st', fun b hb => (hf b hb).1⟩⟩
  done := by
    intro X hP hw hK hc i pins s σ H E I hf st hg
    subst hP hw hK
    have hg : x.cps.size ≤ i := hg
    obtain ⟨f0, f1, f2, f3, f4, f5⟩ := hf it (by simp)
    exact wpAny_pyNext_wide_end (I.ok.hd hc) st (by simp [hg]) fun h' eb => ⟨rfl, I.turned (t' := s.toks) (fun b o hb e => eb b o hb e) f0 f1 f3 f4 f5⟩
  self := fun _ _ _ _ _ st h => wpAny_pyIter_striter_wide st h
noncomputable def iSq (K : PySem.W.Frag) (tl : TE) : TI := fun σ H R => tl σ H fun x H1 => (∃ a, x = .ref a ∧ (∃ xs, SqL K H1 a xs) ∧ R (L2.Itl K a) H1) ∨ (∃ a, x = .ref a ∧ (∃ xs, SqT K H1 a xs) ∧ R (L2.Itt K a) H1) ∨ ∃ z, x = .str z ∧ R (Its z) H1
theorem iter_seq {tg : Expr} {pins : List (Addr × Obj)} {R : It → Hp → Prop} {s1 : Shared} {x : V} {v : Value} (I1 : Inv X pins σ H s1) (r1 : RelV x v)
    (q1 : (∃ a, x = .ref a ∧ (∃ xs, SqL X.K H a xs) ∧ R (L2.Itl X.K a) H) ∨ (∃ a, x = .ref a ∧ (∃ xs, SqT X.K H a xs) ∧ R (L2.Itt X.K a) H) ∨ ∃ z, x = .str z ∧ R (Its z) H) :
    wpAny (model X.prog X.w) X.A (pyIter v) (L2.PIE X pins σ tg R) X.xe s1 := by
  have fp : ∀ b ∈ [s1.heap.objs.size], FpOk X pins H b := fun b hb => by
    have e : b = s1.heap.objs.size := by simpa using hb
    subst e
    exact I1.fpOk (Nat.le_refl _) (I1.hok.fresh (Nat.le_refl _))
  rcases q1 with ⟨a, rfl, ⟨xs, hq⟩, q⟩ | ⟨a, rfl, ⟨xs, hq⟩, q⟩ | ⟨z, rfl, q⟩
  · cases r1
    obtain ⟨its, rv, p, hz⟩ := I1.list hq
    refine wpAny_pyIter_list p.isList ?_
    exact ⟨s1.heap.objs.size, [s1.heap.objs.size], _, _, H, rfl, I1.kept (t' := s1.toks) fun b o e => Heap.get?_push_of_some _ e, L2.turn_list a _, ⟨_, Heap.get?_push_size _ rfl, rfl, rfl⟩, fp, q⟩
  · cases r1
    obtain ⟨its, rv, p, hz⟩ := I1.tuple hq
    refine wpAny_pyIter_tuple (show s1.heap.IsTuple a its.toArray from p) ?_
    exact ⟨s1.heap.objs.size, [s1.heap.objs.size], _, _, H, rfl, I1.kept (t' := s1.toks) fun b o e => Heap.get?_push_of_some _ e, L2.turn_tuple a _, ⟨_, Heap.get?_push_size _ rfl, rfl, rfl⟩, fp, q⟩
  · obtain ⟨t, rfl⟩ := r1
    cases ha : z.cps.all (· < 128)
    · refine wpAny_pyIter_wide ha ?_
      exact ⟨s1.heap.objs.size, [s1.heap.objs.size], _, _, H, rfl, I1.kept (t' := s1.toks) fun b o e => Heap.get?_push_of_some _ e, turn_strW z t _, ⟨_, Heap.get?_push_size _ rfl, rfl, rfl⟩, fp, q⟩
    · refine wpAny_pyIter_ascii ha ?_
      exact ⟨s1.heap.objs.size, [s1.heap.objs.size], _, _, H, rfl, I1.kept (t' := s1.toks) fun b o e => Heap.get?_push_of_some _ e, turn_strA z t _, ⟨_, Heap.get?_push_size _ rfl, rfl, rfl⟩, fp, q⟩
theorem pi_seq {tg l : Expr} {tl : TE} (hl : PE X l tl) : L2.PI X tg l (iSq X.K tl) := fun pins s σ H R I h =>
  L2.thn (hl pins s σ H _ I h) fun v s1 ⟨x, H1, I1, r1, q1⟩ => iter_seq I1 r1 q1
theorem gives_str {x : Str} : Gives M (Its x) H F (x.cps.toList.map fun c => .str ⟨#[c]⟩) := by
  intro H' F' mv tr
  refine ⟨fun i d hd => ?_, ?_⟩
  · rw [List.getElem?_map] at hd
    cases e : x.cps.toList[i]? with
    | none => rw [e] at hd; cases hd
    | some c =>
      rw [e] at hd
      cases hd
      have e' : x.cps[i]? = some c := by simpa using e
      refine ⟨show i < x.cps.size from (Array.getElem?_eq_some_iff.mp e').1, fun y H2 hy => ?_⟩
      obtain ⟨rfl, c', hc', rfl⟩ := hy
      rw [e'] at hc'
      cases hc'
      exact ⟨Same.refl _, rep_str_mk⟩
  · show x.cps.size ≤ _
    simp
theorem seq_gives {K : PySem.W.Frag} {d : D} {ds : List D} {x : V} {R : It → Hp → Prop} (e : items d = .ok ds) (rv : Rep M H F d x) (q : ∀ J, Gives M J H F ds → R J H) :
    (∃ a, x = .ref a ∧ (∃ xs, SqL M.K H a xs) ∧ R (L2.Itl M.K a) H) ∨ (∃ a, x = .ref a ∧ (∃ xs, SqT M.K H a xs) ∧ R (L2.Itt M.K a) H) ∨ ∃ z, x = .str z ∧ R (Its z) H := by
  unfold items at e
  split at e
  · cases e
    simp only [Rep] at rv
    obtain ⟨a, xs, rfl, h, rs⟩ := rv
    exact .inl ⟨a, rfl, ⟨xs, h.sq⟩, q _ (gives_list h rs)⟩
  · cases e
    simp only [Rep] at rv
    obtain ⟨a, xs, rfl, h, rs⟩ := rv
    exact .inr (.inl ⟨a, rfl, ⟨xs, h.sq⟩, q _ (gives_tup h rs)⟩)
  · cases e
    exact .inr (.inr ⟨_, rep_str rv, q _ gives_str⟩)
  · cases e
theorem ji_seq {tg l : Expr} {fa : Ex} (ha : JE X l fa) : JI X tg l (iSeq fa) :=
  PI_imp (pi_seq ha) fun σ H Q ⟨ρ, F, ds, r, e, q⟩ => by
    obtain ⟨d, ed, e⟩ := bind_ok_iff.mp e
    exact ⟨ρ, F, d, r, ed, fun v H1 s1 rv => seq_gives (K := X.K) (M := mdOf X) e rv fun J g => q J H1 s1 g⟩
end
end PL
set_option Elab.async false
set_option linter.all false
set_option maxRecDepth 100000
namespace PL
open PySem PySem.Spec
open L2 (V Hp HO Cx PE PT PW PA PS PSs PG PGs VK TE TT TA TS TI TG Inv RelV Vals Rd SqL SqT upd Same Key XK Ends OpR UnR CallR R2 EP It Turn FpOk)
structure GlD (P : Program) (w : World) (K : PySem.W.Frag) (mg : Str → Option Value) (x : Str) (d : D) : Prop where
  ex : ∃ v u, mg x = some u ∧ RelV v u ∧ ∀ H F, Rep ⟨K, P, w⟩ H F d v
theorem je_globD {X : Cx} {pos : Pos} {x : Str} {d : D} (g : GlD X.prog X.w X.K X.mg x d) (hg : L2.Gl X x) (hd : (x == ("__debug__" : Str)) = false := by decide) : JE X (.Name x pos) (eC d) := by
  obtain ⟨v, u, h1, h2, h3⟩ := g.ex
  exact je_glob hg h1 h2 h3 hd
noncomputable def nst : Expr → Bool
  | .Starred .. => false
  | _ => true
theorem st1 {e : Expr} {es : List Expr} {env : Env} (h : nst e = true) : starEach (e :: es) env = (false, eval e env) :: starEach es env := by cases e <;> first | rfl | cases h
theorem st_any {pos : Pos} {env : Env} : ∀ {es : List Expr}, es.all nst = true → (backTo pos (starEach es env)).any (·.1) = false
  | [], _ => rfl
  | e :: es, h => by
    rw [List.all_cons, Bool.and_eq_true] at h
    rw [st1 h.1]
    show (false || (backTo pos (starEach es env)).any (·.1)) = false
    rw [Bool.false_or]
    exact st_any h.2
theorem st_all {pos : Pos} {env : Env} : ∀ {es : List Expr}, es.all nst = true → (backTo pos (starEach es env)).all (fun x => !x.1) = true
  | [], _ => rfl
  | e :: es, h => by
    rw [List.all_cons, Bool.and_eq_true] at h
    rw [st1 h.1]
    show (true && (backTo pos (starEach es env)).all (fun x => !x.1)) = true
    rw [Bool.true_and]
    exact st_all h.2
theorem few1 {cpos : Pos} {env : Env} {e : Expr} {es : List Expr} (h : (e :: es).all nst = true) (hl : (e :: es).length < 30) : ((backTo cpos (starEach (e :: es) env)).all (fun x => !x.1) && (backToKw cpos (keywordEach [] env)).all (fun x => x.1.isSome)
      && decide ((e :: es).length + ([] : List Keyword).length + (if ([] : List Keyword).isEmpty then 0 else 1) < 30)) = true := by
  rw [st_all h, Bool.true_and]
  show (true && decide ((e :: es).length + 0 + 0 < 30)) = true
  rw [Bool.true_and, decide_eq_true_eq]
  exact hl
noncomputable def ncm : Expr → Bool
  | .ListComp .. => false
  | .SetComp .. => false
  | .DictComp .. => false
  | _ => true
theorem sw1 {e : Expr} {t : Option Expr} {l : Nat} {env : Env} (h : ncm e = true) : swapsWith e t l env = pure false := by cases e <;> first | rfl | cases h
theorem sws1 {e tg : Expr} {l : Nat} {env : Env} (h : ncm e = true) : swapsWithSole [tg] e l env = pure false := sw1 h
noncomputable def ntp : Expr → Bool
  | .Tuple .. => false
  | _ => true
theorem sto1 {e tg : Expr} {env : Env} (h : ntp e = true) : swappedStores [tg] e env = pure none := by
  cases tg <;> first | rfl | (cases e <;> first | rfl | cases h)
noncomputable def nml : Expr → Bool
  | .Tuple .. => false
  | .List .. => false
  | _ => true
theorem sto2 {e tg : Expr} {env : Env} (h : nml tg = true) : swappedStores [tg] e env = pure none := by
  cases tg <;> first | rfl | cases h
theorem asn1 {e : Expr} {es : List Expr} {env : Env} (h : nst e = true) : (assignEach (e :: es) env).map (·.2) = assign e env :: (assignEach es env).map (·.2) := by cases e <;> first | rfl | cases h
theorem asnL {env : Env} : ∀ {es : List Expr}, (assignEach es env).length = es.length
  | [] => rfl
  | e :: es => by
    have := asnL (env := env) (es := es)
    cases e <;> (show (assignEach es env).length + 1 = _; rw [this]; rfl)
theorem asnF {env : Env} : ∀ {es : List Expr}, es.all nst = true → (assignEach es env).findIdx? (·.1) = none
  | [], _ => rfl
  | e :: es, h => by
    rw [List.all_cons, Bool.and_eq_true] at h
    have ih := asnF (env := env) h.2
    have : ∃ t, assignEach (e :: es) env = (false, t) :: assignEach es env := by
      have h1 := h.1
      cases e <;> first | exact ⟨_, rfl⟩ | cases h1
    obtain ⟨t, e1⟩ := this
    rw [e1, List.findIdx?_cons, ih]; rfl
noncomputable def nset : Expr → Bool
  | .Set .. => false
  | _ => true
theorem fold1 {e : Expr} {env : Env} (h : nset e = true) : ∀ x, foldedSetIterable e env x = pure x := by intro x; cases e <;> first | rfl | cases h
noncomputable def plainT : Expr → Bool
  | .UnaryOp .Not _ _ => false
  | .BoolOp .. => false
  | .IfExp .. => false
  | .Compare .. => false
  | _ => true
theorem tru1 {e : Expr} {env : Env} (h : plainT e = true) : ∀ whole, isTrue e env whole = (do let v ← whole; standAt e.pos; holding [v] (truthy v)) := by
  intro w
  cases e with
  | UnaryOp op _ _ => cases op <;> first | rfl | cases h
  | _ => first | rfl | cases h
theorem base1 {x : Str} {p : Pos} {a : Str} {env : Env} {w : Sem Value} : attributeBase (.Name x p) a env w = w := rfl
noncomputable def nsl : Expr → Bool
  | .Slice .. => false
  | _ => true
theorem pix1 {b : Expr} (h : nsl b = true) : L2.PlainIx b := by intro o i; cases b <;> first | rfl | cases h
theorem walk {l : PySem.W.OpenLaw} {q : Program} {loose : List Str} {XP : (Str → Option Value) → Heap → Prop} {YP : World → Heap → Prop} {d : DefRec} {K : Params → PySem.W.Frag} {k : Nat} {x : Str} {m : List D → R D} (hn : l.most = some 63) (hdf : d.params.defaults = []) (hr : L2.Room k PySem.callerA)
    (hY : ∀ (w : World) (h : Heap), YP w h → (K w.params).In h)
    (F : ∀ (w : World) (mg : Str → Option Value) (fa : Addr) (h : Heap), (K w.params).In h → h.Ns mainGlobals mg → mg d.name = some (.ref fa) →
      ∃ fd : FuncData, (∀ (s : Shared) (u : Value), BindsTo s fd ⟨[u], []⟩ [(x, u)]) ∧ ∀ base : Heap, (K w.params).In base → base.Ns mainGlobals mg → L2.FnOk l.prog w (K w.params) mg base L2.CX0 k fa fd [x] (spM ⟨K w.params, l.prog, w⟩ m 1))
    (hT : ∀ ns : List Int, ns.length ≤ 63 → m [.lst (ns.map .int)] = .ok (.bl true)) :
    PySem.W.WalkO q loose XP YP l.row.toRowW d [] (fun f vs => PySem.call f vs) :=
  L2.walk_of (n := 63) (k := k) (x := x) (CX := fun _ => L2.CX0) (sp := fun w => spM ⟨K w.params, l.prog, w⟩ m 1) hn (by decide) hdf hr hY F (fun w H a ns hl _ hS => by
    refine ⟨fun _ => False, [.lst (ns.map .int)], .bl true, fun p h => h.elim, Reps.cons ?_ Reps.nil, rfl, hT ns hl, fun v H' _ rv => rep_bl rv⟩
    have rints : ∀ (ns : List Int) (M : Md) (H : Hp), Reps M H (fun _ => False) (ns.map D.int) (ns.map V.int) := by
      intro ns M H
      induction ns with
      | nil => exact Reps.nil
      | cons n r ih => exact Reps.cons rep_int_mk ih
    simp only [Rep]
    refine ⟨a, ns.map V.int, rfl, ?_, rints ns _ H⟩
    rcases hS with h | h
    · exact .inl ⟨fun h => h, h⟩
    · exact .inr h) fun _ _ _ _ _ z => z
end PL
set_option Elab.async false
set_option linter.all false
set_option maxRecDepth 100000
namespace PL
open PySem PySem.Spec
open L2 (V Hp HO Cx PE PT PW PA PS PSs PG PGs VK TE TT TA TS TI TG Inv RelV Vals Rd SqL SqT upd Same Key XK Ends OpR UnR CallR R2 EP It Turn FpOk Un)
section
variable {prog : Program} {w : World} {A : Around} {R : Result → Shared → Prop} {s : Shared}
theorem compLoop_all {elt target iter : Expr} {ifs : List Expr} {scope : Scope} {pos : Pos} {it acc : Value} {env : Env} (I : Nat → Shared → Prop)
    (turn : ∀ n s, I n s → wpAny (model prog w) A (pyNext it) (fun r s₁ => match r with
      | none => R (.ok .next) s₁
      | some v => wpAny (model prog w) A (letOwnedTupleGo target it v) (fun _ s₁' => wpAny (model prog w) A (assign target env v) (fun _ s₂ =>
          wpAny (model prog w) A (forIn ifs true fun c r => if r = true then do let ok ← isTrue c env (eval c env); pure (ForInStep.yield ok) else pure (ForInStep.yield r)) (fun ok s₃ =>
            if ok = true then wpAny (model prog w) A (eval elt env) (fun x s₄ =>
              wpAny (model prog w) A (call (.builtin "list.append") [acc, x]) (fun _ s₅ => ∃ m, m < n ∧ I m s₅) (notedBy (model prog w) A env fun e s' => R (.error e) s') s₄) (notedBy (model prog w) A env fun e s' => R (.error e) s') s₃
            else ∃ m, m < n ∧ I m s₃) (notedBy (model prog w) A env fun e s' => R (.error e) s') s₂) (notedBy (model prog w) A env fun e s' => R (.error e) s') s₁') (notedBy (model prog w) A env fun e s' => R (.error e) s') s₁) (notedBy (model prog w) A env fun e s' => R (.error e) s') s)
    (n : Nat) (h : I n s) : codeAny (model prog w) A (.compLoop (.ListComp elt [⟨target, iter, ifs, 0⟩] scope pos) 0 it acc env) R s := by
  refine codeAny_loop rfl I (fun n s hI => ?_) n h
  show wpAny _ A ((compTurn (.ListComp elt [⟨target, iter, ifs, 0⟩] scope pos) 0 it acc env).onRaise (fun x => do noteFrame x env; theTreesLotGoes x)) _ _ s
  refine wpAny_noted ?_
  rw [compTurn_list]
  refine wpAny_bind (wpAny_standAt (wpAny_bind (wpAny_mono (turn n s hI) (fun r s₁ h₁ => ?_) fun _ _ h' => h')))
  cases r with
  | none => exact wpAny_pure h₁
  | some v =>
    refine wpAny_bind (wpAny_mono h₁ (fun _ s₁' h₁' => ?_) fun _ _ h' => h')
    refine wpAny_bind (wpAny_mono h₁' (fun _ s₂ h₂ => wpAny_bind (wpAny_mono h₂ (fun ok s₃ h₃ => ?_) fun _ _ h' => h')) fun _ _ h' => h')
    cases ok with
    | false => exact wpAny_pure ⟨rfl, h₃⟩
    | true =>
      exact wpAny_bind (wpAny_bind (wpAny_mono h₃ (fun x s₄ h₄ => wpAny_bind (wpAny_mono h₄ (fun _ s₅ h₅ => wpAny_pure (wpAny_pure ⟨rfl, h₅⟩)) fun _ _ h' => h')) fun _ _ h' => h'))
end
noncomputable def cxC (X : Cx) (scope : Scope) (cl : List (Str × Addr)) (C : Addr) (N : List Str) (s : Shared) (H : Hp) (fp : List Addr) : Cx where
  prog := X.prog
  w := X.w
  K := X.K
  mg := X.mg
  base := X.base
  A := X.A
  N := N
  s₀ := s
  H₀ := H
  env := compEnvC scope cl C X.env
  outer := X.stack
  stack := X.stack
  ex := fp
  fn := fun _ => false
  calm := X.calm
  pn := []
  xe := X.xe
noncomputable abbrev JCs (X : Cx) (ifs : List Expr) (cs : List Tst) : Prop := Paired (fun e c => JT X e c) ifs cs
theorem tests_of {X : Cx} {M : Md} (hM : M = mdOf X) {pins : List (Addr × Obj)} {σ : L2.St} {ρ : En} {F : Addr → Prop} {E : Value → Shared → Prop} (hE : ∀ e s, X.xe e s → E e s) :
    ∀ {ifs : List Expr} {cs : List Tst}, JCs X ifs cs → ∀ {s : Shared} {H : Hp} {t : Bool} {Q : Bool → Hp → Prop}, Inv X pins σ H s → RepS M H F σ ρ → compL.allT cs ρ = .ok t → (∀ H', Same H H' → Q t H') →
      wpAny (model X.prog X.w) X.A (forIn ifs true fun c r => if r = true then do let ok ← isTrue c X.env (eval c X.env); pure (ForInStep.yield ok) else pure (ForInStep.yield r)) (fun ok s' => ∃ H', Inv X pins σ H' s' ∧ Q ok H') E s
  | [], _, .nil, s, H, t, Q, I, r, e, q => by
    cases e
    exact wpAny_tests_nil ⟨H, I, q H (Same.refl H)⟩
  | c :: ifs, _, .cons h hs, s, H, t, Q, I, r, e, q => by
    unfold compL.allT at e
    obtain ⟨b, eb, e⟩ := bind_ok_iff.mp e
    rw [List.forIn_cons]
    simp only [if_true]
    refine wpAny_bind (wpAny_bind (wpAny_mono (h pins s σ H (fun b' H' => b' = b ∧ Same H H') I ⟨ρ, F, b, hM ▸ r, eb, fun H' s' => ⟨rfl, s'⟩⟩) (fun b' s1 h1 => wpAny_pure ?_) hE))
    obtain ⟨H1, I1, rfl, s1'⟩ := h1
    dsimp only
    cases b' with
    | true =>
      rw [if_pos rfl] at e
      exact tests_of hM hE hs I1 (r.same s1') e fun H2 s2 => q H2 (s1'.trans s2)
    | false =>
      rw [if_neg (by decide)] at e
      cases e
      have pass : ∀ (l : List Expr) (s : Shared), (∃ H', Inv X pins σ H' s ∧ Q false H') → wpAny (model X.prog X.w) X.A (forIn l false fun c r => if r = true then do let ok ← isTrue c X.env (eval c X.env); pure (ForInStep.yield ok) else pure (ForInStep.yield r)) (fun ok s' => ∃ H', Inv X pins σ H' s' ∧ Q ok H') E s := by
        intro l
        induction l with
        | nil => intro s h; exact wpAny_pure h
        | cons a l ih =>
          intro s h
          rw [List.forIn_cons]
          exact wpAny_bind (wpAny_pure (ih s h))
      exact pass ifs _ ⟨H1, I1, q H1 s1'⟩
theorem clos_go {env : Env} : ∀ (names : List (Str × NameKind)) (cs : List (Str × Addr)), (∀ y ∈ names, y.2 = .free → ∃ c, env.cells.lookup y.1 = some c) → (∀ x c, cs.lookup x = some c → env.cells.lookup x = some c) →
    ∃ cl, (forIn names cs fun (x : Str × NameKind) r => (if (x.2 == .free) = true then do let c ← cellOf env x.1; pure (ForInStep.yield ((x.1, c) :: r)) else pure (ForInStep.yield r) : Sem (ForInStep (List (Str × Addr))))) = (pure cl : Sem _) ∧
      (∀ x c, cl.lookup x = some c → env.cells.lookup x = some c) ∧ (∀ x, (∃ c, cs.lookup x = some c) ∨ (x, NameKind.free) ∈ names → ∃ c, cl.lookup x = some c)
  | [], cs, _, hc => ⟨cs, rfl, hc, fun x h => h.elim (fun h => h) fun h => nomatch h⟩
  | (n, k) :: names, cs, hn, hc => by
    rw [List.forIn_cons]
    by_cases hk : k = .free
    · subst hk
      obtain ⟨c, ec⟩ := hn _ List.mem_cons_self rfl
      obtain ⟨cl, e, h1, h2⟩ := clos_go names ((n, c) :: cs) (fun y hy => hn y (List.mem_cons_of_mem _ hy)) (fun x d h => by
        rw [List.lookup_cons] at h
        cases hx : x == n with
        | true => rw [hx] at h; cases h; rw [beq_iff_eq.mp hx]; exact ec
        | false => rw [hx] at h; exact hc x d h)
      refine ⟨cl, ?_, h1, fun x h => h2 x ?_⟩
      · have : cellOf env n = pure c := by unfold cellOf; rw [show List.lookup n env.cells = some c from ec]
        simp only [beq_self_eq_true, if_true, this]
        exact e
      · rcases h with ⟨d, h⟩ | h
        · left
          rw [List.lookup_cons]
          cases x == n with
          | true => exact ⟨c, rfl⟩
          | false => exact ⟨d, h⟩
        · rcases List.mem_cons.mp h with h | h
          · cases h
            left
            rw [List.lookup_cons, beq_self_eq_true]
            exact ⟨c, rfl⟩
          · exact .inr h
    · obtain ⟨cl, e, h1, h2⟩ := clos_go names cs (fun y hy => hn y (List.mem_cons_of_mem _ hy)) hc
      refine ⟨cl, ?_, h1, fun x h => h2 x (h.imp (fun h => h) fun h => ?_)⟩
      · have : (k == NameKind.free) = false := by cases k <;> first | rfl | exact absurd rfl hk
        simp only [this, Bool.false_eq_true, if_false]
        exact e
      · rcases List.mem_cons.mp h with h | h
        · cases h; exact absurd rfl hk
        · exact h
theorem clos_of {scope : Scope} {env : Env} (hn : ∀ y ∈ scope.names, y.2 = .free → ∃ c, env.cells.lookup y.1 = some c) :
    ∃ cl, closureFor scope env = pure cl ∧ (∀ x c, cl.lookup x = some c → env.cells.lookup x = some c) ∧ ∀ x, (x, NameKind.free) ∈ scope.names → ∃ c, cl.lookup x = some c := by
  obtain ⟨cl, e, h1, h2⟩ := clos_go scope.names [] hn (fun x c h => nomatch h)
  refine ⟨cl, ?_, h1, fun x h => h2 x (.inr h)⟩
  unfold closureFor
  have : ∀ (l : List (Str × NameKind)) (cs : List (Str × Addr)), (forIn l cs fun (x : Str × NameKind) (r : List (Str × Addr)) => (match x with | (name, kind) => do
      if (kind == .free) = true then
        let c ← cellOf env name
        pure (ForInStep.yield ((name, c) :: r))
      else pure (ForInStep.yield r) : Sem (ForInStep (List (Str × Addr))))) = forIn l cs fun (x : Str × NameKind) r => (if (x.2 == .free) = true then do let c ← cellOf env x.1; pure (ForInStep.yield ((x.1, c) :: r)) else pure (ForInStep.yield r) : Sem (ForInStep (List (Str × Addr)))) := fun _ _ => rfl
  show (forIn scope.names [] _ >>= fun r => pure r) = _
  first
    | (rw [show (forIn scope.names ([] : List (Str × Addr)) _ : Sem (List (Str × Addr))) = pure cl from e]; rfl)
    | (erw [e]; rfl)
end PL
set_option Elab.async false
set_option linter.all false
set_option maxRecDepth 100000
set_option maxHeartbeats 1000000
namespace PL
open PySem PySem.Spec
open L2 (V Hp HO Cx PE PT PW PA PS PSs PG PGs VK TE TT TA TS TI TG Inv RelV Vals Rd SqL SqT upd Same Key XK Ends OpR UnR CallR R2 EP It Turn FpOk Un)
section
variable {X : Cx} {M : Md} {G H H' : Hp} {F0 F F' : Addr → Prop} {σ : L2.St} {ρ : En} {pos : Pos}
noncomputable def Low (n : Nat) (tg : Tgt) : Prop := ∀ d ρ ρ', tg d ρ = .ok ρ' → ρ'.length = ρ.length ∧ ∀ j : Nat, n ≤ j → ρ'[j]? = ρ[j]?
theorem low_name {n i : Nat} (h : i < n) : Low n (gName i) := fun d ρ ρ' e => by
  cases e
  exact ⟨by simp, fun j hj => List.getElem?_set_ne (by omega)⟩
theorem low_names {n : Nat} : ∀ {is : List Nat} {ds : List D} {ρ ρ' : En}, is.all (· < n) = true → gNames is ds ρ = .ok ρ' → ρ'.length = ρ.length ∧ ∀ j : Nat, n ≤ j → ρ'[j]? = ρ[j]?
  | [], [], _, _, _, e => by cases e; exact ⟨rfl, fun _ _ => rfl⟩
  | i :: is, d :: ds, ρ, ρ', h, e => by
    rw [List.all_cons, Bool.and_eq_true, decide_eq_true_eq] at h
    simp only [gNames] at e
    obtain ⟨h1, h2⟩ := low_names h.2 e
    exact ⟨by rw [h1]; simp, fun j hj => by rw [h2 j hj]; exact List.getElem?_set_ne (by omega)⟩
  | [], _ :: _, _, _, _, e => by cases e
  | _ :: _, [], _, _, _, e => by cases e
theorem low_tup {n : Nat} {is : List Nat} (h : is.all (· < n) = true) : Low n (gTup is) := fun d ρ ρ' e => by
  unfold gTup at e
  split at e
  · exact low_names h e
  · cases e
theorem RepS.less {ρ' : En} (r : RepS M H F σ ρ) (hl : ρ'.length = ρ.length) (h : ∀ (j : Nat) s, ρ'[j]? = some s → s = .un ∨ ((∃ d, s = .sh d) ∧ ρ[j]? = some s)) : RepS M H F σ ρ' where
  len := by rw [hl, r.len]
  trk := r.trk
  sh i d e := by
    rcases h i _ e with z | ⟨_, z⟩
    · cases z
    · exact r.sh i d z
  ol i d e := by
    rcases h i _ e with z | ⟨⟨_, z⟩, _⟩ <;> cases z
  od i k d e := by
    rcases h i _ e with z | ⟨⟨_, z⟩, _⟩ <;> cases z
  dis i j a oi := by
    rcases oi with ⟨_, e⟩ | ⟨_, _, e⟩
    · rcases h i _ e with z | ⟨⟨_, z⟩, _⟩ <;> cases z
    · rcases h i _ e with z | ⟨⟨_, z⟩, _⟩ <;> cases z
  on := .no fun i xss e => by rcases h i _ e with z | ⟨⟨_, z⟩, _⟩ <;> cases z
theorem no_own {ρ : En} (h : ∀ (j : Nat) s, ρ[j]? = some s → s = .un ∨ ∃ d, s = .sh d) {i : Nat} (o : Owned ρ i) : False := by
  rcases o with ⟨_, e⟩ | ⟨_, _, e⟩
  · rcases h i _ e with z | ⟨_, z⟩ <;> cases z
  · rcases h i _ e with z | ⟨_, z⟩ <;> cases z
noncomputable def ent (n : Nat) (ρ : En) (fv : List Nat) : En := List.replicate n .un ++ frees ρ fv
theorem ent_get {n : Nat} {fv : List Nat} {j : Nat} {s : Slot} (h : (ent n ρ fv)[j]? = some s) : s = .un ∨ ((∃ d, s = .sh d) ∧ n ≤ j ∧ ∃ i, fv[j - n]? = some i ∧ ρ[i]? = some s) := by
  unfold ent at h
  rw [List.getElem?_append, List.length_replicate] at h
  split at h
  · rename_i hn
    rw [List.getElem?_replicate, if_pos hn] at h
    cases h
    exact .inl rfl
  · rename_i hn
    unfold frees at h
    rw [List.getElem?_map] at h
    cases e : fv[j - n]? with
    | none => rw [e] at h; cases h
    | some i =>
      rw [e] at h
      have hs : shOnly ρ[i]? = s := by simpa using h
      subst hs
      cases hρ : ρ[i]? with
      | none => exact .inl rfl
      | some z =>
        cases z with
        | sh d => exact .inr ⟨⟨d, rfl⟩, by omega, i, rfl, hρ⟩
        | _ => exact .inl rfl
noncomputable def stC (n : Nat) (σ : L2.St) (fv : List Nat) : L2.St := List.replicate n none ++ fv.map fun i => (σ[i]?).getD none
theorem ent_rep {n : Nat} {fv : List Nat} (r : RepS M H F σ ρ) : RepS M H F (stC n σ fv) (ent n ρ fv) where
  len := by unfold stC ent frees; simp
  trk := r.trk
  sh j d e := by
    rcases ent_get e with z | ⟨_, hn, i, hi, z⟩
    · cases z
    · obtain ⟨v, ev, rv⟩ := r.sh i d z
      refine ⟨v, ?_, rv⟩
      unfold stC
      rw [List.getElem?_append_right (by simpa using hn), List.length_replicate, List.getElem?_map, hi]
      simp [ev]
  ol j d e := by rcases ent_get e with z | ⟨⟨_, z⟩, _⟩ <;> cases z
  od j k d e := by rcases ent_get e with z | ⟨⟨_, z⟩, _⟩ <;> cases z
  dis j k a oj := by
    exact (no_own (fun j s e => (ent_get e).imp (fun h => h) fun h => h.1) oj).elim
  on := .no fun j xss e => by rcases ent_get e with z | ⟨⟨_, z⟩, _⟩ <;> cases z
theorem relabel_get {scope : Scope} {env : Env} : ∀ {names : List (Str × NameKind)} {x : Str} {k : NameKind}, (names.map fun (n, k) => if (k == NameKind.free && env.scope.kind == .function && env.kindOf n == some .cell) then (n, NameKind.cell) else (n, k)).lookup x = some k →
    (k = .cell ∨ k = .free) → (∀ y ∈ names, y.2 ≠ .cell) → (x, NameKind.free) ∈ names
  | [], _, _, h, _, _ => by simp at h
  | (n, q) :: r, x, k, h, hk, hc => by
    have ih := @relabel_get scope env r x k
    have hcr : ∀ y ∈ r, y.2 ≠ .cell := fun y hy => hc y (List.mem_cons_of_mem _ hy)
    have hq : q ≠ .cell := hc _ List.mem_cons_self
    have h' : List.lookup x ((if (q == NameKind.free && env.scope.kind == .function && env.kindOf n == some .cell) = true then (n, NameKind.cell) else (n, q)) :: r.map fun (n, k) => if (k == NameKind.free && env.scope.kind == .function && env.kindOf n == some .cell) then (n, NameKind.cell) else (n, k)) = some k := h
    cases hx : x == n with
    | true =>
      have := beq_iff_eq.mp hx
      subst this
      by_cases hcnd : (q == NameKind.free && env.scope.kind == .function && env.kindOf x == some .cell) = true
      · have : q = .free := by
          rw [Bool.and_eq_true, Bool.and_eq_true] at hcnd
          have := hcnd.1.1
          cases q <;> first | rfl | cases this
        subst this
        exact List.mem_cons_self
      · rw [if_neg hcnd, List.lookup_cons, beq_self_eq_true] at h'
        cases h'
        rcases hk with rfl | rfl
        · exact absurd rfl hq
        · exact List.mem_cons_self
    | false =>
      refine List.mem_cons_of_mem _ (ih ?_ hk hcr)
      by_cases hcnd : (q == NameKind.free && env.scope.kind == .function && env.kindOf n == some .cell) = true
      · rw [if_pos hcnd, List.lookup_cons, hx] at h'; exact h'
      · rw [if_neg hcnd, List.lookup_cons, hx] at h'; exact h'
theorem relabel_free {env : Env} : ∀ {names : List (Str × NameKind)} {x : Str}, names.lookup x = some .free → (names.map fun (n, k) => if (k == NameKind.free && env.scope.kind == .function && env.kindOf n == some .cell) then (n, NameKind.cell) else (n, k)).lookup x = some .cell ∨
    (names.map fun (n, k) => if (k == NameKind.free && env.scope.kind == .function && env.kindOf n == some .cell) then (n, NameKind.cell) else (n, k)).lookup x = some .free
  | [], _, h => by simp at h
  | (n, q) :: r, x, h => by
    show List.lookup x ((if (q == NameKind.free && env.scope.kind == .function && env.kindOf n == some .cell) = true then (n, NameKind.cell) else (n, q)) :: r.map fun (n, k) => if (k == NameKind.free && env.scope.kind == .function && env.kindOf n == some .cell) then (n, NameKind.cell) else (n, k)) = _ ∨
      List.lookup x ((if (q == NameKind.free && env.scope.kind == .function && env.kindOf n == some .cell) = true then (n, NameKind.cell) else (n, q)) :: r.map fun (n, k) => if (k == NameKind.free && env.scope.kind == .function && env.kindOf n == some .cell) then (n, NameKind.cell) else (n, k)) = _
    rw [List.lookup_cons] at h
    by_cases hcnd : (q == NameKind.free && env.scope.kind == .function && env.kindOf n == some .cell) = true
    · rw [if_pos hcnd, List.lookup_cons]
      cases hx : x == n with
      | true => exact .inl rfl
      | false => rw [hx] at h; exact relabel_free h
    · rw [if_neg hcnd, List.lookup_cons]
      cases hx : x == n with
      | true => rw [hx] at h; exact .inr h
      | false => rw [hx] at h; exact relabel_free h
structure CompOk (X : Cx) (scope : Scope) (tn fv : List Str) (fvi : List Nat) : Prop where
  kind : scope.kind = .function
  nocell : ∀ y ∈ scope.names, y.2 ≠ .cell
  names : ∀ y ∈ scope.names, y.2 = .local → scope.names.lookup y.1 = some .local
  free : ∀ y ∈ scope.names, y.2 = .free → X.env.scope.names.lookup y.1 = some .cell
  frl : ∀ y ∈ scope.names, y.2 = .free → scope.names.lookup y.1 = some .free
  fvs : ∀ (j : Nat) i, fvi[j]? = some i → ∃ x, fv[j]? = some x ∧ X.N[i]? = some x ∧ (x, NameKind.free) ∈ scope.names
  len : fv.length = fvi.length
theorem comp_core (tn fv : List Str) (fvi : List Nat) {elt iter target : Expr} {ifs : List Expr} {scope : Scope} {it : Itr} {tg : Tgt} {cs : List Tst} {el : Ex} (hxe : ∀ e s, ¬ X.xe e s) (hc : X.calm = true) (ok : CompOk X scope tn fv fvi) (hi : JI X target iter it) (low : Low tn.length tg)
    (ht : ∀ cl C s H fp, JG (cxC X scope cl C (tn ++ fv) s H fp) target tg) (hcs : ∀ cl C s H fp, JCs (cxC X scope cl C (tn ++ fv) s H fp) ifs cs) (hel : ∀ cl C s H fp, JE (cxC X scope cl C (tn ++ fv) s H fp) elt el)
    (hs : ∀ x, foldedSetIterable iter X.env x = pure x) {use : Option (Value → Sem Unit)} {Qc : Value → Shared → Prop} {pins : List (Addr × Obj)} {s : Shared} {all : List D} {p1 : Pos} (I : Inv X pins σ H s) (hr : RepS (mdOf X) H F σ ρ) (e : eComp it tn.length fvi tg cs el ρ = .ok (.lst all))
    (hend : ∀ D C s4 H' vs Hq f, (∃ m, s4.heap.Ns C m) → Inv X pins σ H' s4 → FpOk X pins H' C → Same H Hq → Hq D = none → Reps (mdOf X) Hq F all vs → upd Hq D (.lst vs) = H' → compPost (model X.prog X.w) X.A X.xe use Qc (.ref D) C (.ok f) s4) :
    wpAny (model X.prog X.w) X.A (comprehension (.ListComp elt [⟨target, iter, ifs, 0⟩] scope pos) scope X.env p1 (newList []) false (eval iter X.env) use) Qc X.xe s := by
  obtain ⟨ds, ed, e⟩ := bind_ok_iff.mp e
  have hlen : ds.length ≤ sizeLine := by
    by_cases h : ds.length ≤ szL
    · exact h
    · rw [if_neg h] at e; cases e
  rw [if_pos (show ds.length ≤ szL from hlen)] at e
  obtain ⟨ys, ey, e⟩ := bind_ok_iff.mp e
  have ey : compL tg cs el (ent tn.length ρ fvi) ds = .ok ys := ey
  cases e
  obtain ⟨cl, hclos, hsub, hhas⟩ := clos_of (scope := scope) (env := X.env) (fun y hy hf => I.ok.has y.1 (.inl (ok.free y hy hf)))
  refine wpAny_comprehension_free (gs := []) rfl hs hclos ok.kind ok.names ?_
  refine L2.thn (hi pins s σ H _ I ⟨ρ, F, ds, hr, ed, fun J H' sm gv => (⟨sm, gv⟩ : Same H H' ∧ Gives (mdOf X) J H' F ds)⟩) fun v s1 h1 => L2.thn h1 fun itv s2 h2 => ?_
  obtain ⟨ita, fp, tn', J, H2, rfl, I2, T, st2, f2, sm2, gv⟩ := h2
  have r2 := hr.same sm2
  refine wpAny_newObj_type (wpAny_newFunctionEnv ok.nocell (by intro y hy; simp at hy) (fun h₁ hns₁ hsb₁ => ?_) ok.kind)
  dsimp only at hns₁ hsb₁ ⊢
  generalize hD : s2.heap.objs.size = D at hns₁ hsb₁ ⊢
  generalize hP : s2.heap.push { cls := .type "list", dict := none, data := .seq ([] : List Value).toArray } = HP at hns₁ hsb₁ ⊢
  have hC : HP.objs.size = D + 1 := by rw [← hP, Heap.size_push, hD]
  generalize hCC : HP.objs.size = C at hns₁ hsb₁ hC ⊢
  have lt2 : ∀ b, b < s2.heap.objs.size → b ≠ C ∧ b ≠ D := fun b hb => by rw [hD] at hb; exact ⟨by omega, by omega⟩
  have old : ∀ b o, s2.heap.get? b = some o → h₁.get? b = some o := fun b o e => hsb₁.extBut b o (lt2 b (Heap.lt_size e)).1 (Heap.get?_push_of_some _ (hP ▸ Heap.get?_push_of_some _ e))
  have hDC : D ≠ C := by omega
  have hacc : h₁.get? D = some { cls := .type "list", data := .seq ([] : List Value).toArray } := hsb₁.extBut _ _ hDC (Heap.get?_push_of_some _ (hP ▸ (by rw [← hD]; exact Heap.get?_push_size _ rfl)))
  have nD : H2 D = none := I2.hok.fresh (Nat.le_of_eq hD)
  have nC : H2 C = none := I2.hok.fresh (by omega)
  have sub1 : Same H2 (upd H2 D (.lst [])) := Same.upd_new nD _
  let X' : Cx := cxC X scope cl C (tn ++ fv) s2 H2 fp
  have e1 : newEnv scope C X.env.globals cl X.env.qual none Value.none (some X.env) X.env.builtins = newEnv scope C X.env.globals cl X.env.qual none Value.none (some X.env) X.env.builtins := rfl
  have okX : X'.Ok := by
    have hmod := I2.ok.mod
    refine ⟨hmod, ok.kind, I2.ok.glob, I2.ok.blt, (show s2.heap.objs.size ≤ C by rw [hD]; omega), fun x y c hx hy => I2.ok.inj x y c (hsub x c hx) (hsub y c hy), fun x hx => ?_, fun x c hf => (nomatch hf), fun h => I2.ok.hd h, I2.ok.frames, .inl rfl, fun b hb => ?_, fun b o hb => I2.bs b o hb, Nat.le_trans I2.ok.bsz I2.sz, fun b o hb hx => ?_, fun b hb hf => ?_, I2.stack, I2.stkFree⟩
    · have hx' : (relabel scope X.env).names.lookup x = some .cell ∨ (relabel scope X.env).names.lookup x = some .free := hx
      refine hhas x ?_
      rcases hx' with h | h
      · exact relabel_get (scope := scope) h (.inl rfl) ok.nocell
      · exact relabel_get (scope := scope) h (.inr rfl) ok.nocell
    · obtain ⟨o, ho, _⟩ := T.obj _ _ st2 b hb
      exact ⟨(lt2 b (Heap.lt_size ho)).1, fun x c hx => (f2 b hb).2.2.2.2.1 x c (hsub x c hx)⟩
    · obtain ⟨_, _, _, h4, _⟩ := f2 b hx
      rcases h4 with h4 | h4
      · exact I2.ok.noex b o hb h4
      · exact absurd (Nat.lt_of_lt_of_le (Heap.lt_size hb) (Nat.le_trans I2.ok.bsz h4)) (Nat.lt_irrefl _)
    · obtain ⟨_, h1, h2, _⟩ := f2 b hb
      exact (List.mem_cons.mp (I2.stkSub b hf)).elim h1 h2
  have fpX : ∀ {H' : Hp}, (∀ b ∈ fp, H' b = none) → ∀ b ∈ fp, FpOk X' [] H' b := fun hn b hb => by
    obtain ⟨o, ho, _⟩ := T.obj _ _ st2 b hb
    refine ⟨hn b hb, (lt2 b (Heap.lt_size ho)).1, fun hf => ?_, .inl hb, fun x c hx => (f2 b hb).2.2.2.2.1 x c (hsub x c hx), fun p hp => nomatch hp⟩
    obtain ⟨_, h1, h2, _⟩ := f2 b hb
    exact (List.mem_cons.mp (I2.stkSub b hf)).elim h1 h2
  have I3 : Inv X' [] (stC tn.length σ fvi) (upd H2 D (.lst [])) { s2 with heap := h₁, toks := s2.toks + ([] : List (Str × Value)).length } := by
    refine ⟨okX, rfl, I2.bare, Un.laid old (Nat.le_of_eq hD) nD, ⟨_, hns₁, fun i x v hx hv vis => ?_⟩, fun x c hx => ?_, ?_, fun x c hx => ?_, fun p hp => (nomatch hp), I2.hok.laid old (Nat.le_of_eq hD) ⟨Nat.zero_le _, [], 0, .nil, hacc⟩, ?_⟩
    · have hx : (tn ++ fv)[i]? = some x := hx
      by_cases hn : i < tn.length
      · unfold stC at hv
        rw [List.getElem?_append_left (by simpa using hn), List.getElem?_replicate, if_pos hn] at hv
        cases hv
      · have hn' : tn.length ≤ i := by omega
        rw [List.getElem?_append_right hn'] at hx
        unfold stC at hv
        rw [List.getElem?_append_right (by simpa using hn'), List.length_replicate, List.getElem?_map] at hv
        cases ei : fvi[i - tn.length]? with
        | none => rw [ei] at hv; cases hv
        | some k =>
          rw [ei] at hv
          obtain ⟨x', hx', hN, hf⟩ := ok.fvs _ _ ei
          rw [hx] at hx'
          cases hx'
          have hv' : σ[k]? = some (some v) := by
            have hv2 : (σ[k]?).getD none = some v := by simpa using hv
            cases ek : σ[k]? with
            | none => rw [ek] at hv2; cases hv2
            | some z => rw [ek] at hv2; exact congrArg some hv2
          obtain ⟨m, hm, hl⟩ := I2.loc
          have hcell : X.env.scope.names.lookup x = some .cell := ok.free _ hf rfl
          obtain ⟨u, ru, lk⟩ := hl k x v hN hv' (.inr (.inl hcell))
          refine ⟨u, ru, .inr ⟨?_, ?_⟩⟩
          · exact relabel_free (env := X.env) (ok.frl _ hf rfl)
          · rcases lk with ⟨h1, _⟩ | ⟨_, c, hcc, cc⟩
            · rw [show X.env.kindOf x = X.env.scope.names.lookup x from rfl, hcell] at h1; cases h1
            · obtain ⟨c', hc'⟩ := hhas x hf
              have := hsub x c' hc'
              rw [hcc] at this
              cases this
              exact ⟨c, hc', cc.keeps old⟩
    · obtain ⟨v, cc⟩ := I2.cell x c (hsub x c hx)
      exact ⟨v, cc.keeps old⟩
    · show upd H2 D (.lst []) C = none
      rw [L2.upd_ne (Ne.symm hDC)]; exact nC
    · have h0 := I2.freeC x c (hsub x c hx)
      show upd H2 D (.lst []) c = none
      obtain ⟨v, cc⟩ := I2.cell x c (hsub x c hx)
      rw [L2.upd_ne (lt2 c cc.lt).2]; exact h0
    · show (stC tn.length σ fvi).length = (tn ++ fv).length
      unfold stC; simp [ok.len]
  have hM : mdOf X' = mdOf X := rfl
  let F' : Addr → Prop := fun b => F b ∨ b = D
  have ent_un : ∀ (j : Nat) z, (ent tn.length ρ fvi)[j]? = some z → z = .un ∨ ∃ d, z = .sh d := fun j z h => (ent_get h).imp (fun h => h) fun h => h.1
  have ent_on : ∀ (j : Nat) xss, (ent tn.length ρ fvi)[j]? ≠ some (.on xss) := fun j xss e => by rcases ent_un j _ e with z | ⟨_, z⟩ <;> cases z
  have mvD : ∀ {H'' : Hp}, Same H2 H'' → Mv F H2 F' H'' := fun sm b o n e => ⟨fun h => h.elim n (fun z => by subst z; rw [nD] at e; cases e), sm b o e⟩
  have r3 : RepS (mdOf X) (upd H2 D (.lst [])) F' (stC tn.length σ fvi) (ent tn.length ρ fvi) := by
    have r0 := (ent_rep (n := tn.length) (fv := fvi) r2)
    exact ⟨r0.len, fun b f => by
        by_cases hb : b = D
        · subst hb; exact ⟨_, L2.upd_same⟩
        · obtain ⟨o, ho⟩ := r0.trk b (f.resolve_right hb)
          exact ⟨o, sub1 _ _ ho⟩, fun i d e => let ⟨v, h1, h2⟩ := r0.sh i d e; ⟨v, h1, h2.mv (mvD sub1)⟩, fun i d e => (no_own ent_un (.inl ⟨_, e⟩)).elim, fun i k d e => (no_own ent_un (.inr ⟨_, _, e⟩)).elim, fun i j a o => (no_own ent_un o).elim, .no ent_on⟩
  let R0 : Result → Shared → Prop := compPost (model X.prog X.w) X.A X.xe use Qc (.ref D) C
  have loop : codeAny (model X.prog X.w) X.A (.compLoop (.ListComp elt [⟨target, iter, ifs, 0⟩] scope pos) 0 (.ref ita) (.ref D) X'.env) R0 { s2 with heap := h₁, toks := s2.toks + ([] : List (Str × Value)).length } := by
    refine compLoop_all (fun n s' => ∃ i σ' H' vs as, n = ds.length - i ∧ i ≤ ds.length ∧ Inv X' [] σ' H' s' ∧ tn' i s'.heap ∧ (∀ b ∈ fp, H' b = none) ∧ Same H2 H' ∧ H' D = some (.lst vs) ∧ vs.length ≤ i ∧ Reps (mdOf X) H' F' as vs ∧
        RepS (mdOf X) H' F' σ' (ent tn.length ρ fvi) ∧ ∃ rest, compL tg cs el (ent tn.length ρ fvi) (ds.drop i) = .ok rest ∧ as ++ rest = all) ?_ ds.length
      ⟨0, _, _, [], [], rfl, Nat.zero_le _, I3, T.keep _ _ _ st2 fun b _ o e => old b o e, fun b hb => ?_, sub1, L2.upd_same, Nat.zero_le _, Reps.nil, r3, all, ey, rfl⟩
    · rintro n s' ⟨i, σ', H', vs, as, rfl, hi', I', st', fr', sm', eD, hvs, ras, rS, rest, erest, eall⟩
      obtain ⟨g1, g2⟩ := gv H' F' (mvD sm') rS.trk
      by_cases hlt : i < ds.length
      · obtain ⟨go, gy⟩ := g1 i ds[i] (by simp [hlt])
        refine L2.thn (T.item X' rfl rfl rfl hc i [] s' σ' H' _ I' (fpX fr') st' go) fun r s4 ⟨u, hr', h4⟩ => ?_
        subst hr'
        refine L2.thn h4 fun _ s5 ⟨x, H5, I5, r5, y5, st5, fr5⟩ => ?_
        obtain ⟨s5', rx⟩ := gy x H5 y5
        rw [List.drop_eq_getElem_cons hlt] at erest
        unfold compL at erest
        obtain ⟨ρ1, eg, erest⟩ := bind_ok_iff.mp erest
        obtain ⟨t, et, erest⟩ := bind_ok_iff.mp erest
        have rS5 := rS.same s5'
        have rG : RepG (mdOf X) H2 (fun _ => False) H5 F' σ' (ent tn.length ρ fvi) := ⟨rS5, sm'.trans s5', fun _ h => h.elim, fun _ h => h.elim, fun j a o => (no_own ent_un o).elim, fun j xss _ e => absurd e (ent_on j xss)⟩
        have I5' : Inv X' ([] ++ L2.pinsAt fp s5.heap) σ' H5 s5 := I5.pinned (fpX fr5) (T.obj _ _ st5)
        refine wpAny_mono (ht cl C s2 H2 fp (fun _ => False) _ s5 σ' H5 x u (fun σ6 H6 => H6 = H5 ∧ RepG (mdOf X) H2 (fun _ => False) H5 F' σ6 ρ1) I5' r5 ⟨ent tn.length ρ fvi, F', ds[i], ρ1, rG, rx, eg, fun σ6 r6 => ⟨rfl, r6⟩⟩) (fun _ s6 ⟨σ6, H6, I6, h6, r6⟩ => ?_) (fun e s f => (hxe e s f).elim)
        subst h6
        refine wpAny_mono (tests_of (X := X') (M := mdOf X) (E := X.xe) rfl (fun _ _ h => h) (hcs cl C s2 H2 fp) (Q := fun b H7 => b = t ∧ Same H6 H7) I6 r6.rs et (fun H7 s7 => ⟨rfl, s7⟩)) (fun b s7 ⟨H7, I7, hb, s7'⟩ => ?_) (fun e s f => (hxe e s f).elim)
        subst hb
        have sm7 : Same H2 H7 := (sm'.trans s5').trans s7'
        have D7 : H7 D = some (.lst vs) := s7' _ _ (s5' _ _ eD)
        have lowr := low _ _ _ eg
        have back : ∀ {H'' : Hp}, RepS (mdOf X) H'' F' σ6 ρ1 → RepS (mdOf X) H'' F' σ6 (ent tn.length ρ fvi) := fun r => r.less lowr.1.symm fun j z hz => by
          rcases ent_get hz with h | ⟨h, hn, _⟩
          · exact .inl h
          · exact .inr ⟨h, by rw [lowr.2 j hn]; exact hz⟩
        have again : ∀ {s8 : Shared} {H8 : Hp}, Inv X' ([] ++ L2.pinsAt fp s5.heap) σ6 H8 s8 → Inv X' [] σ6 H8 s8 ∧ tn' (i + 1) s8.heap ∧ ∀ b ∈ fp, H8 b = none := fun {s8 H8} I8 => by
          refine ⟨I8.unpinned, T.keep _ _ _ st5 fun b hb o e => (I8.pin (b, o) (List.mem_append_right _ (List.mem_append_right _ (L2.mem_pinsAt hb e)))).1, fun b hb => ?_⟩
          obtain ⟨o, e, d⟩ := T.obj _ _ st5 b hb
          exact (I8.pin (b, o) (List.mem_append_right _ (List.mem_append_right _ (L2.mem_pinsAt hb e)))).2.1
        cases b with
        | false =>
          rw [if_neg (by decide)] at erest
          rw [if_neg (by decide)]
          obtain ⟨a1, a2, a3⟩ := again I7
          exact ⟨ds.length - (i + 1), by omega, i + 1, σ6, H7, vs, as, rfl, hlt, a1, a2, a3, sm7, D7, by omega, ras.mv (.same (s5'.trans s7')), back (r6.rs.same s7'), rest, erest, eall⟩
        | true =>
          rw [if_pos rfl] at erest
          rw [if_pos rfl]
          obtain ⟨y, ey1, erest⟩ := bind_ok_iff.mp erest
          obtain ⟨ys1, ey2, erest⟩ := bind_ok_iff.mp erest
          cases erest
          refine wpAny_mono (hel cl C s2 H2 fp _ s7 σ6 H7 (fun v H8 => Same H7 H8 ∧ Rep (mdOf X) H8 F' y v) I7 ⟨ρ1, F', y, r6.rs.same s7', ey1, fun v H8 s8 rv => ⟨s8, rv⟩⟩) (fun u2 s8 ⟨v, H8, I8, rv8, s8', rep8⟩ => ?_) (fun e s f => (hxe e s f).elim)
          have D8 : H8 D = some (.lst vs) := s8' _ _ D7
          refine wpAny_mono (L2.mt_append (X := X') _ s8 σ6 H8 (.ref D) [v] (.ref D) [u2] (fun _ H9 => H9 = upd H8 D (.lst (vs ++ [v]))) I8 rfl (.cons rv8 .nil) ⟨D, vs, v, rfl, rfl, D8, by omega, rfl⟩) (fun _ s9 ⟨_, H9, I9, _, h9⟩ => ?_) (fun e s f => (hxe e s f).elim)
          subst h9
          obtain ⟨a1, a2, a3⟩ := again I9
          have mv9 : Mv F' H8 F' (upd H8 D (.lst (vs ++ [v]))) := fun b o n e => ⟨n, by rw [L2.upd_ne (fun z => n (.inr z))]; exact e⟩
          have mvA : Mv F' H' F' (upd H8 D (.lst (vs ++ [v]))) := Mv.trans (.same (s5'.trans (s7'.trans s8'))) mv9
          have r8 := back ((r6.rs.same s7').same s8')
          refine ⟨ds.length - (i + 1), by omega, i + 1, σ6, _, vs ++ [v], as ++ [y], rfl, hlt, a1, a2, a3, fun b o e => ?_, L2.upd_same, by simp; omega, (ras.mv mvA).append (Reps.cons (rep8.mv mv9) Reps.nil), ?_, ys1, ey2, by rw [List.append_assoc]; exact eall⟩
          · rw [L2.upd_ne (fun z => by subst z; rw [nD] at e; cases e)]; exact s8' _ _ (sm7 _ _ e)
          · exact ⟨r8.len, fun b f => by
              by_cases hb : b = D
              · subst hb; exact ⟨_, L2.upd_same⟩
              · obtain ⟨o, ho⟩ := r8.trk b f
                exact ⟨o, by rw [L2.upd_ne hb]; exact ho⟩, fun i d e => let ⟨v, h1, h2⟩ := r8.sh i d e; ⟨v, h1, h2.mv mv9⟩, fun i d e => (no_own ent_un (.inl ⟨_, e⟩)).elim, fun i k d e => (no_own ent_un (.inr ⟨_, _, e⟩)).elim, fun i j a o => (no_own ent_un o).elim, .no ent_on⟩
      · have ei : i = ds.length := by omega
        subst ei
        rw [List.drop_length] at erest
        cases erest
        rw [List.append_nil] at eall
        subst eall
        refine L2.thn (T.done X' rfl rfl rfl hc _ [] s' σ' H' _ I' (fpX fr') st' g2) fun r s4 ⟨hr', I4⟩ => ?_
        subst hr'
        obtain ⟨m, hm, _⟩ := I4.loc
        have C4 : H' C = none := I4.free
        have u4 : Un (L2.frs X.stack) fp H2 H' s2.heap s4.heap := I4.base
        have I5 : Inv X pins σ H' s4 := I2.call' (s' := s4) (ch := fp) I4.os u4 I4.hok I4.bare fun b hb => by
          obtain ⟨_, a1, a2, a3, a4, a5⟩ := f2 b hb
          exact ⟨a3, a1, a4, a5⟩
        have fC : FpOk X pins H' C := I2.fpOk (by omega) C4
        have hH : ∃ Hq : Hp, Same H Hq ∧ Hq D = none ∧ Reps (mdOf X) Hq F as vs ∧ upd Hq D (.lst vs) = H' := by
          refine ⟨fun b => if b = D then none else H' b, fun b o e => ?_, by simp, ?_, ?_⟩
          · have hb : b ≠ D := fun z => by subst z; have := sm2 _ _ e; rw [nD] at this; cases this
            simp only [if_neg hb]
            exact sm' _ _ (sm2 _ _ e)
          · refine ras.mv fun b o n e => ⟨fun f => n (.inl f), ?_⟩
            have hb : b ≠ D := fun z => n (.inr z)
            simp only [if_neg hb]
            exact e
          · funext b
            unfold upd
            by_cases hb : b = D
            · simp only [if_pos hb]; rw [hb]; exact eD.symm
            · simp only [if_neg hb]
        obtain ⟨Hq, q1, q2, q3, q4⟩ := hH
        exact hend D C s4 H' vs Hq _ ⟨m, hm⟩ I5 fC q1 q2 q3 q4
    · show upd H2 D (.lst []) b = none
      obtain ⟨o, ho, _⟩ := T.obj _ _ st2 b hb
      rw [L2.upd_ne (lt2 b (Heap.lt_size ho)).2]
      exact (f2 b hb).1
  exact codeAny_compStart_list loop (T.self _ 0 _ _ _ (T.keep _ _ _ st2 fun b _ o e => old b o e) loop)
theorem je_comp (tn fv : List Str) (fvi : List Nat) {elt iter target : Expr} {ifs : List Expr} {scope : Scope} {it : Itr} {tg : Tgt} {cs : List Tst} {el : Ex} (hxe : ∀ e s, ¬ X.xe e s) (hc : X.calm = true) (ok : CompOk X scope tn fv fvi) (hi : JI X target iter it) (low : Low tn.length tg)
    (ht : ∀ cl C s H fp, JG (cxC X scope cl C (tn ++ fv) s H fp) target tg) (hcs : ∀ cl C s H fp, JCs (cxC X scope cl C (tn ++ fv) s H fp) ifs cs) (hel : ∀ cl C s H fp, JE (cxC X scope cl C (tn ++ fv) s H fp) elt el)
    (hs : ∀ x, foldedSetIterable iter X.env x = pure x) : JF X (.ListComp elt [⟨target, iter, ifs, 0⟩] scope pos) (eComp it tn.length fvi tg cs el) := by
  intro pins s σ H Q I ⟨ρ, F, all, hr, e, q⟩
  show wpAny _ _ (comprehension (.ListComp elt [⟨target, iter, ifs, 0⟩] scope pos) scope X.env _ (newList []) false (eval iter X.env) none) _ _ s
  refine comp_core tn fv fvi hxe hc ok hi low ht hcs hel hs I hr e fun D C s4 H' vs Hq f hm I5 fC q1 q2 q3 q4 => ?_
  obtain ⟨m, hm⟩ := hm
  refine ⟨m, hm, fun h' hsb => ⟨.ref D, H', I5.turned (t' := s4.toks) (fun b o n e => by rw [hsb.2 b n]; exact e) fC.1 fC.2.1 fC.2.2.2.1 fC.2.2.2.2.1 fC.2.2.2.2.2, rfl, ?_⟩⟩
  rw [← q4]
  exact q D Hq vs q1 q2 q3
theorem ps_comp (i : Nat) {y : Str} {py spos : Pos} (tn fv : List Str) (fvi : List Nat) {elt iter target : Expr} {ifs : List Expr} {scope : Scope} {it : Itr} {tg : Tgt} {cs : List Tst} {el : Ex} (hxe : ∀ e s, ¬ X.xe e s) (hc : X.calm = true) (ok : CompOk X scope tn fv fvi) (hi : JI X target iter it) (low : Low tn.length tg)
    (ht : ∀ cl C s H fp, JG (cxC X scope cl C (tn ++ fv) s H fp) target tg) (hcs : ∀ cl C s H fp, JCs (cxC X scope cl C (tn ++ fv) s H fp) ifs cs) (hel : ∀ cl C s H fp, JE (cxC X scope cl C (tn ++ fv) s H fp) elt el)
    (hs : ∀ x, foldedSetIterable iter X.env x = pure x) (hN : X.N.Nodup) (hy : X.N[i]? = some y) (hx : L2.Loc X.env.scope y) (hf : X.fn y = true ∨ X.env.scope.names.lookup y = some .local)
    (hsw : swapsWith (.ListComp elt [⟨target, iter, ifs, 0⟩] scope pos) (some (.Name y py)) spos.line X.env = pure true) : PS X (.Assign [.Name y py] (.ListComp elt [⟨target, iter, ifs, 0⟩] scope pos) spos) (L2.tAsg (tPF (mdOf X) (eComp it tn.length fvi tg cs el)) (L2.gName i)) := by
  intro pins s σ H D I ⟨ρ, F, all, hr, e, q⟩
  rw [exec_Assign_Name_used _ _ _ _ hsw]
  refine wpAny_bind (wpAny_standAt (wpAny_bind ?_))
  show wpAny _ _ (do let _ ← comprehension (.ListComp elt [⟨target, iter, ifs, 0⟩] scope pos) scope X.env _ (newList []) false (eval iter X.env) (some (assign (.Name y py) X.env))) _ _ s
  refine wpAny_bind (L2.thn (comp_core (Qc := fun _ s' => L2.SP X pins D .next s') tn fv fvi hxe hc ok hi low ht hcs hel hs I hr e fun D1 C s4 H' vs Hq f hm I5 fC q1 q2 q3 q4 => ?_) fun _ s' hq => wpAny_pure (wpAny_pure hq))
  obtain ⟨m, hm⟩ := hm
  show wpAny _ _ (assign (.Name y py) X.env (.ref D1)) _ _ _
  refine wpAny_assign_Name (L2.store_ok2 (v := .ref D1) I5 hN hy hx rfl (fun s5 I6 hsb => ?_) hf)
  obtain ⟨a, hsb, ha⟩ := hsb
  have hCa : C ≠ a := by
    rcases ha with z | z
    · rw [z]; exact fC.2.1
    · exact fun e => fC.2.2.2.2.1 _ _ z e.symm
  refine ⟨m, hm.sameBut hsb hCa, fun h' hsb2 => ⟨_, H', I6.turned (t' := s5.toks) (fun b o n e => by rw [hsb2.2 b n]; exact e) fC.1 fC.2.1 fC.2.2.2.1 fC.2.2.2.2.1 fC.2.2.2.2.2, ?_⟩⟩
  rw [← q4]
  exact q D1 Hq vs q1 q2 q3
end
end PL
set_option Elab.async false
set_option linter.all false
set_option maxRecDepth 100000
namespace PL
open PySem PySem.Spec
open L2 (V Hp HO Cx PE PT PW PA PS PSs PG PGs VK TE TT TA TS TI TG Inv RelV Vals Rd SqL SqT upd Same Key XK Ends OpR UnR CallR R2 EP It Turn FpOk Un)
section
variable {X : Cx} {M : Md} {G H H' : Hp} {F0 F F' : Addr → Prop} {σ : L2.St} {ρ : En} {pos : Pos} {pins : List (Addr × Obj)} {s : Shared}
theorem je_of_jf {e : Expr} {f : Ex} (h : JF X e f) (hl : ∀ ρ d, f ρ = .ok d → ∃ ds, d = .lst ds) : JE X e f :=
  PE_imp h fun σ H Q ⟨ρ, F, d, hr, e, q⟩ => by
    obtain ⟨ds, rfl⟩ := hl _ _ e
    exact ⟨ρ, F, ds, hr, e, fun p H' xs sm hp rs => q _ _ (sm.trans (Same.upd_new hp _)) (rep_lst_new (hr.same sm).trk hp rs)⟩
theorem comp_lst {it : Itr} {n : Nat} {fv : List Nat} {tg : Tgt} {cs : List Tst} {el : Ex} (ρ : En) (d : D) (h : eComp it n fv tg cs el ρ = .ok d) : ∃ ds, d = .lst ds := by
  obtain ⟨ds, _, h⟩ := bind_ok_iff.mp h
  split at h
  · obtain ⟨ys, _, h⟩ := bind_ok_iff.mp h
    cases h
    exact ⟨_, rfl⟩
  · cases h
noncomputable def compChk (sc0 : Scope) (N0 : List Str) (scope : Scope) (fv : List Str) (fvi : List Nat) : Bool :=
  decide (scope.kind = .function) && scope.names.all (fun y => decide (y.2 ≠ .cell) && (decide (y.2 ≠ .local) || decide (scope.names.lookup y.1 = some .local)) && (decide (y.2 ≠ .free) || (decide (sc0.names.lookup y.1 = some .cell) && decide (scope.names.lookup y.1 = some .free))))
    && decide (fv.length = fvi.length) && (fvi.zip fv).all (fun p => decide (N0[p.1]? = some p.2) && decide ((p.2, NameKind.free) ∈ scope.names))
theorem compOk_mk {scope : Scope} {tn fv : List Str} {fvi : List Nat} (sc0 : Scope) (N0 : List Str) (h1 : X.env.scope = sc0) (h2 : X.N = N0) (h : compChk sc0 N0 scope fv fvi = true) : CompOk X scope tn fv fvi := by
  subst h1 h2
  unfold compChk at h
  rw [Bool.and_eq_true, Bool.and_eq_true, Bool.and_eq_true, decide_eq_true_eq, decide_eq_true_eq, List.all_eq_true, List.all_eq_true] at h
  obtain ⟨⟨⟨hk, hn⟩, hl⟩, hf⟩ := h
  have hn' : ∀ y ∈ scope.names, y.2 ≠ .cell ∧ (y.2 ≠ .local ∨ scope.names.lookup y.1 = some .local) ∧ (y.2 ≠ .free ∨ (X.env.scope.names.lookup y.1 = some .cell ∧ scope.names.lookup y.1 = some .free)) := fun y hy => by
    have := hn y hy
    simp only [Bool.and_eq_true, Bool.or_eq_true, decide_eq_true_eq] at this
    exact ⟨this.1.1, this.1.2, this.2⟩
  refine ⟨hk, fun y hy => (hn' y hy).1, fun y hy hl => (hn' y hy).2.1.resolve_left (fun h => h hl), fun y hy hl => ((hn' y hy).2.2.resolve_left (fun h => h hl)).1, fun y hy hl => ((hn' y hy).2.2.resolve_left (fun h => h hl)).2, fun j i hj => ?_, hl⟩
  obtain ⟨hjl, _⟩ := List.getElem?_eq_some_iff.mp hj
  have hx : fv[j]? = some (fv[j]'(by omega)) := List.getElem?_eq_getElem (by omega)
  have hm : (i, fv[j]'(by omega)) ∈ fvi.zip fv := by
    refine List.mem_iff_getElem?.mpr ⟨j, ?_⟩
    rw [List.getElem?_zip_eq_some]
    exact ⟨hj, hx⟩
  have := hf _ hm
  simp only [Bool.and_eq_true, decide_eq_true_eq] at this
  exact ⟨_, hx, this.1, this.2⟩
theorem flat_V {d : D} {v : V} (f : flat d = true) (r : Rep M H F d v) : L2.flatV v = true := by
  cases d <;> first | (simp only [Rep] at r; subst r; rfl) | (cases f)
theorem flat_Vs : ∀ {ds : List D} {vs : List V}, ds.all flat = true → Reps M H F ds vs → vs.all L2.flatV = true
  | [], _, _, r => by simp only [Reps] at r; subst r; rfl
  | d :: ds, _, f, r => by
    rw [List.all_cons, Bool.and_eq_true] at f
    simp only [Reps] at r
    obtain ⟨x, t, rfl, r1, r2⟩ := r
    rw [List.all_cons, flat_V f.1 r1, flat_Vs f.2 r2]; rfl
theorem eqV_D {a b : D} {x y : V} (fa : flat a = true) (fb : flat b = true) (ra : Rep M H F a x) (rb : Rep M H F b y) : L2.eqV x y = eqD a b := by
  cases a <;> (try cases fa) <;> cases b <;> (try cases fb) <;> simp only [Rep] at ra rb <;> subst ra <;> subst rb <;> first | rfl | (simp only [L2.eqV, eqD]; exact str_beq _ _)
theorem inV_D : ∀ {ds : List D} {vs : List V} {b : D} {y : V}, ds.all flat = true → flat b = true → Reps M H F ds vs → Rep M H F b y → L2.inV y vs = ds.any fun d => eqD d b
  | [], _, _, _, _, _, r, _ => by simp only [Reps] at r; subst r; rfl
  | d :: ds, _, b, y, f, fb, r, rb => by
    rw [List.all_cons, Bool.and_eq_true] at f
    simp only [Reps] at r
    obtain ⟨x, t, rfl, r1, r2⟩ := r
    show (L2.eqV x y || L2.inV y t) = (eqD d b || ds.any fun d => eqD d b)
    rw [eqV_D f.1 fb r1 rb, inV_D f.2 fb r2 rb]
theorem findK_val {ks : List Ky} {xs : List V} {ds : List D} : ∀ (k : Ky), ks.length = xs.length → Reps M H F ds xs → (findK k ks ds = none → L2.valV (ks.zip xs) k = none) ∧ ∀ d, findK k ks ds = some d → ∃ v, L2.valV (ks.zip xs) k = some v ∧ Rep M H F d v := by
  induction ks generalizing xs ds with
  | nil =>
    intro k hl r
    cases xs with
    | nil => exact ⟨fun _ => rfl, fun d h => by simp [findK] at h⟩
    | cons _ _ => simp at hl
  | cons a ks ih =>
    intro k hl r
    cases xs with
    | nil => simp at hl
    | cons x xs =>
      cases ds with
      | nil => simp only [Reps] at r; cases r
      | cons d0 ds =>
        simp only [Reps] at r
        obtain ⟨x', t, e, r1, r2⟩ := r
        cases e
        have ih := ih (xs := xs) (ds := ds) k (by simpa using hl) r2
        have hz : (a :: ks).zip (x :: xs) = (a, x) :: ks.zip xs := rfl
        rw [hz]
        by_cases hk : a = k
        · subst hk
          have h1 : L2.valV ((a, x) :: ks.zip xs) a = some x := by simp [L2.valV]
          refine ⟨fun h => by simp [findK] at h, fun d h => ⟨x, h1, ?_⟩⟩
          simp [findK] at h
          subst h
          exact r1
        · have h1 : L2.valV ((a, x) :: ks.zip xs) k = L2.valV (ks.zip xs) k := by simp [L2.valV, hk]
          rw [h1]
          refine ⟨fun h => ih.1 (by simpa [findK, hk] using h), fun d h => ih.2 d (by simpa [findK, hk] using h)⟩
theorem key_rep {d : D} {k : Ky} {v : V} (h : keyOf d = some k) (r : Rep M H F d v) : v = L2.kV k := by
  cases d with
  | int i => cases h; exact rep_int r
  | str x => cases h; exact rep_str r
  | _ => cases h
theorem dc_val {a : Addr} {ks : List Ky} {ds : List D} {xs : List V} (I : Inv X pins σ H s) (h : DcR (mdOf X) H F a (ks.zip xs)) (hl : ks.length = xs.length) (rs : Reps (mdOf X) H F ds xs) (k : Ky) :
    ∃ vs, s.heap.DictOf (L2.mixKind X.prog X.w) a vs ∧ (a == sysModules) = false ∧ (findK k ks ds = none → valueAt vs k = none) ∧ ∀ d, findK k ks ds = some d → ∃ v u, valueAt vs k = some u ∧ RelV v u ∧ Rep (mdOf X) H F d v := by
  obtain ⟨z, hd, vs, rel, dd⟩ := dc_at I h
  obtain ⟨f1, f2⟩ := findK_val (M := mdOf X) (H := H) (F := F) k hl rs
  refine ⟨vs, dd, hd, fun hn => ?_, fun d hdd => ?_⟩
  · exact L2.RelO.none_of (by rw [← f1 hn]; exact L2.KV.val rel k)
  · obtain ⟨v, hv, rv⟩ := f2 d hdd
    obtain ⟨u, hu, ru⟩ := L2.RelO.some_of (v := v) (o := valueAt vs k) (by rw [← hv]; exact L2.KV.val rel k)
    exact ⟨v, u, hu, ru, rv⟩
noncomputable def rIxD (M : Md) : R2 := fun x y H Q => L2.rIx M.K x y H Q ∨ ∃ F a b d, Rep M H F a x ∧ Rep M H F b y ∧ oIxD a b = .ok d ∧ ∀ v, Rep M H F d v → Q v H
theorem ix_dict : L2.IxR X (rIxD (mdOf X)) := by
  refine L2.IxR.or L2.ix_seq ?_
  intro value slice pins s σ H x y v u Q I rx ry h hs
  obtain ⟨F, a, b, d, ra, rb, e, q⟩ := h
  unfold oIxD at e
  split at e
  · rename_i ks vs
    split at e
    · rename_i k hk
      split at e
      · rename_i d' hf
        cases e
        simp only [Rep] at ra
        obtain ⟨p, xs, rfl, h1, hl, rs⟩ := ra
        cases rx
        cases key_rep hk rb
        obtain ⟨ws, dd, hd, f1, f2⟩ := dc_val I h1 hl rs k
        obtain ⟨w, w', hw, rw', rd⟩ := f2 _ hf
        exact PyProof.Rows.tail_any dd.typeIs PySem.F.slot_dict_getitem.lookup (wpAny_getItem_of (L2.kV_is ry) dd.mapOf hw ⟨w, H, I.tok _, rw', q w rd⟩) hs
      · cases e
    · cases e
  · cases e
theorem l_ix : OpL M oIx (rIxD M) := by
  intro F H x y a b d Q tr ra rb e q
  cases a with
  | lst xs => exact .inl (l_ixQ F H x y _ b d Q tr ra rb e q)
  | tup xs => exact .inl (l_ixQ F H x y _ b d Q tr ra rb e q)
  | str z => exact .inl (l_ixQ F H x y _ b d Q tr ra rb e q)
  | dct ks vs => exact .inr ⟨F, _, b, d, ra, rb, e, fun v rv => q v H (Same.refl H) rv⟩
  | _ => cases e
theorem je_ix {a b : Expr} {fa fb : Ex} (ha : JE X a fa) (hb : JE X b fb) (hs : L2.PlainIx b := by exact fun _ _ => rfl) : JE X (.Subscript a b pos) (e2 oIx fa fb) :=
  PE_imp (L2.pe_ix ix_dict ha hb hs) fun σ H Q h => tOp_of l_ix h
noncomputable def rInD (M : Md) (neg : Bool) : R2 := fun x y H Q => ∃ F a b k, Rep M H F a x ∧ Rep M H F b y ∧ oIn a b = .ok (.bl k) ∧ Q (.bl (if neg then !k else k)) H
theorem in_cases {a b : D} {k : Bool} (h : oIn a b = .ok (.bl k)) : (∃ ys, (b = .lst ys ∨ b = .tup ys) ∧ flat a = true ∧ ys.all flat = true ∧ k = ys.any fun y => eqD y a) ∨ ∃ ks vs q, b = .dct ks vs ∧ keyOf a = some q ∧ k = (findK q ks vs).isSome := by
  cases b with
  | lst ys =>
    have h' : (if flat a = true ∧ ys.all flat = true then (R.ok (D.bl (ys.any fun y => eqD y a)) : R D) else .bad) = .ok (.bl k) := by cases a <;> exact h
    split at h'
    · rename_i c; cases h'; exact .inl ⟨ys, .inl rfl, c.1, c.2, rfl⟩
    · cases h'
  | tup ys =>
    have h' : (if flat a = true ∧ ys.all flat = true then (R.ok (D.bl (ys.any fun y => eqD y a)) : R D) else .bad) = .ok (.bl k) := by cases a <;> exact h
    split at h'
    · rename_i c; cases h'; exact .inl ⟨ys, .inr rfl, c.1, c.2, rfl⟩
    · cases h'
  | dct ks vs =>
    cases hq : keyOf a with
    | none => cases a <;> simp [hq] at h
    | some q =>
      refine .inr ⟨ks, vs, q, rfl, rfl, ?_⟩
      cases a <;> simp [hq] at h <;> exact h.symm
  | str y => cases a <;> simp at h
  | _ => cases a <;> simp at h
theorem op_inD (hu : X.A.units + 64 < cLine) : OpR X (compareOp .In) (rInD (mdOf X) false) := by
  intro pins s σ H x y v u Q I rx ry h
  obtain ⟨F, a, b, k, ra, rb, e, q⟩ := h
  rcases in_cases e with ⟨ys, hb, fa, fs, rfl⟩ | ⟨ks, vs, q', rfl, hq, rfl⟩
  · have : ∃ p xs, y = .ref p ∧ (SqL X.K H p xs ∨ SqT X.K H p xs) ∧ Reps (mdOf X) H F ys xs := by
      rcases hb with rfl | rfl
      · simp only [Rep] at rb; obtain ⟨p, xs, e, h1, h2⟩ := rb; exact ⟨p, xs, e, .inl h1.sq, h2⟩
      · simp only [Rep] at rb; obtain ⟨p, xs, e, h1, h2⟩ := rb; exact ⟨p, xs, e, .inr h1.sq, h2⟩
    obtain ⟨p, xs, rfl, hs, rs⟩ := this
    refine L2.op_in_seq pins s σ H x (.ref p) v u Q I rx ry ⟨p, xs, rfl, hs, flat_V fa ra, flat_Vs fs rs, ?_⟩
    rw [inV_D fs fa rs ra]
    exact q
  · simp only [Rep] at rb
    obtain ⟨p, xs, rfl, h1, hl, rs⟩ := rb
    cases ry
    cases key_rep hq ra
    obtain ⟨ws, dd, hd, f1, f2⟩ := dc_val I h1 hl rs q'
    refine wpAny_in_of (L2.kV_is rx) hd dd.mapOf ?_
    cases hf : findK q' ks vs with
    | none => rw [f1 hf]; rw [hf] at q; exact ⟨.bl _, H, I.tok _, rfl, q⟩
    | some d => obtain ⟨_, w, hw, _⟩ := f2 d hf; rw [hw]; rw [hf] at q; exact ⟨.bl _, H, I.tok _, rfl, q⟩
theorem op_notInD (hu : X.A.units + 64 < cLine) : OpR X (compareOp .NotIn) (rInD (mdOf X) true) := by
  intro pins s σ H x y v u Q I rx ry h
  obtain ⟨F, a, b, k, ra, rb, e, q⟩ := h
  rcases in_cases e with ⟨ys, hb, fa, fs, rfl⟩ | ⟨ks, vs, q', rfl, hq, rfl⟩
  · have : ∃ p xs, y = .ref p ∧ (SqL X.K H p xs ∨ SqT X.K H p xs) ∧ Reps (mdOf X) H F ys xs := by
      rcases hb with rfl | rfl
      · simp only [Rep] at rb; obtain ⟨p, xs, e, h1, h2⟩ := rb; exact ⟨p, xs, e, .inl h1.sq, h2⟩
      · simp only [Rep] at rb; obtain ⟨p, xs, e, h1, h2⟩ := rb; exact ⟨p, xs, e, .inr h1.sq, h2⟩
    obtain ⟨p, xs, rfl, hs, rs⟩ := this
    refine L2.op_notIn_seq pins s σ H x (.ref p) v u Q I rx ry ⟨p, xs, rfl, hs, flat_V fa ra, flat_Vs fs rs, ?_⟩
    rw [inV_D fs fa rs ra]
    exact q
  · simp only [Rep] at rb
    obtain ⟨p, xs, rfl, h1, hl, rs⟩ := rb
    cases ry
    cases key_rep hq ra
    obtain ⟨ws, dd, hd, f1, f2⟩ := dc_val I h1 hl rs q'
    refine wpAny_notIn_of (L2.kV_is rx) hd dd.mapOf ?_
    cases hf : findK q' ks vs with
    | none => rw [f1 hf]; rw [hf] at q; exact ⟨.bl _, H, I.tok _, rfl, q⟩
    | some d => obtain ⟨_, w, hw, _⟩ := f2 d hf; rw [hw]; rw [hf] at q; exact ⟨.bl _, H, I.tok _, rfl, q⟩
theorem in_bl {a b d : D} (h : oIn a b = .ok d) : ∃ k, d = .bl k := by
  cases b with
  | lst ys =>
    have h' : (if flat a = true ∧ ys.all flat = true then (R.ok (D.bl (ys.any fun y => eqD y a)) : R D) else .bad) = .ok d := by cases a <;> exact h
    split at h' <;> cases h'
    exact ⟨_, rfl⟩
  | tup ys =>
    have h' : (if flat a = true ∧ ys.all flat = true then (R.ok (D.bl (ys.any fun y => eqD y a)) : R D) else .bad) = .ok d := by cases a <;> exact h
    split at h' <;> cases h'
    exact ⟨_, rfl⟩
  | dct ks vs =>
    cases hq : keyOf a with
    | none => cases a <;> simp [hq] at h
    | some q => cases a <;> simp [hq] at h <;> exact ⟨_, h.symm⟩
  | str y => cases a <;> simp at h
  | _ => cases a <;> simp at h
theorem l_in : OpL M oIn (rInD M false) := by
  intro F H x y a b d Q tr ra rb e q
  obtain ⟨k, rfl⟩ := in_bl e
  exact ⟨F, a, b, k, ra, rb, e, q _ _ (Same.refl _) rep_bl_mk⟩
theorem notIn_bl {a b d : D} (h : oNotIn a b = .ok d) : ∃ k, oIn a b = .ok (.bl k) ∧ d = .bl (!k) := by
  obtain ⟨r, hr, h⟩ := bind_ok_iff.mp h
  obtain ⟨k, rfl⟩ := in_bl hr
  cases h
  exact ⟨k, hr, rfl⟩
theorem bin_notIn : Bin oNotIn := fun a b d h => let ⟨k, _, e⟩ := notIn_bl h; ⟨_, e⟩
theorem l_notIn : OpL M oNotIn (rInD M true) := by
  intro F H x y a b d Q tr ra rb e q
  obtain ⟨k, hk, rfl⟩ := notIn_bl e
  exact ⟨F, a, b, k, ra, rb, hk, q _ _ (Same.refl _) rep_bl_mk⟩
end
end PL
set_option Elab.async false
set_option linter.all false
set_option maxRecDepth 100000
set_option maxHeartbeats 1000000
namespace PL
open PySem PySem.Spec
open L2 (V Hp HO Cx PE PT PW PA PS PSs PG PGs VK TE TT TA TS TI TG Inv RelV Vals Rd SqL SqT upd Same Key XK Ends OpR UnR CallR R2 EP It Turn FpOk Un)
section
variable {X : Cx} {M : Md} {G H H' : Hp} {F0 F F' : Addr → Prop} {σ : L2.St} {ρ : En} {pos : Pos} {pins : List (Addr × Obj)} {s : Shared}
theorem allB_ok : ∀ {ds : List D} {d : D}, allB ds = .ok d → ∃ bs : List Bool, ds = bs.map D.bl ∧ d = .bl (bs.all id)
  | [], d, h => by cases h; exact ⟨[], rfl, rfl⟩
  | x :: ds, d, h => by
    cases x with
    | bl b =>
      obtain ⟨z, hz, h⟩ := bind_ok_iff.mp h
      obtain ⟨bs, rfl, rfl⟩ := allB_ok hz
      cases h
      exact ⟨b :: bs, rfl, rfl⟩
    | _ => cases h
theorem reps_bl : ∀ {bs : List Bool} {xs : List V}, Reps M H F (bs.map D.bl) xs → xs = bs.map V.bl
  | [], _, r => by simpa [Reps] using r
  | b :: bs, _, r => by
    simp only [List.map_cons, Reps] at r
    obtain ⟨x, t, rfl, h1, h2⟩ := r
    rw [reps_bl h2, rep_bl h1]; rfl
theorem vals_bl : ∀ {bs : List Bool} {us : List Value}, Vals (bs.map V.bl) us → us = bs.map Value.bool
  | [], _, .nil => rfl
  | b :: bs, _, .cons r t => by cases r; rw [vals_bl t]; rfl
theorem all_range (bs : List Bool) : ((List.range bs.length).drop 0).all (fun i => bs.getD i false) = bs.all id := by
  rw [List.drop_zero]
  induction bs with
  | nil => rfl
  | cons b bs ih =>
    rw [List.length_cons, List.range_succ_eq_map, List.all_cons, List.all_map, List.all_cons, ← ih]
    rfl
theorem call_all (hc : X.calm = true) : CallR X (.builtin "all") (fun xs H Q => ∃ (F : Addr → Prop) (p : Addr) (bs : List Bool), xs = [.ref p] ∧ Rep (mdOf X) H F (.lst (bs.map D.bl)) (.ref p) ∧ Q (.bl (bs.all id)) H) := by
  intro pins s σ H xs us Q I r h
  obtain ⟨F, p, bs, rfl, rp, q⟩ := h
  obtain ⟨u, rfl, ru⟩ := L2.vals1 r
  cases ru
  simp only [Rep] at rp
  obtain ⟨p', xs, e, hl, rs⟩ := rp
  cases e
  obtain ⟨its, rv, pl, hz⟩ := I.list hl.sq
  cases reps_bl rs
  cases vals_bl rv
  have hh : X.A.in1.in1.handled = none := I.ok.hd hc
  have hlt : p < s.heap.objs.size := by obtain ⟨o, n, e, _⟩ := pl; exact Heap.lt_size e
  refine call_function_tree PySem.F.kind_all PySem.F.plain_all PySem.F.entry_all (PySem.F.args_all1 _) ?_
  show wpAny _ _ (pyIter (.ref p) >>= _) _ _ s
  refine wpAny_bind (wpAny_pyIter_list pl.isList (wpAny_pure ⟨plainId_quiet PySem.F.plain_all_loop _, ?_⟩))
  have hsz : ((bs.map Value.bool).toArray).size = bs.length := by simp
  have W := Walks.list (prog := X.prog) (w := X.w) (A := X.A.in1) (I.ok.hd hc) s.heap.objs.size p (Nat.ne_of_lt hlt) (bs.map Value.bool).toArray
  rw [hsz] at W
  refine codeAny_all_loop (A := X.A) W (fun i => bs.getD i false) (fun i v s' Q' E' hP hQ => ?_) (bs.length - 0) 0 _ rfl (Nat.zero_le _) ⟨⟨_, Heap.get?_push_size _ rfl, rfl, rfl⟩, Heap.IsList.push pl.isList _⟩ (fun h' tk hk => ?_)
  · have hP : (bs.map Value.bool).toArray[i]? = some v := hP
    have hQ : Q' (bs.getD i false) s' := hQ
    have : ∃ b, v = .bool b ∧ bs.getD i false = b := by
      rw [List.getElem?_toArray, List.getElem?_map] at hP
      cases e : bs[i]? with
      | none => rw [e] at hP; cases hP
      | some b => rw [e] at hP; cases hP; exact ⟨b, rfl, by simp [e]⟩
    obtain ⟨b, rfl, hb⟩ := this
    rw [hb] at hQ
    exact wpAny_truthy_bool hQ
  · show EP X pins σ Q _ _
    rw [all_range]
    have I1 : Inv X pins σ H { s with heap := s.heap.push { cls := .type "list_iterator", data := .fields #[.ref p, .int 0 0] } } := I.kept (t' := s.toks) fun b o e => Heap.get?_push_of_some _ e
    have fp := I.fpOk (H' := H) (b := s.heap.objs.size) (Nat.le_refl _) (I.hok.fresh (Nat.le_refl _))
    obtain ⟨f0, f1, f2, f3, f4, f5⟩ := fp
    exact ⟨.bl _, H, I1.turned (it := s.heap.objs.size) (t' := tk) (fun b o hb e => hk b o (by simpa using hb) e) f0 f1 f3 f4 f5, rfl, q⟩
theorem l_all : CaL M (g1 oAll) (fun xs H Q => ∃ (F : Addr → Prop) (p : Addr) (bs : List Bool), xs = [.ref p] ∧ Rep M H F (.lst (bs.map D.bl)) (.ref p) ∧ Q (.bl (bs.all id)) H) := by
  intro F H xs as d Q tr rs e q
  unfold g1 at e
  split at e
  · obtain ⟨x, rfl, r⟩ := rs.one
    unfold oAll at e
    split at e
    · obtain ⟨bs, rfl, rfl⟩ := allB_ok e
      have r' := r
      simp only [Rep] at r
      obtain ⟨p, ys, rfl, _⟩ := r
      exact ⟨F, p, bs, rfl, r', q _ _ (Same.refl _) rep_bl_mk⟩
    · cases e
  · cases e
theorem m1_mk {o e : Expr} {apos cpos : Pos} {m : Str} (hb : attributeBase o m X.env (eval o X.env) = eval o X.env) (hn : nst e = true) (hl : (apos.endLine == cpos.line) = true) : L2.M1 X o m apos e cpos :=
  ⟨hb, few1 (by simp [hn]) (show 1 < 30 by decide), hl, by rw [st1 hn]; rfl⟩
theorem je_get1 {o e : Expr} {fo fe : Ex} {apos cpos : Pos} (ho : JE X o fo) (he : JE X e fe) (m : L2.M1 X o "get" apos e cpos) : JE X (.Call (.Attribute o "get" apos) [e] [] cpos) (e2 (oGet .non) fo fe) := by
  intro pins s σ H Q I ⟨ρ, F, d, hr, e, q⟩
  obtain ⟨a, ea, e⟩ := bind_ok_iff.mp e
  obtain ⟨b, eb, e⟩ := bind_ok_iff.mp e
  refine wpAny_Call_method m.base m.few m.line PySem.F.plainAttrs_dict PySem.F.slot_dict_get PySem.F.type_dict_get (L2.thn (ho pins s σ H _ I ⟨ρ, F, a, hr, ea, fun v H1 s1 rv => (⟨s1, rv⟩ : Same H H1 ∧ Rep (mdOf X) H1 F a v)⟩) fun u s1 ⟨x, H1, I1, rx, sm1, ra⟩ => ?_)
  cases a with
  | dct ks vs =>
    cases hk : keyOf b with
    | none => simp only [oGet, hk] at e; cases e
    | some k =>
      simp only [oGet, hk] at e
      cases e
      have ra' := ra
      simp only [Rep] at ra
      obtain ⟨p, xs, rfl, h1, hl, rs⟩ := ra
      cases rx
      obtain ⟨_, _, ws, _, o', es, ep, e1, e2, e3, _⟩ := dc_at I1 h1
      refine ⟨⟨o', e1, e2.1⟩, fun c hc => by cases hc; exact ⟨o', e1, e2.2.1⟩, ?_⟩
      rw [m.trees]
      refine Calls.callWith_builtin rfl (Calls.evalArgs_plain (Calls.spliced_cons (L2.thn (he pins s1 σ H1 _ I1 ⟨ρ, F, b, hr.same sm1, eb, fun v H2 s2 rv => (⟨s2, rv⟩ : Same H1 H2 ∧ Rep (mdOf X) H2 F b v)⟩) fun iv s2 ⟨y, H2, I2, ry, sm2, rb⟩ => Calls.spliced_nil ?_)))
      have h2 := h1.mv (M := mdOf X) (F' := F) (.same sm2)
      have rs2 := rs.mv (M := mdOf X) (F' := F) (.same sm2)
      cases key_rep hk rb
      obtain ⟨ws, dd, hd, f1, f2⟩ := dc_val I2 h2 hl rs2 k
      refine call_meetsIn PySem.F.slot_dict_get dd.typeIs PySem.F.entry_dict_get (PySem.F.args_dict_get_2 _ _) (meets_dict_get (L2.mixKind X.prog X.w) p (L2.kV_is ry) hd) ⟨_, dd.mapOf, ?_⟩
      cases hf : findK k ks vs with
      | none =>
        rw [f1 hf]
        rw [hf] at q
        exact ⟨.non, H2, I2.tok _, rfl, q _ _ (sm1.trans sm2) rep_non_mk⟩
      | some d' =>
        obtain ⟨v, w, hw, rw', rd⟩ := f2 d' hf
        rw [hw]
        rw [hf] at q
        exact ⟨v, H2, I2.tok _, rw', q _ _ (sm1.trans sm2) rd⟩
  | _ => cases e
end
end PL
set_option Elab.async false
set_option linter.all false
set_option maxRecDepth 100000
set_option maxHeartbeats 1000000
namespace PL
open PySem PySem.Spec
open L2 (V Hp HO Cx PE PT PW PA PS PSs PG PGs VK TE TT TA TS TI TG Inv RelV Vals Rd SqL SqT upd Same Key XK Ends OpR UnR CallR R2 EP It Turn FpOk Un)
section
variable {prog : Program} {w : World} {A : Around} {E : Value → Shared → Prop} {s : Shared}
theorem drawT_item {it t : Addr} {i : Nat} {items : Array Value} {x : Value} {Q : Value → Shared → Prop} (hit : s.heap.IsTupleIter it t i) (ht : s.heap.IsTuple t items) (hx : items[i]? = some x)
    (hQ : ∀ h', h'.IsTupleIter it t (i + 1) → Heap.SameBut it s.heap h' → Q x { s with heap := h' }) : wpAny (model prog w) A (Builtin.SmallTypes.nextOf (.ref it)) Q E s := by
  obtain ⟨oi, hoi, hci, hdi⟩ := id hit
  obtain ⟨ot, hot, _, nt, hdt⟩ := ht
  unfold Builtin.SmallTypes.nextOf
  refine wpAny_bind (wpAny_callSpecial?_slot (name := Str.ofString "__next__") hit.typeIs PySem.F.slot_tuple_iterator_next (wpAny_call_entry PySem.F.slot_tuple_iterator_next hit.typeIs PySem.F.entry_tuple_iterator_next ?_ (PySem.F.args_tuple_iterator_next_1 _)))
  show wpAny _ _ (PySem.field (.ref it) 0 >>= _) _ _ s; refine wpAny_bind (wpAny_field hoi hdi (x := .ref t) rfl ?_)
  show wpAny _ _ (if (Value.ref t == Value.none) = true then _ else _) _ _ s; rw [if_neg (show ¬ ((Value.ref t == Value.none) = true) from Bool.false_ne_true)]
  show wpAny _ _ (PySem.field (.ref it) 1 >>= _) _ _ s; refine wpAny_bind (wpAny_field hoi hdi (x := .int i 0) rfl ?_)
  show wpAny _ _ (seqItems? (.ref t) >>= _) _ _ s; refine wpAny_bind (wpAny_seqItems hot hdt ?_)
  simp only [Int.toNat_natCast, hx]
  exact wpAny_bind (wpAny_setField hoi hdi (by simp) (wpAny_pure ⟨x, rfl, wpAny_pure (hQ _ ⟨_, Heap.get?_update_self _ hoi (Obj.isFreed_of_fields (Obj.data_mapFields hdi _)), (Obj.cls_mapFields ..).trans hci, by rw [Obj.data_mapFields hdi]; simp [rawInt]⟩ (Heap.SameBut.update ..))⟩))
theorem drawT_end {it t : Addr} {i : Nat} {items : Array Value} {Q : Value → Shared → Prop} (hh : A.handled = none) (hit : s.heap.IsTupleIter it t i) (ht : s.heap.IsTuple t items) (hx : items[i]? = none)
    (hE : ∀ h' e, Heap.ExtBut it s.heap h' → (∃ o, h'.get? e = some o ∧ o.cls = .type "StopIteration") → E (.ref e) { s with heap := h' }) : wpAny (model prog w) A (Builtin.SmallTypes.nextOf (.ref it)) Q E s := by
  obtain ⟨oi, hoi, hci, hdi⟩ := id hit
  obtain ⟨ot, hot, _, nt, hdt⟩ := ht
  unfold Builtin.SmallTypes.nextOf
  refine wpAny_bind (wpAny_callSpecial?_slot (name := Str.ofString "__next__") hit.typeIs PySem.F.slot_tuple_iterator_next (wpAny_call_entry PySem.F.slot_tuple_iterator_next hit.typeIs PySem.F.entry_tuple_iterator_next ?_ (PySem.F.args_tuple_iterator_next_1 _)))
  show wpAny _ _ (PySem.field (.ref it) 0 >>= _) _ _ s; refine wpAny_bind (wpAny_field hoi hdi (x := .ref t) rfl ?_)
  show wpAny _ _ (if (Value.ref t == Value.none) = true then _ else _) _ _ s; rw [if_neg (show ¬ ((Value.ref t == Value.none) = true) from Bool.false_ne_true)]
  show wpAny _ _ (PySem.field (.ref it) 1 >>= _) _ _ s; refine wpAny_bind (wpAny_field hoi hdi (x := .int i 0) rfl ?_)
  show wpAny _ _ (seqItems? (.ref t) >>= _) _ _ s; refine wpAny_bind (wpAny_seqItems hot hdt ?_)
  simp only [Int.toNat_natCast, hx]
  refine wpAny_bind (wpAny_rule (wpAny_bind (wpAny_setField hoi hdi (by simp) ?_)))
  show wpAny _ _ (newExc (.type "StopIteration") [] >>= _) _ _ _; refine wpAny_bind ?_
  simp only [newExc, newTuple]
  refine wpAny_bind (wpAny_newObj_type (wpAny_bind (m := firstArgMember _ _) (wpAny_of_eq (a := Value.none) (by first | rfl | (simp only [firstArgMember]; rfl)) (wpAny_newObj_type ?_ (by size_fits)))) (by size_fits))
  simp only [raiseNew]
  refine wpAny_bind (wpAny_handled ?_)
  first | rw [show A.in1.handled = none from hh] | rw [hh]
  exact wpAny_bind (wpAny_pure (wpAny_throw (hE _ _ (((Heap.SameBut.update ..).extBut.push _).push _) ⟨_, Heap.get?_push_size _ rfl, rfl⟩)))
end
theorem drawT {prog : Program} {w : World} {A : Around} (hh : A.handled = none) (it l : Addr) (hne : l ≠ it) (items : Array Value) :
    Draws prog w A it [it, l] items.size (fun i v => items[i]? = some v) (fun i h => h.IsTupleIter it l i ∧ h.IsTuple l items) where
  live _ _ st := let ⟨o, ho, _⟩ := st.1; ⟨o, ho⟩
  frame _ _ _ st hk := ⟨let ⟨o, ho, r⟩ := st.1; ⟨o, hk it (by simp) o ho, r⟩, let ⟨o, ho, r⟩ := st.2; ⟨o, hk l (by simp) o ho, r⟩⟩
  item i s Q E hi st hQ := drawT_item st.1 st.2 (x := items[i]) (by simp [hi]) fun h' hit' hs' => hQ _ h' s.toks (by simp [hi]) ⟨hit', let ⟨o, ho, r⟩ := st.2; ⟨o, hs'.extBut l o hne ho, r⟩⟩ hs'
  done s Q E st hE := drawT_end hh st.1 st.2 (by simp) hE
structure ZAp (z TI TO i1 i2 : Addr) (f1 f2 : List Addr) : Prop where
  TIz : TI ≠ z
  TOz : TO ≠ z
  i1z : i1 ≠ z
  i2z : i2 ≠ z
  TITO : TI ≠ TO
  TIi1 : TI ≠ i1
  TIi2 : TI ≠ i2
  TOi1 : TO ≠ i1
  TOi2 : TO ≠ i2
  i12 : i1 ≠ i2
  f1z : z ∉ f1
  f1TO : TO ∉ f1
  f1i2 : i2 ∉ f1
  f2z : z ∉ f2
  f2TO : TO ∉ f2
  f2i1 : i1 ∉ f2
section
variable {prog : Program} {w : World} {A : Around} {E : Value → Shared → Prop} {s : Shared} {z TI TO i1 i2 : Addr} {f1 f2 : List Addr} {n1 n2 k : Nat} {P1 P2 : Nat → Value → Prop} {S1 S2 : Nat → Heap → Prop} {a b : Value}
theorem fr_but {prog : Program} {w : World} {A : Around} {it : Addr} {fp : List Addr} {n : Nat} {P : Nat → Value → Prop} {St : Nat → Heap → Prop} (D : Draws prog w A it fp n P St) {i : Nat} {c : Addr} {h h' : Heap} (st : St i h) (hc : c ∉ fp) (hs : Heap.SameBut c h h') : St i h' :=
  D.frame i h h' st fun b hb o e => hs.extBut b o (fun q => hc (by rw [← q]; exact hb)) e
theorem zipD_item (D1 : Draws prog w A i1 f1 n1 P1 S1) (D2 : Draws prog w A i2 f2 n2 P2 S2) (ap : ZAp z TI TO i1 i2 f1 f2) (hz : IsZip s.heap z TI TO .none) (hTI : IsPair s.heap TI (.ref i1) (.ref i2)) (hTO : IsPair s.heap TO a b)
    (st1 : S1 k s.heap) (st2 : S2 k s.heap) (h1 : k < n1) (h2 : k < n2) {Q : Value → Shared → Prop}
    (hQ : ∀ x y h' tk, P1 k x → P2 k y → IsZip h' z TI TO (rawInt s.heap.objs.size) → IsPair h' TO x y → S1 (k + 1) h' → S2 (k + 1) h' → IsPair h' s.heap.objs.size x y →
      (∀ c o, c ≠ z → c ≠ TO → c ≠ i1 → c ≠ i2 → s.heap.get? c = some o → h'.get? c = some o) → Q (.ref s.heap.objs.size) { s with heap := h', toks := tk }) :
    wpAny (model prog w) A (Builtin.«zip.__next__» ⟨[.ref z], []⟩) (fun fin s' => ∃ v, fin = .done (.ret v) ∧ Q v s') E s := by
  show wpAny _ _ (PySem.field (.ref z) 2 >>= _) _ _ _; refine wpAny_bind (wpAny_field hz rfl (x := .bool false) rfl ?_)
  show wpAny _ _ (PySem.field (.ref z) 3 >>= _) _ _ _; refine wpAny_bind (wpAny_field hz rfl (x := .ref TI) rfl (wpAny_bind (wpAny_seqItems hTI rfl ?_)))
  show wpAny _ _ (Builtin.SmallTypes.ownedTupleIsFree (.ref z) >>= _) _ _ _; refine wpAny_bind ?_
  unfold Builtin.SmallTypes.ownedTupleIsFree
  refine wpAny_bind (wpAny_field hz rfl (x := .none) rfl (wpAny_pure ?_)); simp only [if_true]
  refine wpAny_bind (wpAny_rule (wpAny_bind (wpAny_field hz rfl (x := .ref TO) rfl (wpAny_bind (wpAny_setField_rec hz (by simp) fun ha hza hsa => ?_)))))
  replace hza : IsZip ha z TI TO .ellipsis := hza
  refine wpAny_bind ?_
  simp only [List.zipIdx_cons, List.zipIdx_nil, List.forIn_cons, List.forIn_nil]
  refine wpAny_bind (wpAny_bind (wpAny_onRaise ?_)); show wpAny _ _ (Builtin.SmallTypes.nextOf (.ref i1) >>= _) _ _ _
  refine wpAny_bind (D1.item k _ _ _ h1 (fr_but D1 st1 ap.f1z hsa) fun x hb tb px sb1 hsb => wpAny_pure ?_)
  have hTOb : IsPair hb TO a b := hsb.extBut _ _ ap.TOi1 (hsa.extBut _ _ ap.TOz hTO)
  refine wpAny_bind (wpAny_seqItems hTOb rfl (wpAny_bind (wpAny_updateSeq_pair hTOb fun hc hTOc hsc => ?_)))
  replace hTOc : IsPair hc TO x b := hTOc
  refine wpAny_bind (wpAny_letGo (wpAny_pure (wpAny_bind (wpAny_bind (wpAny_onRaise ?_))))); show wpAny _ _ (Builtin.SmallTypes.nextOf (.ref i2) >>= _) _ _ _
  refine wpAny_bind (D2.item k _ _ _ h2 (fr_but D2 (fr_but D2 (fr_but D2 st2 ap.f2z hsa) ap.f2i1 hsb) ap.f2TO hsc) fun y hd td py sd2 hsd => wpAny_pure ?_)
  have hTOd : IsPair hd TO x b := hsd.extBut _ _ ap.TOi2 hTOc
  refine wpAny_bind (wpAny_seqItems hTOd rfl (wpAny_bind (wpAny_updateSeq_pair hTOd fun he hTOe hse => ?_)))
  replace hTOe : IsPair he TO x y := hTOe
  refine wpAny_bind (wpAny_letGo (wpAny_pure (wpAny_pure (wpAny_bind (wpAny_seqItems hTOe rfl (wpAny_bind (wpAny_newTuple ?_)))))))
  have hsz : he.objs.size = s.heap.objs.size := by rw [hse.1, hsd.1, hsc.1, hsb.1, hsa.1]
  have hze : IsZip he z TI TO .ellipsis := hse.extBut _ _ ap.TOz.symm (hsd.extBut _ _ ap.i2z.symm (hsc.extBut _ _ ap.TOz.symm (hsb.extBut _ _ ap.i1z.symm hza)))
  have hke : ∀ c o, c ≠ z → c ≠ TO → c ≠ i1 → c ≠ i2 → s.heap.get? c = some o → he.get? c = some o := fun c o c1 c2 c3 c4 e => hse.extBut _ _ c2 (hsd.extBut _ _ c4 (hsc.extBut _ _ c2 (hsb.extBut _ _ c3 (hsa.extBut _ _ c1 e))))
  have s1e : S1 (k + 1) he := fr_but D1 (fr_but D1 (fr_but D1 sb1 ap.f1TO hsc) ap.f1i2 hsd) ap.f1TO hse
  have s2e : S2 (k + 1) he := fr_but D2 sd2 ap.f2TO hse
  have hzlt : z < he.objs.size := Heap.lt_size hze
  show wpAny _ _ (Builtin.SmallTypes.ownedTupleHandOut (.ref z) (.ref he.objs.size) >>= _) _ _ _
  refine wpAny_bind ?_
  unfold Builtin.SmallTypes.ownedTupleHandOut
  have hzf : IsZip (he.push { cls := .type "tuple", data := .seq #[x, y] }) z TI TO .ellipsis := Heap.get?_push_of_some _ hze
  refine wpAny_bind (wpAny_setField_rec hzf (by simp) fun hg hzg hsg => ?_)
  replace hzg : IsZip hg z TI TO (rawInt he.objs.size) := hzg
  refine wpAny_setField_rec hzg (by simp) fun hi hzi hsi => ?_
  replace hzi : IsZip hi z TI TO (rawInt he.objs.size) := hzi
  have up : ∀ c o, c ≠ z → he.get? c = some o → hi.get? c = some o := fun c o c1 e => hsi.extBut _ _ c1 (hsg.extBut _ _ c1 (Heap.get?_push_of_some _ e))
  have hTi : IsPair hi he.objs.size x y := hsi.extBut _ _ (Nat.ne_of_gt hzlt) (hsg.extBut _ _ (Nat.ne_of_gt hzlt) (Heap.get?_push_size _ rfl))
  rw [hsz] at hzi hTi
  refine wpAny_pure ⟨_, rfl, ?_⟩
  show Q (.ref he.objs.size) _
  rw [hsz]
  exact hQ x y hi td px py hzi (up _ _ ap.TOz hTOe) (D1.frame _ _ _ s1e fun c hc' o e => up c o (fun q => ap.f1z (by rw [← q]; exact hc')) e) (D2.frame _ _ _ s2e fun c hc' o e => up c o (fun q => ap.f2z (by rw [← q]; exact hc')) e) hTi
    fun c o c1 c2 c3 c4 e => up c o c1 (hke c o c1 c2 c3 c4 e)
theorem zipD_end (D1 : Draws prog w A i1 f1 n1 P1 S1) (D2 : Draws prog w A i2 f2 n2 P2 S2) (ap : ZAp z TI TO i1 i2 f1 f2) (hz : IsZip s.heap z TI TO .none) (hTI : IsPair s.heap TI (.ref i1) (.ref i2)) (hTO : IsPair s.heap TO a b)
    (st1 : S1 k s.heap) (st2 : S2 k s.heap) (hend : k = n1 ∨ (k < n1 ∧ k = n2)) {Q : Fin → Shared → Prop}
    (hE : ∀ h' tk e, (∀ c o, c ≠ z → c ≠ TO → c ≠ i1 → c ≠ i2 → s.heap.get? c = some o → h'.get? c = some o) → (∃ o, h'.get? e = some o ∧ o.cls = .type "StopIteration") → E (.ref e) { s with heap := h', toks := tk }) :
    wpAny (model prog w) A (Builtin.«zip.__next__» ⟨[.ref z], []⟩) Q E s := by
  show wpAny _ _ (PySem.field (.ref z) 2 >>= _) _ _ _; refine wpAny_bind (wpAny_field hz rfl (x := .bool false) rfl ?_)
  show wpAny _ _ (PySem.field (.ref z) 3 >>= _) _ _ _; refine wpAny_bind (wpAny_field hz rfl (x := .ref TI) rfl (wpAny_bind (wpAny_seqItems hTI rfl ?_)))
  show wpAny _ _ (Builtin.SmallTypes.ownedTupleIsFree (.ref z) >>= _) _ _ _; refine wpAny_bind ?_
  unfold Builtin.SmallTypes.ownedTupleIsFree
  refine wpAny_bind (wpAny_field hz rfl (x := .none) rfl (wpAny_pure ?_)); simp only [if_true]
  refine wpAny_bind (wpAny_rule (wpAny_bind (wpAny_field hz rfl (x := .ref TO) rfl (wpAny_bind (wpAny_setField_rec hz (by simp) fun ha hza hsa => ?_)))))
  replace hza : IsZip ha z TI TO .ellipsis := hza
  refine wpAny_bind ?_
  simp only [List.zipIdx_cons, List.zipIdx_nil, List.forIn_cons, List.forIn_nil]
  refine wpAny_bind (wpAny_bind (wpAny_onRaise ?_)); show wpAny _ _ (Builtin.SmallTypes.nextOf (.ref i1) >>= _) _ _ _
  rcases hend with rfl | ⟨h1, rfl⟩
  · refine wpAny_bind (D1.done _ _ _ (fr_but D1 st1 ap.f1z hsa) fun hb e hsb he => ?_)
    obtain ⟨oe, hoe, hce⟩ := he
    have hzb : IsZip hb z TI TO .ellipsis := hsb _ _ ap.i1z.symm hza
    have hez : e ≠ z := fun x => by subst x; rw [hzb] at hoe; cases hoe; simp at hce
    exact wpAny_setField_rec hzb (by simp) fun hc _ hsc => hE hc _ e (fun c o c1 _ c3 _ x => hsc.extBut _ _ c1 (hsb _ _ c3 (hsa.extBut _ _ c1 x))) ⟨oe, hsc.extBut _ _ hez hoe, hce⟩
  · refine wpAny_bind (D1.item k _ _ _ h1 (fr_but D1 st1 ap.f1z hsa) fun x hb tb px sb1 hsb => wpAny_pure ?_)
    have hTOb : IsPair hb TO a b := hsb.extBut _ _ ap.TOi1 (hsa.extBut _ _ ap.TOz hTO)
    refine wpAny_bind (wpAny_seqItems hTOb rfl (wpAny_bind (wpAny_updateSeq_pair hTOb fun hc hTOc hsc => ?_)))
    refine wpAny_bind (wpAny_letGo (wpAny_pure (wpAny_bind (wpAny_bind (wpAny_onRaise ?_))))); show wpAny _ _ (Builtin.SmallTypes.nextOf (.ref i2) >>= _) _ _ _
    refine wpAny_bind (D2.done _ _ _ (fr_but D2 (fr_but D2 (fr_but D2 st2 ap.f2z hsa) ap.f2i1 hsb) ap.f2TO hsc) fun hd e hsd he => ?_)
    obtain ⟨oe, hoe, hce⟩ := he
    have hzd : IsZip hd z TI TO .ellipsis := hsd _ _ ap.i2z.symm (hsc.extBut _ _ ap.TOz.symm (hsb.extBut _ _ ap.i1z.symm hza))
    have hez : e ≠ z := fun x => by subst x; rw [hzd] at hoe; cases hoe; simp at hce
    exact wpAny_setField_rec hzd (by simp) fun hf _ hsf => hE hf _ e (fun c o c1 c2 c3 c4 x => hsf.extBut _ _ c1 (hsd _ _ c4 (hsc.extBut _ _ c2 (hsb.extBut _ _ c3 (hsa.extBut _ _ c1 x))))) ⟨oe, hsf.extBut _ _ hez hoe, hce⟩
end
end PL
set_option Elab.async false
set_option linter.all false
set_option maxRecDepth 100000
set_option maxHeartbeats 1000000
namespace PL
open PySem PySem.Spec
open L2 (V Hp HO Cx PE PT PW PA PS PSs PG PGs VK TE TT TA TS TI TG Inv RelV Vals Rd SqL SqT upd Same Key XK Ends OpR UnR CallR R2 EP It Turn FpOk Un)
inductive Sd where
  | l (a : Addr) | t (a : Addr) | s (z : Str)
noncomputable def Sd.at (K : PySem.W.Frag) (H : Hp) : Sd → List V → Prop
  | .l a, xs => SqL K H a xs
  | .t a, xs => SqT K H a xs
  | .s z, xs => xs = z.cps.toList.map fun c => .str ⟨#[c]⟩
noncomputable def Sd.val : Sd → Tok → Value
  | .l a, _ => .ref a
  | .t a, _ => .ref a
  | .s z, tk => .str z tk
noncomputable def Sd.obj : Sd → Tok → Obj
  | .l a, _ => { cls := .type "list_iterator", data := .fields #[.ref a, .int 0 0] }
  | .t a, _ => { cls := .type "tuple_iterator", data := .fields #[.ref a, .int 0 0] }
  | .s z, tk => { cls := .type (if z.cps.all (· < 128) then "str_ascii_iterator" else "str_iterator"), data := .fields #[.str z tk, .int 0 0] }
noncomputable def Sd.itr (it : Addr) (i : Nat) (h : Heap) (tk : Tok) : Sd → Prop
  | .l a => h.IsListIter it a i
  | .t a => h.IsTupleIter it a i
  | .s z => h.IsStrIter it (if z.cps.all (· < 128) then "str_ascii_iterator" else "str_iterator") z tk i
section
variable {X : Cx} {pins : List (Addr × Obj)} {σ : L2.St} {H : Hp} {s : Shared} {d : Sd} {xs : List V}
theorem Sd.inj (I : Inv X pins σ H s) {ys : List V} (h : d.at X.K H xs) (h' : d.at X.K H ys) : xs = ys := by
  cases d with
  | l a => exact I.list_inj h h'
  | t a => exact I.tuple_inj h h'
  | s z => exact h.trans h'.symm
theorem Sd.draws {it : Addr} {tk : Tok} {A : Around} (I : Inv X pins σ H s) (hh : A.handled = none) (h : d.at X.K H xs) (hn : H it = none) (hK : X.K.lookup it = none) :
    ∃ (fp : List Addr) (P : Nat → Value → Prop) (St : Nat → Heap → Prop), Draws X.prog X.w A it fp xs.length P St ∧ (∀ i x, P i x → ∃ v, xs[i]? = some v ∧ RelV v x) ∧ (∀ i h', St i h' → d.itr it i h' tk) ∧ (∀ i, d.itr it i s.heap tk → St i s.heap) ∧
      (∀ c ∈ fp, c = it ∨ (H c ≠ none ∨ ∃ o, X.K.lookup c = some o)) := by
  have nl : ∀ a : Addr, (H a ≠ none ∨ ∃ o, X.K.lookup a = some o) → a ≠ it := fun a h z => by
    subst z
    rcases h with h | ⟨o, h⟩
    · exact h hn
    · rw [hK] at h; cases h
  cases d with
  | l a =>
    obtain ⟨its, rv, pl, hz⟩ := I.list h
    have tr : H a ≠ none ∨ ∃ o, X.K.lookup a = some o := by
      rcases h with (h | ⟨o, h⟩) | ⟨o, _, _, h, _⟩
      · exact .inl (by rw [h]; simp)
      · exact .inl (by rw [h]; simp)
      · exact .inr ⟨o, h⟩
    have D := Draws.list (prog := X.prog) (w := X.w) (A := A) hh it a (nl a tr) its.toArray
    rw [List.size_toArray, ← rv.length] at D
    refine ⟨_, _, _, D, fun i x hx => ?_, fun i h' st => st.1, fun i st => ⟨st, pl.isList⟩, fun c hc => ?_⟩
    · have hx : its[i]? = some x := by simpa using hx
      have hi : i < xs.length := by rw [rv.length]; exact (List.getElem?_eq_some_iff.mp hx).1
      obtain ⟨u, hu, ru⟩ := rv.get (List.getElem?_eq_getElem hi)
      rw [hx] at hu; cases hu
      exact ⟨_, List.getElem?_eq_getElem hi, ru⟩
    · simp only [List.mem_cons, List.not_mem_nil, or_false] at hc
      rcases hc with rfl | rfl
      · exact .inl rfl
      · exact .inr tr
  | t a =>
    obtain ⟨its, rv, pl, hz⟩ := I.tuple h
    have tr : H a ≠ none ∨ ∃ o, X.K.lookup a = some o := by
      rcases h with (h | ⟨o, h⟩) | ⟨o, _, _, h, _⟩
      · exact .inl (by rw [h]; simp)
      · exact .inl (by rw [h]; simp)
      · exact .inr ⟨o, h⟩
    have D := drawT (prog := X.prog) (w := X.w) (A := A) hh it a (nl a tr) its.toArray
    rw [List.size_toArray, ← rv.length] at D
    refine ⟨_, _, _, D, fun i x hx => ?_, fun i h' st => st.1, fun i st => ⟨st, pl⟩, fun c hc => ?_⟩
    · have hx : its[i]? = some x := by simpa using hx
      have hi : i < xs.length := by rw [rv.length]; exact (List.getElem?_eq_some_iff.mp hx).1
      obtain ⟨u, hu, ru⟩ := rv.get (List.getElem?_eq_getElem hi)
      rw [hx] at hu; cases hu
      exact ⟨_, List.getElem?_eq_getElem hi, ru⟩
    · simp only [List.mem_cons, List.not_mem_nil, or_false] at hc
      rcases hc with rfl | rfl
      · exact .inl rfl
      · exact .inr tr
  | s z =>
    have h : xs = z.cps.toList.map fun c => .str ⟨#[c]⟩ := h
    subst h
    have key : ∀ (i : Nat) (x : Value), (∃ c u, z.cps[i]? = some c ∧ x = .str ⟨#[c]⟩ u) → ∃ v, (z.cps.toList.map fun c => V.str ⟨#[c]⟩)[i]? = some v ∧ RelV v x := by
      rintro i x ⟨c, u, hc, rfl⟩
      exact ⟨.str ⟨#[c]⟩, by simp [hc], ⟨u, rfl⟩⟩
    cases ha : z.cps.all (· < 128) with
    | true =>
      have D := Draws.strAscii (prog := X.prog) (w := X.w) (A := A) hh it z tk
      refine ⟨_, _, _, by simpa using D, key, fun i h' st => ?_, fun i st => ?_, fun c hc => .inl (by simpa using hc)⟩
      · show h'.IsStrIter it (if z.cps.all (· < 128) then "str_ascii_iterator" else "str_iterator") z tk i
        rw [ha]; exact st
      · have st : s.heap.IsStrIter it (if z.cps.all (· < 128) then "str_ascii_iterator" else "str_iterator") z tk i := st
        rw [ha] at st; exact st
    | false =>
      have D := Draws.strWide (prog := X.prog) (w := X.w) (A := A) hh it z tk
      refine ⟨_, _, _, by simpa using D, key, fun i h' st => ?_, fun i st => ?_, fun c hc => .inl (by simpa using hc)⟩
      · show h'.IsStrIter it (if z.cps.all (· < 128) then "str_ascii_iterator" else "str_iterator") z tk i
        rw [ha]; exact st
      · have st : s.heap.IsStrIter it (if z.cps.all (· < 128) then "str_ascii_iterator" else "str_iterator") z tk i := st
        rw [ha] at st; exact st
end
theorem Sd.itr_keep {d : Sd} {it : Addr} {i : Nat} {h h' : Heap} {t : Tok} (st : d.itr it i h t) (k : ∀ o, h.get? it = some o → h'.get? it = some o) : d.itr it i h' t := by
  cases d with
  | l a => obtain ⟨o, e, r⟩ := st; exact ⟨o, k o e, r⟩
  | t a => obtain ⟨o, e, r⟩ := st; exact ⟨o, k o e, r⟩
  | s z => obtain ⟨o, e, r⟩ := st; exact ⟨o, k o e, r⟩
theorem Sd.itr_obj {d : Sd} {it : Addr} {i : Nat} {h : Heap} {t : Tok} (st : d.itr it i h t) : ∃ o, h.get? it = some o ∧ ∀ v, o.data ≠ .cell v := by
  cases d with
  | l a => obtain ⟨o, e, c, r⟩ := st; exact ⟨o, e, fun v z => by rw [r] at z; cases z⟩
  | t a => obtain ⟨o, e, c, r⟩ := st; exact ⟨o, e, fun v z => by rw [r] at z; cases z⟩
  | s z => obtain ⟨o, e, c, r⟩ := st; exact ⟨o, e, fun v z => by rw [r] at z; cases z⟩
noncomputable def Itz (K : PySem.W.Frag) (d e : Sd) : It where
  go i H := ∃ xs ys, d.at K H xs ∧ e.at K H ys ∧ i < xs.length ∧ i < ys.length
  yld i H v H' := ∃ t x y, v = .ref t ∧ H t = none ∧ (∀ xs, d.at K H xs → xs[i]? = some x) ∧ (∀ ys, e.at K H ys → ys[i]? = some y) ∧ H' = upd H t (.tup [x, y])
  stop i H := ∃ xs ys, d.at K H xs ∧ e.at K H ys ∧ (i = xs.length ∨ (i < xs.length ∧ i = ys.length))
noncomputable def tnz (d e : Sd) (td te : Tok) (z TI TO i1 i2 : Addr) (i : Nat) (h : Heap) : Prop :=
  IsZip h z TI TO .none ∧ IsPair h TI (.ref i1) (.ref i2) ∧ (∃ a b, IsPair h TO a b) ∧ d.itr i1 i h td ∧ e.itr i2 i h te
theorem turn_zip {P : Program} {w : World} {K : PySem.W.Frag} {elts : List Expr} {k : Nat} {tp : Pos} (d e : Sd) (td te : Tok) (z TI TO i1 i2 : Addr) (ne : [z, TI, TO, i1, i2].Nodup) (hK : ∀ b ∈ [z, TI, TO, i1, i2], K.lookup b = none) :
    Turn P w K (.Tuple elts k tp) (Itz K d e) [z, TI, TO, i1, i2] z (tnz d e td te z TI TO i1 i2) where
  mem := by simp
  obj i h st b hb := by
    obtain ⟨hz, hTI, ⟨a, b', hTO⟩, h1, h2⟩ := st
    simp only [List.mem_cons, List.not_mem_nil, or_false] at hb
    rcases hb with rfl | rfl | rfl | rfl | rfl
    · exact ⟨_, hz, fun v q => by cases q⟩
    · exact ⟨_, hTI, fun v q => by cases q⟩
    · exact ⟨_, hTO, fun v q => by cases q⟩
    · exact Sd.itr_obj h1
    · exact Sd.itr_obj h2
  keep i h h' st kk := by
    obtain ⟨hz, hTI, ⟨a, b', hTO⟩, h1, h2⟩ := st
    exact ⟨kk z (by simp) _ hz, kk TI (by simp) _ hTI, ⟨a, b', kk TO (by simp) _ hTO⟩, Sd.itr_keep h1 fun o q => kk i1 (by simp) o q, Sd.itr_keep h2 fun o q => kk i2 (by simp) o q⟩
  item := by
    intro X hP hw hKX hc i pins s σ H E I hf st hg
    subst hP hw hKX
    obtain ⟨xs, ys, ax, ay, hx, hy⟩ := hg
    obtain ⟨hz, hTI, ⟨a, b, hTO⟩, h1, h2⟩ := st
    have hh : X.A.in1.handled = none := I.ok.hd hc
    have un : ∀ b ∈ [z, TI, TO, i1, i2], H b = none := fun b hb => (hf b hb).1
    obtain ⟨f1, P1, S1, D1, p1, s1, s1', q1⟩ := Sd.draws (it := i1) (tk := td) (A := X.A.in1) I hh ax (un i1 (by simp)) (hK i1 (by simp))
    obtain ⟨f2, P2, S2, D2, p2, s2, s2', q2⟩ := Sd.draws (it := i2) (tk := te) (A := X.A.in1) I hh ay (un i2 (by simp)) (hK i2 (by simp))
    have out : ∀ {fp : List Addr} {it : Addr}, (∀ c ∈ fp, c = it ∨ (H c ≠ none ∨ ∃ o, X.K.lookup c = some o)) → ∀ b ∈ [z, TI, TO, i1, i2], b ≠ it → b ∉ fp := fun q b hb hne hm => by
      rcases q b hm with h | h | ⟨o, h⟩
      · exact hne h
      · exact h (un b hb)
      · rw [hK b hb] at h; cases h
    simp only [List.nodup_cons, List.mem_cons, List.not_mem_nil, or_false, not_or, List.nodup_nil, and_true, not_false_eq_true] at ne
    obtain ⟨⟨n1, n2, n3, n4⟩, ⟨n5, n6, n7⟩, ⟨n8, n9⟩, n10⟩ := ne
    have ap : ZAp z TI TO i1 i2 f1 f2 := ⟨Ne.symm n1, Ne.symm n2, Ne.symm n3, Ne.symm n4, n5, n6, n7, n8, n9, n10, out q1 z (by simp) n3, out q1 TO (by simp) n8, out q1 i2 (by simp) (Ne.symm n10), out q2 z (by simp) n4, out q2 TO (by simp) n9, out q2 i1 (by simp) n10⟩
    have hT : s.TypeIs (.ref z) "zip" := ⟨_, hz, rfl⟩
    unfold pyNext
    refine wpAny_bind (wpAny_attempt (wpAny_callSpecial?_slot (name := Str.ofString "__next__") hT PySem.F.slot_zip_next (wpAny_call_entry PySem.F.slot_zip_next hT PySem.F.entry_zip_next (zipD_item D1 D2 ap hz hTI hTO (s1' i h1) (s2' i h2) hx hy fun x y h' tk px py hz' hTO' st1 st2 hp hk => wpAny_pure ?_) (PySem.F.args_zip_next_1 _))))
    obtain ⟨v1, e1, r1⟩ := p1 i x px
    obtain ⟨v2, e2, r2⟩ := p2 i y py
    refine ⟨_, rfl, wpAny_letOwnedTupleGo_zip hz' fun h2' hz2 hs2 => ?_⟩
    have hzlt : z < s.heap.objs.size := Heap.lt_size hz
    have Tz : s.heap.objs.size ≠ z := Nat.ne_of_gt hzlt
    have hk2 : ∀ c o, c ≠ z → c ≠ TO → c ≠ i1 → c ≠ i2 → s.heap.get? c = some o → h2'.get? c = some o := fun c o c1 c2 c3 c4 q => hs2.extBut _ _ c1 (hk c o c1 c2 c3 c4 q)
    have hp2 : IsPair h2' s.heap.objs.size x y := hs2.extBut _ _ Tz hp
    have nT : H s.heap.objs.size = none := I.hok.fresh (Nat.le_refl _)
    have trk : ∀ c u, H c = some u → c ≠ z ∧ c ≠ TO ∧ c ≠ i1 ∧ c ≠ i2 := fun c u q => by refine ⟨?_, ?_, ?_, ?_⟩ <;> (intro w; rw [w, un _ (by simp)] at q; cases q)
    have nch : ∀ c, c ∉ [z, TO, i1, i2] → c ≠ z ∧ c ≠ TO ∧ c ≠ i1 ∧ c ≠ i2 := fun c hc' => by simpa [not_or] using hc'
    have u : Un (L2.frs X.stack) [z, TO, i1, i2] H (upd H s.heap.objs.size (.tup [v1, v2])) s.heap h2' :=
      ⟨fun b o q n hf' hx' => let m := nch b hx'; hk2 b o m.1 m.2.1 m.2.2.1 m.2.2.2 q, fun b o q n hf' hx' => let m := nch b hx'; ⟨o.slots, hk2 b o m.1 m.2.1 m.2.2.1 m.2.2.2 q⟩, fun b o q n hx' => by rw [L2.upd_ne (Nat.ne_of_lt (Heap.lt_size q))]; exact n,
        fun b o q hx' => let m := nch b hx'; ⟨o, hk2 b o m.1 m.2.1 m.2.2.1 m.2.2.2 q⟩, fun b zs q => by rw [L2.upd_ne (L2.ne_of_none q nT)]; exact q, fun b o zs q => by rw [L2.upd_ne (L2.ne_of_none q nT)]; exact q, fun b ps q => ⟨#[], by rw [L2.upd_ne (L2.ne_of_none q nT), q]; simp⟩⟩
    have hok : L2.HOk X.prog X.w (upd H s.heap.objs.size (.tup [v1, v2])) h2' := fun b ob q => by
      by_cases hb : b = s.heap.objs.size
      · subst hb
        rw [L2.upd_same] at q
        cases q
        exact ⟨show 2 ≤ sizeLine by decide, [x, y], .cons r1 (.cons r2 .nil), ⟨_, hp2, rfl, _, rfl⟩⟩
      · rw [L2.upd_ne hb] at q
        refine (I.hok b ob q).stay (fun c v hcv w => ?_) (fun c w => by rw [L2.upd_ne (L2.ne_of_none w nT)]; exact w) fun c zs w => by rw [L2.upd_ne (L2.ne_of_none w nT)]; exact w
        have tc : ∃ u, H c = some u := by
          rcases hcv with rfl | hcv
          · exact ⟨_, q⟩
          · exact ⟨_, hcv⟩
        obtain ⟨u', hu'⟩ := tc
        have m := trk c u' hu'
        exact hk2 c v m.1 m.2.1 m.2.2.1 m.2.2.2 w
    have I2 : Inv X pins σ (upd H s.heap.objs.size (.tup [v1, v2])) { s with heap := h2', toks := tk } := I.call' (s' := { s with heap := h2', toks := tk }) (ch := [z, TO, i1, i2]) rfl u hok I.bare fun b hb => by
      have hb' : b ∈ [z, TI, TO, i1, i2] := by
        simp only [List.mem_cons, List.not_mem_nil, or_false] at hb ⊢
        rcases hb with h | h | h | h <;> simp [h]
      obtain ⟨_, a1, a2, a3, a4, a5⟩ := hf b hb'
      exact ⟨a3, a1, a4, a5⟩
    have ltb : ∀ b ∈ [z, TI, TO, i1, i2], b ≠ s.heap.objs.size := fun b hb => by
      have : ∃ o, s.heap.get? b = some o := by
        simp only [List.mem_cons, List.not_mem_nil, or_false] at hb
        rcases hb with rfl | rfl | rfl | rfl | rfl
        · exact ⟨_, hz⟩
        · exact ⟨_, hTI⟩
        · exact ⟨_, hTO⟩
        · exact let ⟨o, q, _⟩ := Sd.itr_obj h1; ⟨o, q⟩
        · exact let ⟨o, q, _⟩ := Sd.itr_obj h2; ⟨o, q⟩
      obtain ⟨o, q⟩ := this
      exact Nat.ne_of_lt (Heap.lt_size q)
    refine ⟨.ref s.heap.objs.size, _, I2, rfl, ⟨_, v1, v2, rfl, nT, fun xs' hx' => by rw [Sd.inj I hx' ax]; exact e1, fun ys' hy' => by rw [Sd.inj I hy' ay]; exact e2, rfl⟩, ⟨hz2, ?_, ⟨_, _, hs2.extBut _ _ (Ne.symm n2) hTO'⟩, Sd.itr_keep (s1 _ _ st1) fun o q => hs2.extBut _ _ (Ne.symm n3) q, Sd.itr_keep (s2 _ _ st2) fun o q => hs2.extBut _ _ (Ne.symm n4) q⟩, fun b hb => ?_⟩
    · exact hk2 TI _ (Ne.symm n1) n5 n6 n7 hTI
    · show upd H _ _ b = none
      rw [L2.upd_ne (ltb b hb)]; exact un b hb
  done := by
    intro X hP hw hKX hc i pins s σ H E I hf st hg
    subst hP hw hKX
    obtain ⟨xs, ys, ax, ay, hend⟩ := hg
    obtain ⟨hz, hTI, ⟨a, b, hTO⟩, h1, h2⟩ := st
    have hh : X.A.in1.handled = none := I.ok.hd hc
    have un : ∀ b ∈ [z, TI, TO, i1, i2], H b = none := fun b hb => (hf b hb).1
    obtain ⟨f1, P1, S1, D1, p1, s1, s1', q1⟩ := Sd.draws (it := i1) (tk := td) (A := X.A.in1) I hh ax (un i1 (by simp)) (hK i1 (by simp))
    obtain ⟨f2, P2, S2, D2, p2, s2, s2', q2⟩ := Sd.draws (it := i2) (tk := te) (A := X.A.in1) I hh ay (un i2 (by simp)) (hK i2 (by simp))
    have out : ∀ {fp : List Addr} {it : Addr}, (∀ c ∈ fp, c = it ∨ (H c ≠ none ∨ ∃ o, X.K.lookup c = some o)) → ∀ b ∈ [z, TI, TO, i1, i2], b ≠ it → b ∉ fp := fun q b hb hne hm => by
      rcases q b hm with h | h | ⟨o, h⟩
      · exact hne h
      · exact h (un b hb)
      · rw [hK b hb] at h; cases h
    simp only [List.nodup_cons, List.mem_cons, List.not_mem_nil, or_false, not_or, List.nodup_nil, and_true, not_false_eq_true] at ne
    obtain ⟨⟨n1, n2, n3, n4⟩, ⟨n5, n6, n7⟩, ⟨n8, n9⟩, n10⟩ := ne
    have ap : ZAp z TI TO i1 i2 f1 f2 := ⟨Ne.symm n1, Ne.symm n2, Ne.symm n3, Ne.symm n4, n5, n6, n7, n8, n9, n10, out q1 z (by simp) n3, out q1 TO (by simp) n8, out q1 i2 (by simp) (Ne.symm n10), out q2 z (by simp) n4, out q2 TO (by simp) n9, out q2 i1 (by simp) n10⟩
    have hT : s.TypeIs (.ref z) "zip" := ⟨_, hz, rfl⟩
    unfold pyNext
    refine wpAny_bind (wpAny_attempt (wpAny_callSpecial?_slot (name := Str.ofString "__next__") hT PySem.F.slot_zip_next (wpAny_call_entry PySem.F.slot_zip_next hT PySem.F.entry_zip_next (zipD_end D1 D2 ap hz hTI hTO (s1' i h1) (s2' i h2) hend fun h' tk e' hk he => ?_) (PySem.F.args_zip_next_1 _))))
    obtain ⟨o, ho, hce⟩ := he
    refine wpAny_bind (wpAny_isInstance (T := "StopIteration") (b := true) ⟨o, ho, hce⟩ isSubtype_stop (wpAny_pure ⟨rfl, ?_⟩))
    have nch : ∀ c, c ∉ [z, TO, i1, i2] → c ≠ z ∧ c ≠ TO ∧ c ≠ i1 ∧ c ≠ i2 := fun c hc' => by simpa [not_or] using hc'
    have trk : ∀ c u, H c = some u → c ≠ z ∧ c ≠ TO ∧ c ≠ i1 ∧ c ≠ i2 := fun c u q => by refine ⟨?_, ?_, ?_, ?_⟩ <;> (intro w; rw [w, un _ (by simp)] at q; cases q)
    have u : Un (L2.frs X.stack) [z, TO, i1, i2] H H s.heap h' :=
      ⟨fun b o q n hf' hx' => let m := nch b hx'; hk b o m.1 m.2.1 m.2.2.1 m.2.2.2 q, fun b o q n hf' hx' => let m := nch b hx'; ⟨o.slots, hk b o m.1 m.2.1 m.2.2.1 m.2.2.2 q⟩, fun b o q n hx' => n,
        fun b o q hx' => let m := nch b hx'; ⟨o, hk b o m.1 m.2.1 m.2.2.1 m.2.2.2 q⟩, fun b zs q => q, fun b o zs q => q, fun b ps q => ⟨#[], by rw [q]; simp⟩⟩
    exact I.call' (s' := { s with heap := h', toks := tk }) (ch := [z, TO, i1, i2]) rfl u (fun b ob q => (I.hok b ob q).stay (fun c v hcv w => by
        have tc : ∃ u, H c = some u := by
          rcases hcv with rfl | hcv
          · exact ⟨_, q⟩
          · exact ⟨_, hcv⟩
        obtain ⟨u', hu'⟩ := tc
        have m := trk c u' hu'
        exact hk c v m.1 m.2.1 m.2.2.1 m.2.2.2 w) (fun _ w => w) fun _ _ w => w) I.bare fun b hb => by
      have hb' : b ∈ [z, TI, TO, i1, i2] := by
        simp only [List.mem_cons, List.not_mem_nil, or_false] at hb ⊢
        rcases hb with h | h | h | h <;> simp [h]
      obtain ⟨_, a1, a2, a3, a4, a5⟩ := hf b hb'
      exact ⟨a3, a1, a4, a5⟩
  self _ _ _ _ _ st h := wpAny_pyIter_zip st.1 h
end PL
set_option Elab.async false
set_option linter.all false
set_option maxRecDepth 100000
set_option maxHeartbeats 1000000
namespace PL
open PySem PySem.Spec
open L2 (V Hp HO Cx PE PT PW PA PS PSs PG PGs VK TE TT TA TS TI TG Inv RelV Vals Rd SqL SqT upd Same Key XK Ends OpR UnR CallR R2 EP It Turn FpOk Un)
noncomputable def Sd.is (h : Heap) : Sd → Prop
  | .l a => ∃ xs, h.IsList a xs
  | .t a => ∃ xs, h.IsTuple a xs
  | .s _ => True
theorem Sd.is_push {h : Heap} {d : Sd} (o : Obj) (x : d.is h) : d.is (h.push o) := by
  cases d with
  | l a => obtain ⟨xs, ob, e, r⟩ := x; exact ⟨xs, ob, Heap.get?_push_of_some _ e, r⟩
  | t a => obtain ⟨xs, ob, e, r⟩ := x; exact ⟨xs, ob, Heap.get?_push_of_some _ e, r⟩
  | s z => trivial
theorem Sd.iter {prog : Program} {w : World} {A : Around} {E : Value → Shared → Prop} {s : Shared} {d : Sd} {tk : Tok} {Q : Value → Shared → Prop} (x : d.is s.heap) (h : Q (.ref s.heap.objs.size) { s with heap := s.heap.push (d.obj tk) }) :
    wpAny (model prog w) A (pyIter (d.val tk)) Q E s := by
  cases d with
  | l a => obtain ⟨xs, x⟩ := x; exact wpAny_pyIter_list x h
  | t a => obtain ⟨xs, x⟩ := x; exact wpAny_pyIter_tuple x h
  | s z =>
    have h : Q (.ref s.heap.objs.size) { s with heap := s.heap.push { cls := .type (if z.cps.all (· < 128) then "str_ascii_iterator" else "str_iterator"), data := .fields #[.str z tk, .int 0 0] } } := h
    cases ha : z.cps.all (· < 128) with
    | true => rw [ha] at h; exact wpAny_pyIter_ascii ha h
    | false => rw [ha] at h; exact wpAny_pyIter_wide ha h
noncomputable abbrev zP1 (h : Heap) (d : Sd) (td : Tok) : Heap := h.push (d.obj td)
noncomputable abbrev zP2 (h : Heap) (d e : Sd) (td te : Tok) : Heap := (zP1 h d td).push (e.obj te)
noncomputable abbrev zP3 (h : Heap) (d e : Sd) (td te : Tok) : Heap := (zP2 h d e td te).push { cls := .type "tuple", data := .seq #[.ref h.objs.size, .ref (zP1 h d td).objs.size] }
noncomputable abbrev zP4 (h : Heap) (d e : Sd) (td te : Tok) : Heap := (zP3 h d e td te).push { cls := .type "tuple", data := .seq #[.none, .none] }
noncomputable abbrev zP5 (h : Heap) (d e : Sd) (td te : Tok) : Heap := (zP4 h d e td te).push { cls := .type "zip", data := .fields #[.none, .bool false, .bool false, .ref (zP2 h d e td te).objs.size, .ref (zP3 h d e td te).objs.size] }
theorem zip_new_any (d e : Sd) (td te : Tok) : Meets (Builtin.«zip.__new__» ⟨[.type "zip", d.val td, e.val te], []⟩) (fun _ R s => d.is s.heap ∧ e.is s.heap ∧ R (.ok (.ret (.ref (zP4 s.heap d e td te).objs.size))) { s with heap := zP5 s.heap d e td te }) :=
  .of_wp fun prog w A R s h => by
    obtain ⟨hp, g, dr, tk, os⟩ := s; obtain ⟨h1, h2, h⟩ := h
    have hsub := sub_zip
    have a1 : d.is (Shared.heap ⟨hp, g, dr, tk, os⟩) := h1
    have a2 : e.is (Shared.heap ⟨hp.push (d.obj td), g, dr, tk, os⟩) := Sd.is_push _ h2
    wp_walk using Sd.iter a1, Sd.iter a2
    exact ⟨_, rfl, h⟩
section
variable {X : Cx} {M : Md} {G H H' : Hp} {F0 F F' : Addr → Prop} {σ : L2.St} {ρ : En} {pos : Pos} {pins : List (Addr × Obj)} {s : Shared}
theorem Sd.at_is {d : Sd} {xs : List V} (I : Inv X pins σ H s) (h : d.at X.K H xs) : d.is s.heap := by
  cases d with
  | l a => obtain ⟨its, _, pl, _⟩ := I.list h; exact ⟨_, pl.isList⟩
  | t a => obtain ⟨its, _, pl, _⟩ := I.tuple h; exact ⟨_, pl⟩
  | s z => trivial
noncomputable def iZp (K : PySem.W.Frag) (ta : TA) : TI := fun σ H R => ta σ H fun vs H1 => ∃ (x y : V) (d e : Sd) (xs ys : List V), vs = [x, y] ∧ (∀ u, RelV x u → ∃ tk, u = d.val tk) ∧ (∀ u, RelV y u → ∃ tk, u = e.val tk) ∧ d.at K H1 xs ∧ e.at K H1 ys ∧ R (Itz K d e) H1
theorem bt_zip : bootBuiltins "zip" = some (.type "zip") := by decide +kernel
theorem pi_zip {elts : List Expr} {k : Nat} {tp : Pos} {a b : Expr} {ta : TA} {p : Pos} (hg : L2.Gl X "zip") (hm : X.mg "zip" = none) (ha : PA X [a, b] ta) (hs : starEach [a, b] X.env = (false, eval a X.env) :: starEach [b] X.env) (hs2 : starEach [b] X.env = (false, eval b X.env) :: starEach [] X.env) :
    L2.PI X (.Tuple elts k tp) (.Call (.Name "zip" p) [a, b] [] pos) (iZp X.K ta) := by
  intro pins s σ H R I h
  refine PyProof.Rows.Call_ (L2.ld_blt I hg hm bt_zip (PyProof.Rows.callWith_type1 (L2.thn (ha pos pins s σ H _ I h) fun us s1 ⟨vs, H1, I1, r1, q1⟩ => ?_) hs (by rw [hs2]; rfl)))
  obtain ⟨x, y, d, e, xs, ys, rfl, hx, hy, ax, ay, q⟩ := q1
  obtain ⟨u1, u2, rfl, ru1, ru2⟩ := L2.vals2 r1
  obtain ⟨td, rfl⟩ := hx u1 ru1
  obtain ⟨te, rfl⟩ := hy u2 ru2
  refine callType_new PySem.F.called_zip (by decide) (PySem.F.typeCall_zip_2 _ _) (PySem.F.newCall_zip_2 _ _) (fun obj => PySem.F.args_object_init_3 obj _ _) PySem.F.entry_zip_new (zip_new_any d e td te) ⟨Sd.at_is I1 ax, Sd.at_is I1 ay, ?_⟩
  have z1 : (zP1 s1.heap d td).objs.size = s1.heap.objs.size + 1 := Heap.size_push ..
  have z2 : (zP2 s1.heap d e td te).objs.size = s1.heap.objs.size + 2 := by rw [Heap.size_push, z1]
  have z3 : (zP3 s1.heap d e td te).objs.size = s1.heap.objs.size + 3 := by rw [Heap.size_push, z2]
  have z4 : (zP4 s1.heap d e td te).objs.size = s1.heap.objs.size + 4 := by rw [Heap.size_push, z3]
  have nf : ∀ (d : Sd) tk, (d.obj tk).isFreed = false := fun d tk => by cases d <;> rfl
  have g5 : (zP5 s1.heap d e td te).get? (zP4 s1.heap d e td te).objs.size = some _ := Heap.get?_push_size _ rfl
  have g4 : (zP5 s1.heap d e td te).get? (zP3 s1.heap d e td te).objs.size = some _ := Heap.get?_push_of_some _ (Heap.get?_push_size _ rfl)
  have g3 : (zP5 s1.heap d e td te).get? (zP2 s1.heap d e td te).objs.size = some _ := Heap.get?_push_of_some _ (Heap.get?_push_of_some _ (Heap.get?_push_size _ rfl))
  have g2 : (zP5 s1.heap d e td te).get? (zP1 s1.heap d td).objs.size = some (e.obj te) := Heap.get?_push_of_some _ (Heap.get?_push_of_some _ (Heap.get?_push_of_some _ (Heap.get?_push_size _ (nf e te))))
  have g1 : (zP5 s1.heap d e td te).get? s1.heap.objs.size = some (d.obj td) := Heap.get?_push_of_some _ (Heap.get?_push_of_some _ (Heap.get?_push_of_some _ (Heap.get?_push_of_some _ (Heap.get?_push_size _ (nf d td)))))
  have old : ∀ c o, s1.heap.get? c = some o → (zP5 s1.heap d e td te).get? c = some o := fun c o x => Heap.get?_push_of_some _ (Heap.get?_push_of_some _ (Heap.get?_push_of_some _ (Heap.get?_push_of_some _ (Heap.get?_push_of_some _ x))))
  rw [z2, z3, z4] at g5
  rw [z1, z2] at g3
  rw [z3] at g4
  rw [z1] at g2
  show _ ∧ _
  rw [z4]
  refine ⟨⟨_, g5, rfl⟩, wpAny_pyIter_zip g5 ?_⟩
  have I2 : Inv X pins σ H1 { s1 with heap := zP5 s1.heap d e td te } := I1.kept (t' := s1.toks) old
  have hK : ∀ b, s1.heap.objs.size ≤ b → X.K.lookup b = none := fun b hb => by
    cases q : X.K.lookup b with
    | none => rfl
    | some o => exact absurd (Nat.lt_of_lt_of_le (Heap.lt_size (I1.kIn b o q)) hb) (Nat.lt_irrefl _)
  have itr0 : ∀ {d : Sd} {it : Addr} {tk : Tok} {h : Heap}, h.get? it = some (d.obj tk) → d.itr it 0 h tk := fun {d it tk h} q => by
    cases d with
    | l a => exact ⟨_, q, rfl, rfl⟩
    | t a => exact ⟨_, q, rfl, rfl⟩
    | s z => exact ⟨_, q, rfl, rfl⟩
  refine ⟨s1.heap.objs.size + 4, [s1.heap.objs.size + 4, s1.heap.objs.size + 2, s1.heap.objs.size + 3, s1.heap.objs.size, s1.heap.objs.size + 1], _, _, H1, rfl, I2, turn_zip d e td te _ _ _ _ _ ?_ ?_, ⟨g5, g3, ⟨_, _, g4⟩, itr0 g1, itr0 g2⟩, fun b hb => ?_, q⟩
  · simp
  · intro b hb
    refine hK b ?_
    simp only [List.mem_cons, List.not_mem_nil, or_false] at hb
    rcases hb with rfl | rfl | rfl | rfl | rfl <;> omega
  · have hb' : s1.heap.objs.size ≤ b := by
      simp only [List.mem_cons, List.not_mem_nil, or_false] at hb
      rcases hb with rfl | rfl | rfl | rfl | rfl <;> omega
    exact I1.fpOk hb' (I1.hok.fresh hb')
theorem sd_of {d : D} {ds : List D} {x : V} (e : items d = .ok ds) (r : Rep M H F d x) : ∃ (q : Sd) (xs : List V), (∀ u, RelV x u → ∃ tk, u = q.val tk) ∧ Reps M H F ds xs ∧ ∀ H' F', Mv F H F' H' → q.at M.K H' xs := by
  unfold items at e
  split at e
  · cases e
    simp only [Rep] at r
    obtain ⟨a, xs, rfl, h, rs⟩ := r
    exact ⟨.l a, xs, fun u ru => ⟨0, ru⟩, rs, fun H' F' m => (h.mv m).sq⟩
  · cases e
    simp only [Rep] at r
    obtain ⟨a, xs, rfl, h, rs⟩ := r
    exact ⟨.t a, xs, fun u ru => ⟨0, ru⟩, rs, fun H' F' m => (h.mv m).sq⟩
  · rename_i z
    cases e
    cases rep_str r
    refine ⟨.s z, z.cps.toList.map fun c => .str ⟨#[c]⟩, fun u ⟨tk, ru⟩ => ⟨tk, ru⟩, ?_, fun _ _ _ => rfl⟩
    generalize z.cps.toList = l
    induction l with
    | nil => exact Reps.nil
    | cons c l ih => exact Reps.cons rep_str_mk ih
  · cases e
theorem zipD_len : ∀ {xs ys : List D}, (zipD xs ys).length = min xs.length ys.length
  | [], _ => by simp
  | _ :: _, [] => by simp
  | x :: xs, y :: ys => by simp [zipD_len (xs := xs) (ys := ys)]
theorem zipD_get : ∀ {xs ys : List D} {i : Nat} {d : D}, (zipD xs ys)[i]? = some d → ∃ x y, d = .tup [x, y] ∧ xs[i]? = some x ∧ ys[i]? = some y
  | [], _, _, _, h => by simp at h
  | _ :: _, [], _, _, h => by simp at h
  | x :: xs, y :: ys, 0, d, h => by simp at h; exact ⟨x, y, h.symm, rfl, rfl⟩
  | x :: xs, y :: ys, i + 1, d, h => by
    have h : (zipD xs ys)[i]? = some d := by simpa using h
    obtain ⟨a, b, h1, h2, h3⟩ := zipD_get h
    exact ⟨a, b, h1, by simpa using h2, by simpa using h3⟩
theorem gives_zip {q r : Sd} {xs ys : List V} {ds es : List D} (h1 : ∀ H' F', Mv F H F' H' → q.at M.K H' xs) (h2 : ∀ H' F', Mv F H F' H' → r.at M.K H' ys) (rs : Reps M H F ds xs) (ss : Reps M H F es ys)
    (inj1 : ∀ H' F' zs, Mv F H F' H' → q.at M.K H' zs → True) : Gives M (Itz M.K q r) H F (zipD ds es) := by
  intro H' F' mv tr
  have a1 := h1 H' F' mv
  have a2 := h2 H' F' mv
  have rs' := rs.mv mv
  have ss' := ss.mv mv
  refine ⟨fun i d hd => ?_, ?_⟩
  · obtain ⟨x, y, rfl, hx, hy⟩ := zipD_get hd
    obtain ⟨vx, ex, rx⟩ := rs'.get hx
    obtain ⟨vy, ey, ry⟩ := ss'.get hy
    refine ⟨⟨xs, ys, a1, a2, (List.getElem?_eq_some_iff.mp ex).1, (List.getElem?_eq_some_iff.mp ey).1⟩, fun v H2 hv => ?_⟩
    obtain ⟨t, wx, wy, rfl, ht, g1, g2, rfl⟩ := hv
    have q1 := g1 xs a1
    have q2 := g2 ys a2
    rw [ex] at q1
    rw [ey] at q2
    cases q1
    cases q2
    exact ⟨Same.upd_new ht _, rep_tup_new tr ht (Reps.cons rx (Reps.cons ry Reps.nil))⟩
  · refine ⟨xs, ys, a1, a2, ?_⟩
    rw [zipD_len, rs.length, ss.length]
    omega
theorem ji_zip {elts : List Expr} {k : Nat} {tp : Pos} {a b : Expr} {fa fb : Ex} {p : Pos} (hg : L2.Gl X "zip") (hm : X.mg "zip" = none) (ha : JE X a fa) (hb : JE X b fb) (hs : starEach [a, b] X.env = (false, eval a X.env) :: starEach [b] X.env) (hs2 : starEach [b] X.env = (false, eval b X.env) :: starEach [] X.env) :
    JI X (.Tuple elts k tp) (.Call (.Name "zip" p) [a, b] [] pos) (iZip fa fb) :=
  PI_imp (pi_zip hg hm (ja_cons ha (ja_cons hb ja_nil hs2) hs) hs hs2) fun σ H Q ⟨ρ, F, ds, r, e, q⟩ => by
    obtain ⟨d1, ed1, e⟩ := bind_ok_iff.mp e
    obtain ⟨d2, ed2, e⟩ := bind_ok_iff.mp e
    obtain ⟨xs, exs, e⟩ := bind_ok_iff.mp e
    obtain ⟨ys, eys, e⟩ := bind_ok_iff.mp e
    cases e
    refine ⟨ρ, F, [d1, d2], r, by show (fa ρ).bind _ = _; rw [ed1]; show ((fb ρ).bind _).bind _ = _; rw [ed2]; rfl, fun vs H1 s1 rv => ?_⟩
    obtain ⟨x, y, rfl, rx, ry⟩ := rv.two
    obtain ⟨sd1, vx, u1, rr1, at1⟩ := sd_of exs rx
    obtain ⟨sd2, vy, u2, rr2, at2⟩ := sd_of eys ry
    exact ⟨x, y, sd1, sd2, vx, vy, rfl, u1, u2, at1 H1 F Mv.refl, at2 H1 F Mv.refl, q _ H1 s1 (gives_zip (M := mdOf X) at1 at2 rr1 rr2 fun _ _ _ _ _ => trivial)⟩
end
end PL
set_option Elab.async false
set_option linter.all false
set_option maxRecDepth 100000
namespace PL
open PySem PySem.Spec
open L2 (V Hp HO Cx Inv RelV Vals Rd SqL SqT upd Same Key)
noncomputable def FlatD : D → Value → Prop
  | .non, u => u = .none
  | .bl b, u => u = .bool b
  | .int i, u => ∃ t, u = .int i t
  | .str x, u => ∃ t, u = .str x t
  | _, _ => False
theorem flatD_rel {d : D} {u : Value} (h : FlatD d u) : ∃ v, RelV v u ∧ ∀ (M : Md) H F, Rep M H F d v := by
  cases d with
  | non => exact ⟨.non, h, fun _ _ _ => rep_non_mk⟩
  | bl b => exact ⟨.bl b, h, fun _ _ _ => rep_bl_mk⟩
  | int i => exact ⟨.int i, h, fun _ _ _ => rep_int_mk⟩
  | str x => exact ⟨.str x, h, fun _ _ _ => rep_str_mk⟩
  | _ => exact h.elim
noncomputable def FlatDs : List D → List Value → Prop
  | [], us => us = []
  | d :: ds, us => ∃ u r, us = u :: r ∧ FlatD d u ∧ FlatDs ds r
theorem flatDs_rel : ∀ {ds : List D} {us : List Value}, FlatDs ds us → ∃ xs, Vals xs us ∧ ∀ (M : Md) H F, Reps M H F ds xs
  | [], _, h => by cases h; exact ⟨[], .nil, fun _ _ _ => Reps.nil⟩
  | d :: ds, _, h => by
    obtain ⟨u, r, rfl, h1, h2⟩ := h
    obtain ⟨v, rv, hv⟩ := flatD_rel h1
    obtain ⟨xs, rs, hs⟩ := flatDs_rel h2
    exact ⟨v :: xs, .cons rv rs, fun M H F => Reps.cons (hv M H F) (hs M H F)⟩
noncomputable def DM (w : World) : List DictEntry → List Ky → List D → Prop
  | [], ks, ds => ks = [] ∧ ds = []
  | e :: es, ks, ds => ∃ s t k' d ds', e.key = .str s t ∧ ks = .inr s :: k' ∧ ds = d :: ds' ∧ e.hash = PyData.keyHash w.params s ∧ FlatD d e.val ∧ DM w es k' ds'
theorem dm_pairs {P : Program} {w : World} : ∀ {es : List DictEntry} {ks : List Ky} {ds : List D}, DM w es ks ds → ∃ (xs : List V) (vs : List (Key × Value)), Pairs (L2.mixKind P w) es vs ∧ L2.KV (ks.zip xs) vs ∧ vs.map (·.1) = ks ∧ ks.length = xs.length ∧ (∀ (M : Md) H F, Reps M H F ds xs) ∧
    ∀ e ∈ es, ∃ k, (L2.mixKind P w).is k e.key = true ∧ e.hash = (L2.mixKind P w).hash k
  | [], _, _, h => by
    obtain ⟨rfl, rfl⟩ := h
    exact ⟨[], [], .nil, .nil, rfl, rfl, fun _ _ _ => Reps.nil, fun e he => nomatch he⟩
  | e :: es, _, _, h => by
    obtain ⟨s, t, k', d, ds', hk, rfl, rfl, hh, hf, hr⟩ := h
    obtain ⟨xs, vs, h1, h2, h3, h4, h5, h6⟩ := dm_pairs (P := P) hr
    obtain ⟨v, rv, hv⟩ := flatD_rel hf
    refine ⟨v :: xs, (.inr s, e.val) :: vs, .cons (by rw [hk]; exact L2.mixKind_str P w s t) rfl h1, .cons ⟨rfl, rv⟩ h2, by simp [h3], by simp [h4], fun M H F => Reps.cons (hv M H F) (h5 M H F), fun e' he => ?_⟩
    rcases List.mem_cons.mp he with rfl | he
    · exact ⟨.inr s, by rw [hk]; exact L2.mixKind_str P w s t, hh⟩
    · exact h6 e' he
section
variable {P : Program} {w : World} {K : PySem.W.Frag} {h : Heap} {mg : Str → Option Value} {x : Str}
theorem gl_dict {a : Addr} {es : Array DictEntry} {ep : Nat} {ks : List Ky} {ds : List D} (X : K.In h) (G : h.Ns mainGlobals mg) (e1 : PySem.W.nsIn K mainGlobals x = some (some (.ref a))) (e2 : K.lookup a = some { cls := .type "dict", data := .dict es ep })
    (hm : DM w es.toList ks ds) (hn : ks.Nodup) (hl : ks.length ≤ 1000) (ne : (a == sysModules) = false) : GlD P w K mg x (.dct ks ds) := by
  obtain ⟨xs, vs, h1, h2, h3, h4, h5, h6⟩ := dm_pairs (P := P) hm
  refine ⟨.ref a, .ref a, PySem.W.mg_of X G e1, rfl, fun H F => ?_⟩
  simp only [Rep]
  refine ⟨a, xs, rfl, .inr ⟨_, es, ep, vs, e2, ⟨rfl, rfl, rfl⟩, rfl, fun e he => h6 e (by simpa using he), h1, by rw [h3]; exact hn, h2, ?_, ne⟩, h4, h5 _ H F⟩
  rw [List.length_zip, ← h4, Nat.min_self]
  exact Nat.le_trans hl (by decide)
theorem gl_tup {a : Addr} {its : Array Value} {n : Nat} {ds : List D} (X : K.In h) (G : h.Ns mainGlobals mg) (e1 : PySem.W.nsIn K mainGlobals x = some (some (.ref a))) (e2 : K.lookup a = some { cls := .type "tuple", data := .seq its n })
    (hm : FlatDs ds its.toList) (hl : its.size ≤ 1000) : GlD P w K mg x (.tup ds) := by
  obtain ⟨xs, h1, h2⟩ := flatDs_rel hm
  refine ⟨.ref a, .ref a, PySem.W.mg_of X G e1, rfl, fun H F => ?_⟩
  simp only [Rep]
  exact ⟨a, xs, rfl, .inr ⟨_, its, n, e2, rfl, rfl, Nat.le_trans hl (by decide), h1⟩, h2 _ H F⟩
theorem gl_flat {u : Value} {d : D} (X : K.In h) (G : h.Ns mainGlobals mg) (e1 : PySem.W.nsIn K mainGlobals x = some (some u)) (hm : FlatD d u) : GlD P w K mg x d := by
  obtain ⟨v, rv, hv⟩ := flatD_rel hm
  exact ⟨v, u, PySem.W.mg_of X G e1, rv, fun H F => hv _ H F⟩
end
end PL
set_option linter.all false
namespace PL
open PySem
@[simp] noncomputable def oFindT : D → D → R D
  | .str y, .str x => .ok (.int (Txt.find y x))
  | _, _ => .bad
@[simp] noncomputable def oIndexT : D → D → R D
  | .tup ys, x => if flat x = true ∧ ys.all flat = true then indexD x 0 ys else .bad
  | _, _ => .bad
end PL
set_option Elab.async false
set_option linter.all false
set_option maxRecDepth 100000
set_option maxHeartbeats 1000000
namespace PL
open PySem PySem.Spec
open L2 (V Hp HO Cx PE PT PW PA PS PSs PG PGs VK TE TT TA TS TI TG Inv RelV Vals Rd SqL SqT upd Same Key XK Ends OpR UnR CallR R2 EP It Turn FpOk Un)
section
variable {X : Cx} {M : Md} {G H H' : Hp} {F0 F F' : Addr → Prop} {σ : L2.St} {ρ : En} {pos : Pos} {pins : List (Addr × Obj)} {s : Shared}
theorem je_find {o e : Expr} {fo fe : Ex} {apos cpos : Pos} (ho : JE X o fo) (he : JE X e fe) (m : L2.M1 X o "find" apos e cpos) : JE X (.Call (.Attribute o "find" apos) [e] [] cpos) (e2 oFindT fo fe) := by
  intro pins s σ H Q I ⟨ρ, F, d, hr, e, q⟩
  obtain ⟨a, ea, e⟩ := bind_ok_iff.mp e
  obtain ⟨b, eb, e⟩ := bind_ok_iff.mp e
  refine wpAny_Call_method m.base m.few m.line PySem.F.plainAttrs_str PySem.F.slot_str_find PySem.F.type_str_find (L2.thn (ho pins s σ H _ I ⟨ρ, F, a, hr, ea, fun v H1 s1 rv => (⟨s1, rv⟩ : Same H H1 ∧ Rep (mdOf X) H1 F a v)⟩) fun u s1 ⟨x, H1, I1, rx, sm1, ra⟩ => ?_)
  cases a with
  | str y =>
    cases b with
    | str z =>
      cases e
      cases rep_str ra
      obtain ⟨t, rfl⟩ := rx
      refine ⟨typeIs_str s1 y t, (fun _ e => nomatch e), ?_⟩
      rw [m.trees]
      refine Calls.callWith_builtin rfl (Calls.evalArgs_plain (Calls.spliced_cons (L2.thn (he pins s1 σ H1 _ I1 ⟨ρ, F, .str z, hr.same sm1, eb, fun v H2 s2 rv => (⟨s2, rv⟩ : Same H1 H2 ∧ Rep (mdOf X) H2 F (.str z) v)⟩) fun iv s2 ⟨w, H2, I2, rw', sm2, rb⟩ => Calls.spliced_nil ?_)))
      cases rep_str rb
      obtain ⟨t', rfl⟩ := rw'
      exact SC.find ⟨.int _, H2, I2.tok _, ⟨_, rfl⟩, q _ _ (sm1.trans sm2) rep_int_mk⟩
    | _ => cases e
  | _ => cases e
theorem RepS.fresh {p : Addr} {o : HO} (r : RepS M H F σ ρ) (hp : H p = none) : RepS M (upd H p o) (fun b => F b ∨ b = p) σ ρ := by
  have ne : ∀ b u, H b = some u → b ≠ p := fun b u e z => by subst z; rw [hp] at e; cases e
  have mv : Mv F H (fun b => F b ∨ b = p) (upd H p o) := fun b u n e => ⟨fun h => h.elim n (ne b u e), by rw [L2.upd_ne (ne b u e)]; exact e⟩
  have sm : Same H (upd H p o) := Same.upd_new hp _
  exact ⟨r.len, fun b f => by
    by_cases hb : b = p
    · subst hb; exact ⟨_, L2.upd_same⟩
    · obtain ⟨u, hu⟩ := r.trk b (f.resolve_right hb); exact ⟨u, sm _ _ hu⟩,
    fun i d e => let ⟨v, h1, h2⟩ := r.sh i d e; ⟨v, h1, h2.mv mv⟩,
    fun i ds e => let ⟨a, xs, e1, f, e2, q⟩ := r.ol i ds e; ⟨a, xs, e1, .inl f, sm _ _ e2, q.mv mv⟩,
    fun i ks ds e => let ⟨a, xs, e1, f, e2, l, q⟩ := r.od i ks ds e; ⟨a, xs, e1, .inl f, sm _ _ e2, l, q.mv mv⟩,
    r.dis, r.on.mv mv (fun j xss e => ⟨e, rfl⟩) (fun j xss b u e hb f hu => ⟨.inl f, sm _ _ hu⟩) fun j xss b e hb k ok => (r.on j xss e).2.1 b hb k ok⟩
noncomputable def JP (X : Cx) (pos : Pos) (keys : List (Option Expr)) (values : List Expr) (ks : List Ky) (fs : List Ex) : Prop :=
  ∃ trs, L2.PPs X pos keys values trs ∧ ∀ (F : Addr → Prop) (σ : L2.St) (H : Hp) (ρ : En) (ds : List D) (Q : List (V × V) → Hp → Prop), RepS (mdOf X) H F σ ρ → eList fs ρ = .ok ds →
    (∀ xs H', Same H H' → Reps (mdOf X) H' F ds xs → Q ((ks.zip xs).map fun kv => (L2.kV kv.1, kv.2)) H') → L2.tPairs trs σ H Q
theorem jp_nil : JP X pos [] [] [] [] := ⟨[], L2.pps_nil, fun F σ H ρ ds Q r e q => by cases e; exact q [] H (Same.refl H) Reps.nil⟩
theorem jp_cons {k v : Expr} {z : Str} {f : Ex} {keys : List (Option Expr)} {values : List Expr} {ks : List Ky} {fs : List Ex} (hk : JE X k (eC (.str z))) (hv : JE X v f) (hr : JP X pos keys values ks fs) : JP X pos (some k :: keys) (v :: values) (.inr z :: ks) (f :: fs) := by
  obtain ⟨trs, h, g⟩ := hr
  refine ⟨_, L2.pps_cons hk hv h, fun F σ H ρ ds Q r e q => ?_⟩
  obtain ⟨a, ea, e⟩ := bind_ok_iff.mp e
  obtain ⟨as, eas, e⟩ := bind_ok_iff.mp e
  cases e
  refine ⟨ρ, F, .str z, r, rfl, fun x H1 s1 rx => ⟨ρ, F, a, r.same s1, ea, fun y H2 s2 ry => g F σ H2 ρ as _ ((r.same s1).same s2) eas fun xs H3 s3 rs => ?_⟩⟩
  cases rep_str rx
  exact q (y :: xs) H3 ((s1.trans s2).trans s3) (Reps.cons (ry.mv (.same s3)) rs)
theorem putK_new {kvs : List (Key × V)} {k : Key} {v : V} (h : k ∉ kvs.map (·.1)) : L2.putK kvs k v = kvs ++ [(k, v)] := by
  unfold L2.putK
  rw [if_neg]
  intro h1
  rw [List.any_eq_true] at h1
  obtain ⟨kv, hm, hk⟩ := h1
  exact h (List.mem_map.mpr ⟨kv, hm, by simpa using hk⟩)
theorem mergeK_new : ∀ {more kvs : List (Key × V)}, (kvs.map (·.1) ++ more.map (·.1)).Nodup → L2.mergeK kvs more = kvs ++ more
  | [], kvs, _ => by show kvs = _; rw [List.append_nil]
  | p :: r, kvs, h => by
    show L2.mergeK (L2.putK kvs p.1 p.2) r = _
    have hp : p.1 ∉ kvs.map (·.1) := fun hm => by
      rw [List.map_cons, List.nodup_append] at h
      exact h.2.2 _ hm _ List.mem_cons_self rfl
    rw [putK_new hp, mergeK_new (by simpa using h), List.append_assoc]
    rfl
theorem je_dict {keys : List (Option Expr)} {values : List Expr} {ks : List Ky} {fs : List Ex} (h : JP X pos keys values ks fs) (hall : keys.all (·.isSome) = true) (hl : keys.length = values.length) (h0 : keys ≠ []) (h15 : keys.length ≤ 15) (hk : ks.length = fs.length) (hk15 : ks.length ≤ 15) (hn : ks.Nodup) : JE X (.Dict keys values pos) (eDict ks fs) := by
  obtain ⟨trs, hp, g⟩ := h
  refine PE_imp (L2.pe_disp hp hall hl h0 h15) fun σ H Q ⟨ρ, F, d, hr, e, q⟩ => ?_
  obtain ⟨as, ea, e⟩ := bind_ok_iff.mp e
  cases e
  intro p hp
  have hfr := hr.fresh (o := .dK []) hp
  refine g _ σ _ ρ as _ hfr ea fun xs H2 s2 rs => ?_
  have hlx : ks.length = xs.length := by rw [← rs.length, eList_len ea, hk]
  have e2 : H2 p = some (.dK []) := s2 _ _ L2.upd_same
  have hm : L2.mergeK [] (ks.zip xs) = ks.zip xs := by
    rw [mergeK_new (by simp only [List.map_nil, List.nil_append]; rw [show (ks.zip xs).map (·.1) = ks from by rw [List.map_fst_zip]; omega]; exact hn)]
    rfl
  refine ⟨e2, ks.zip xs, rfl, by rw [List.length_zip]; omega, ?_⟩
  rw [hm]
  have sm : Same H (upd H2 p (.dK (ks.zip xs))) := fun b u e => by
    have ne : b ≠ p := fun z => by subst z; rw [hp] at e; cases e
    rw [L2.upd_ne ne]
    exact s2 _ _ (by rw [L2.upd_ne ne]; exact e)
  have nF : ¬ F p := not_own hr.trk hp
  have mv : Mv (fun b => F b ∨ b = p) H2 F (upd H2 p (.dK (ks.zip xs))) := fun b u n e => ⟨fun h => n (.inl h), by rw [L2.upd_ne (fun z => n (.inr z))]; exact e⟩
  refine q _ _ sm ?_
  simp only [Rep]
  exact ⟨p, xs, rfl, .inl ⟨nF, .inl L2.upd_same⟩, hlx, rs.mv mv⟩
end
end PL
set_option Elab.async false
set_option linter.all false
set_option maxRecDepth 100000
set_option maxHeartbeats 1000000
namespace PL
open PySem PySem.Spec
open L2 (V Hp HO Cx PE PT PW PA PS PSs PG PGs VK TE TT TA TS TI TG Inv RelV Vals Rd SqL SqT upd Same Key XK Ends OpR UnR CallR R2 EP It Turn FpOk Un)
theorem indexD_ok {x : D} : ∀ {ys : List D} {k : Nat} {d : D}, indexD x k ys = .ok d → ∃ j, d = .int ((k + j : Nat) : Int) ∧ j < ys.length ∧ ∀ m y, ys[m]? = some y → (m = j → eqD y x = true) ∧ (m < j → eqD y x = false)
  | [], _, _, h => by cases h
  | y :: ys, k, d, h => by
    unfold indexD at h
    split at h
    · rename_i he
      cases h
      refine ⟨0, by simp, by simp, fun m z hz => ⟨fun hm => ?_, fun hm => by omega⟩⟩
      subst hm
      simp at hz; subst hz; exact he
    · rename_i he
      obtain ⟨j, rfl, hj, hh⟩ := indexD_ok h
      refine ⟨j + 1, by congr 2; omega, by simp; omega, fun m z hz => ?_⟩
      cases m with
      | zero => simp at hz; subst hz; exact ⟨fun h => by omega, fun _ => by simpa using he⟩
      | succ m =>
        have := hh m z (by simpa using hz)
        exact ⟨fun h => this.1 (by omega), fun h => this.2 (by omega)⟩
theorem meets_tuple_index (p : Addr) (its : Array Value) (o : Obj) (n : Nat) (x : Value) (e : Value → Bool) (j : Nat) (hj : j < its.size) (hh : ∀ m y, its[m]? = some y → (m = j → e y = true) ∧ (m < j → e y = false)) :
    Meets (Builtin.«tuple.index» { pos := [.ref p, x] }) fun A R s => s.heap.get? p = some o ∧ o.data = .seq its n ∧ (∀ y, y ∈ its → SeqAt.EqAt A.in1 s y x (e y)) ∧ R (.ok (.ret (.int j s.toks))) { s with toks := s.toks + 1 } := by
  refine Meets.of_wp fun prog w A R s ⟨h, hd, heq, hR⟩ => ?_
  unfold Builtin.«tuple.index»
  refine wpAny_bind ?_
  show wpAny _ _ (pure (Value.ref p, [x])) _ _ _
  refine wpAny_pure ?_
  refine wpAny_bind (wpAny_tupleItemsOf h hd ?_)
  dsimp only
  refine wpAny_bind (wpAny_pure (wpAny_bind (wpAny_pure (wpAny_bind ?_))))
  rw [Std.Legacy.Range.forIn_eq_forIn_range']
  refine wpAny_forIn_list _ (fun l b s' => s' = s ∧ ∃ k, l = List.range' k (its.size - k) ∧ k ≤ j) _ ?_ ?_ _ _ ⟨rfl, 0, by simp [Std.Legacy.Range.size], Nat.zero_le _⟩
  · rintro i rest b s' ⟨rfl, k, hl, hk⟩
    have e1 : its.size - k = (its.size - (k + 1)) + 1 := by omega
    rw [e1, List.range'_succ] at hl
    cases hl
    have hy : its[i]? = some its[i] := Array.getElem?_eq_getElem (by omega)
    rw [hy]
    dsimp only
    refine wpAny_bind (heq its[i] (Array.getElem_mem _) prog w _ _ ?_)
    by_cases hij : i = j
    · have : e its[i] = true := (hh i _ hy).1 hij
      rw [this, if_pos rfl]
      subst hij
      refine wpAny_bind (wpAny_bind (wpAny_mkInt (wpAny_pure (wpAny_pure ?_))))
      exact wpAny_pure ⟨_, rfl, hR⟩
    · have : e its[i] = false := (hh i _ hy).2 (by omega)
      rw [this, if_neg (by decide)]
      exact wpAny_pure ⟨rfl, i + 1, rfl, by omega⟩
  · rintro b s' ⟨rfl, k, hl, hk⟩
    have : (List.range' k (its.size - k)).length = 0 := by rw [← hl]; rfl
    rw [List.length_range'] at this
    omega
section
variable {X : Cx} {M : Md} {G H H' : Hp} {F0 F F' : Addr → Prop} {σ : L2.St} {ρ : En} {pos : Pos} {pins : List (Addr × Obj)} {s : Shared}
theorem reps_eqU : ∀ {ds : List D} {vs : List V} {us : List Value} {b : D} {y : V}, ds.all flat = true → flat b = true → Reps M H F ds vs → Rep M H F b y → Vals vs us → us.length = ds.length ∧ ∀ (m : Nat) d u, ds[m]? = some d → us[m]? = some u → L2.eqU y u = eqD d b
  | [], _, _, _, _, _, _, r, _, v => by
    simp only [Reps] at r; subst r; cases v
    exact ⟨rfl, fun m d u h => by simp at h⟩
  | d :: ds, _, _, b, y, f, fb, r, rb, v => by
    rw [List.all_cons, Bool.and_eq_true] at f
    simp only [Reps] at r
    obtain ⟨x, t, rfl, r1, r2⟩ := r
    cases v with
    | cons rv rvs =>
      obtain ⟨h1, h2⟩ := reps_eqU f.2 fb r2 rb rvs
      refine ⟨by simp [h1], fun m d' u hd hu => ?_⟩
      cases m with
      | zero =>
        simp at hd hu; subst hd hu
        rw [L2.eqU_of rv (flat_V f.1 r1), eqV_D f.1 fb r1 rb]
      | succ m => exact h2 m d' u (by simpa using hd) (by simpa using hu)
theorem base2 {f e : Expr} {as : List Expr} {ks : List Keyword} {p : Pos} {a : Str} {env : Env} {w : Sem Value} : attributeBase (.Call f (e :: as) ks p) a env w = w := by cases f <;> rfl
structure GlT (P : Program) (w : World) (K : PySem.W.Frag) (mg : Str → Option Value) (x : Str) (d : D) : Prop where
  gl : GlD P w K mg x d
  pl : ∃ a o, mg x = some (.ref a) ∧ K.lookup a = some o ∧ o.cls = .type "tuple" ∧ o.dict = none
theorem gt_tup {P : Program} {w : World} {K : PySem.W.Frag} {h : Heap} {mg : Str → Option Value} {x : Str} {a : Addr} {its : Array Value} {n : Nat} {ds : List D} (X : K.In h) (G : h.Ns mainGlobals mg) (e1 : PySem.W.nsIn K mainGlobals x = some (some (.ref a))) (e2 : K.lookup a = some { cls := .type "tuple", data := .seq its n })
    (hm : FlatDs ds its.toList) (hl : its.size ≤ 1000) : GlT P w K mg x (.tup ds) :=
  ⟨gl_tup X G e1 e2 hm hl, a, _, PySem.W.mg_of X G e1, e2, rfl, rfl⟩
theorem je_index {x : Str} {c : D} {npos : Pos} {e : Expr} {fe : Ex} {apos cpos : Pos} (g : GlT X.prog X.w X.K X.mg x c) (hg : L2.Gl X x) (hd : (x == ("__debug__" : Str)) = false) (he : JE X e fe) (m : L2.M1 X (.Name x npos) "index" apos e cpos) : JE X (.Call (.Attribute (.Name x npos) "index" apos) [e] [] cpos) (e2 oIndexT (eC c) fe) := by
  intro pins s σ H Q I ⟨ρ, F, d, hr, e, q⟩
  obtain ⟨c', ec, e⟩ := bind_ok_iff.mp e
  cases ec
  obtain ⟨b, eb, e⟩ := bind_ok_iff.mp e
  obtain ⟨a, o, h1, h2, h3, h4⟩ := g.pl
  obtain ⟨v, u, g1, g2, g3⟩ := g.gl.ex
  rw [h1] at g1
  cases g1
  refine wpAny_Call_method m.base m.few m.line PySem.F.plainAttrs_tuple PySem.F.slot_tuple_index PySem.F.type_tuple_index (L2.thn (L2.pe_glob hg h1 g2 hd pins s σ H (fun v' H' => v' = v ∧ H' = H) I ⟨rfl, rfl⟩) fun u s1 ⟨x', H1, I1, rx, ex, eH⟩ => ?_)
  subst ex eH
  cases c with
  | tup ys =>
    replace e : (if flat b = true ∧ ys.all flat = true then indexD b 0 ys else .bad) = .ok d := e
    by_cases hf : flat b = true ∧ ys.all flat = true
    · rw [if_pos hf] at e
      obtain ⟨fb, fs⟩ := hf
      obtain ⟨j, rfl, hj, hh⟩ := indexD_ok e
      have ra := g3 H1 F
      simp only [Rep] at ra
      obtain ⟨p, xs, rfl, hp, rs⟩ := ra
      cases g2
      cases rx
      have hs1 : s1.TypeIs (.ref a) "tuple" := ⟨o, I1.kIn a o h2, h3⟩
      refine ⟨hs1, (fun a' e' => by cases e'; exact ⟨o, I1.kIn a o h2, h4⟩), ?_⟩
      rw [m.trees]
      refine Calls.callWith_builtin rfl (Calls.evalArgs_plain (Calls.spliced_cons (L2.thn (he pins s1 σ H1 _ I1 ⟨ρ, F, b, hr, eb, fun v H2 s2 rv => (⟨s2, rv⟩ : Same H1 H2 ∧ Rep (mdOf X) H2 F b v)⟩) fun iv s2 ⟨y, H2, I2, ry, sm2, rb⟩ => Calls.spliced_nil ?_)))
      have hp2 := hp.mv (M := mdOf X) (F' := F) (.same sm2)
      have rs2 := rs.mv (M := mdOf X) (F' := F) (.same sm2)
      obtain ⟨its, r2, ⟨o2, i1, i2, n, i3⟩, hz⟩ := I2.tuple hp2.sq
      obtain ⟨hl, heq⟩ := reps_eqU fs fb rs2 rb r2
      have hs2 : s2.TypeIs (.ref a) "tuple" := ⟨o, I2.kIn a o h2, h3⟩
      refine call_meetsIn PySem.F.slot_tuple_index hs2 PySem.F.entry_tuple_index (PySem.F.args_tuple_index_2 _ _) ((meets_tuple_index a its.toArray o2 n iv (L2.eqU y) j (by simp; omega) ?_).inModel X.prog X.w) ⟨i1, i3, fun z hz => L2.mem_eqAt ry (flat_V fb rb) r2 (flat_Vs fs rs2) z (by simpa using hz), ?_⟩
      · intro k z hk
        have hk' : its[k]? = some z := by simpa using hk
        have hlt : k < its.length := by
          obtain ⟨h, _⟩ := List.getElem?_eq_some_iff.mp hk'; exact h
        have hd : ys[k]? = some (ys[k]'(by omega)) := List.getElem?_eq_getElem (by omega)
        rw [heq k _ z hd hk']
        exact hh k _ hd
      · refine ⟨.int _, H2, I2.tok _, ⟨_, rfl⟩, ?_⟩
        have := q (.int ((0 + j : Nat) : Int)) H2 sm2 rep_int_mk
        simpa using this
    · rw [if_neg hf] at e; cases e
  | _ => cases e
end
end PL
set_option Elab.async false
set_option linter.all false
set_option maxRecDepth 100000
set_option maxHeartbeats 1000000
namespace PL
open PySem PySem.Spec
open L2 (V Hp HO Cx PE PT PW PA PS PSs PG PGs VK TE TT TA TS TI TG Inv RelV Vals Rd SqL SqT upd Same Key XK Ends OpR UnR CallR R2 EP It Turn FpOk Un)
@[simp] noncomputable def oJoinT : D → D → R D
  | .str x, .lst ys => match strsOf ys with
    | some zs => if JoinOk x zs = true then .ok (.str (Txt.join x zs)) else .bad
    | none => .bad
  | _, _ => .bad
@[simp] noncomputable def eFmt (pre : Str) (e : Ex) : Ex := fun ρ => (e ρ).bind fun d => match d with
  | .int i => if i.natAbs.log2 < 1920 ∧ (Str.empty ++ pre).length ≤ sizeLine ∧ (Str.empty ++ pre ++ Str.ofString (toString i)).length ≤ sizeLine then .ok (.str (Str.empty ++ pre ++ Str.ofString (toString i))) else .bad
  | _ => .bad
section
variable {X : Cx} {M : Md} {G H H' : Hp} {F0 F F' : Addr → Prop} {σ : L2.St} {ρ : En} {pos : Pos} {pins : List (Addr × Obj)} {s : Shared}
theorem strs_vals : ∀ {ys : List D} {zs : List Str} {xs : List V} {us : List Value}, strsOf ys = some zs → Reps M H F ys xs → Vals xs us → ∃ l : List (Str × Tok), us = strValues l ∧ l.map (fun x => x.1) = zs
  | [], zs, xs, us, h, r, v => by
    cases h
    simp only [Reps] at r; subst r; cases v
    exact ⟨[], rfl, rfl⟩
  | y :: ys, zs, xs, us, h, r, v => by
    cases y with
    | str z =>
      unfold strsOf at h
      cases hq : strsOf ys with
      | none => rw [hq] at h; cases h
      | some qs =>
        rw [hq] at h; cases h
        simp only [Reps] at r
        obtain ⟨x, t, rfl, r1, r2⟩ := r
        cases v with
        | cons rv rvs =>
          obtain ⟨l, rfl, e⟩ := strs_vals hq r2 rvs
          cases rep_str r1
          obtain ⟨tk, rfl⟩ := rv
          exact ⟨(z, tk) :: l, rfl, by simp [e]⟩
    | _ => cases h
theorem je_join {o e : Expr} {fo fe : Ex} {apos cpos : Pos} (ho : JE X o fo) (he : JE X e fe) (m : L2.M1 X o "join" apos e cpos) : JE X (.Call (.Attribute o "join" apos) [e] [] cpos) (e2 oJoinT fo fe) := by
  intro pins s σ H Q I ⟨ρ, F, d, hr, e, q⟩
  obtain ⟨a, ea, e⟩ := bind_ok_iff.mp e
  obtain ⟨b, eb, e⟩ := bind_ok_iff.mp e
  refine wpAny_Call_method m.base m.few m.line PySem.F.plainAttrs_str PySem.F.slot_str_join PySem.F.type_str_join (L2.thn (ho pins s σ H _ I ⟨ρ, F, a, hr, ea, fun v H1 s1 rv => (⟨s1, rv⟩ : Same H H1 ∧ Rep (mdOf X) H1 F a v)⟩) fun u s1 ⟨x, H1, I1, rx, sm1, ra⟩ => ?_)
  cases a with
  | str y =>
    cases b with
    | lst ys =>
      replace e : (match strsOf ys with | some zs => if JoinOk y zs = true then R.ok (D.str (Txt.join y zs)) else R.bad | none => R.bad) = R.ok d := e
      cases hz : strsOf ys with
      | none => rw [hz] at e; cases e
      | some zs =>
        rw [hz] at e
        replace e : (if JoinOk y zs = true then R.ok (D.str (Txt.join y zs)) else R.bad) = R.ok d := e
        by_cases hj : JoinOk y zs = true
        · rw [if_pos hj] at e
          cases e
          cases rep_str ra
          obtain ⟨t, rfl⟩ := rx
          refine ⟨typeIs_str s1 y t, (fun _ e => nomatch e), ?_⟩
          rw [m.trees]
          refine Calls.callWith_builtin rfl (Calls.evalArgs_plain (Calls.spliced_cons (L2.thn (he pins s1 σ H1 _ I1 ⟨ρ, F, .lst ys, hr.same sm1, eb, fun v H2 s2 rv => (⟨s2, rv⟩ : Same H1 H2 ∧ Rep (mdOf X) H2 F (.lst ys) v)⟩) fun iv s2 ⟨w, H2, I2, rw', sm2, rb⟩ => Calls.spliced_nil ?_)))
          simp only [Rep] at rb
          obtain ⟨p, xs, rfl, hp, rs⟩ := rb
          cases rw'
          obtain ⟨its, r2, pl, hz2⟩ := I2.list hp.sq
          obtain ⟨l, rfl, hl⟩ := strs_vals hz rs r2
          refine SC.join pl.isList hl hj fun t' k => ⟨.str _, H2, I2.kept (t' := k) (fun b o e => e), ⟨_, rfl⟩, q _ _ (sm1.trans sm2) rep_str_mk⟩
        · rw [if_neg hj] at e; cases e
    | _ => cases e
  | _ => cases e
theorem je_fstr {k e : Expr} {z : Str} {fe : Ex} {p1 : Pos} (hk : JE X k (eC (.str z))) (he : JE X e fe) : JE X (.JoinedStr [k, .FormattedValue e (-1) none p1] pos) (eFmt z fe) := by
  intro pins s σ H Q I ⟨ρ, F, d, hr, e, q⟩
  obtain ⟨a, ea, e⟩ := bind_ok_iff.mp e
  cases a with
  | int i =>
    replace e : (if i.natAbs.log2 < 1920 ∧ (Str.empty ++ z).length ≤ sizeLine ∧ (Str.empty ++ z ++ Str.ofString (toString i)).length ≤ sizeLine then R.ok (D.str (Str.empty ++ z ++ Str.ofString (toString i))) else R.bad) = R.ok d := e
    by_cases h : i.natAbs.log2 < 1920 ∧ (Str.empty ++ z).length ≤ sizeLine ∧ (Str.empty ++ z ++ Str.ofString (toString i)).length ≤ sizeLine
    · rw [if_pos h] at e
      cases e
      obtain ⟨h1, h2, h3⟩ := h
      refine wpAny_JoinedStr (Joins_cons (L2.thn (hk pins s σ H _ I ⟨ρ, F, .str z, hr, rfl, fun v H1 s1 rv => (⟨s1, rv⟩ : Same H H1 ∧ Rep (mdOf X) H1 F (.str z) v)⟩) fun u s1 ⟨x, H1, I1, rx, sm1, ra⟩ => ?_))
      cases rep_str ra
      obtain ⟨t, rfl⟩ := rx
      refine ⟨z, t, rfl, h2, Joins_cons (wpAny_FormattedValue_plain (L2.thn (he pins s1 σ H1 _ I1 ⟨ρ, F, .int i, hr.same sm1, ea, fun v H2 s2 rv => (⟨s2, rv⟩ : Same H1 H2 ∧ Rep (mdOf X) H2 F (.int i) v)⟩) fun u s2 ⟨y, H2, I2, ry, sm2, rb⟩ => ?_))⟩
      cases rep_int rb
      obtain ⟨t2, rfl⟩ := ry
      refine wpAny_formatField_int h1 ⟨_, _, rfl, h3, Joins_nil ⟨h3, .str _, H2, I2.kept (t' := _) (fun b o e => e), ⟨_, rfl⟩, q _ _ (sm1.trans sm2) rep_str_mk⟩⟩
    · rw [if_neg h] at e; cases e
  | _ => cases e
theorem log_small {i : Int} (h0 : 0 ≤ i) (h1 : i < 10 ^ 100) : i.natAbs.log2 < 1920 := by
  by_cases hz : i.natAbs = 0
  · rw [hz]; decide
  · rw [Nat.log2_lt hz]
    have h2 : i.natAbs < 10 ^ 100 := by
      have : ((i.natAbs : Nat) : Int) < ((10 ^ 100 : Nat) : Int) := by
        rw [Int.natAbs_of_nonneg h0]; exact_mod_cast h1
      exact_mod_cast this
    exact Nat.lt_trans h2 (by decide +kernel)
theorem l_str : CaL M (g1 oStr) (fun xs H Q => ∃ i, xs = [.int i] ∧ i.natAbs.log2 < 1920 ∧ Q (.str (toString i)) H) := by
  intro F H xs as d Q tr rs e q
  unfold g1 at e
  split at e
  · obtain ⟨x, rfl, r⟩ := rs.one
    unfold oStr at e
    split at e
    · split at e
      · rename_i h
        cases e
        exact ⟨_, by rw [rep_int r], log_small h.1 h.2, q _ _ (Same.refl _) rep_str_mk⟩
      · cases e
    · cases e
  · cases e
theorem base3 {c : Const} {n : Nat} {p : Pos} {a : Str} {env : Env} {w : Sem Value} : attributeBase (.Constant c n p) a env w = w := rfl
end
end PL
set_option Elab.async false
set_option linter.all false
set_option maxRecDepth 100000
set_option maxHeartbeats 1000000
namespace PL
open PySem PySem.Spec
open L2 (V Hp HO Cx PE PT PW PA PS PSs PG PGs VK TE TT TA TS TI TG Inv RelV Vals Rd SqL SqT upd Same Key XK Ends OpR UnR CallR R2 EP It Turn FpOk Un)
section
variable {X : Cx} {M : Md} {G H H' : Hp} {F0 F F' : Addr → Prop} {σ : L2.St} {ρ : En} {pos : Pos} {pins : List (Addr × Obj)} {s : Shared}
theorem sm_compS (i : Nat) {st : Stmt} {f : Ex} (h : PS X st (L2.tAsg (tPF (mdOf X) f) (L2.gName i))) (hl : ∀ ρ d, f ρ = .ok d → ∃ ds, d = .lst ds) : JS X st (sAsg (gName i) f) := fun F0 =>
  PS_imp h fun D σ H ⟨ρ, F, fl, r, e, q⟩ => by
    obtain ⟨d, ed, e⟩ := bind_ok_iff.mp e
    obtain ⟨ds, rfl⟩ := hl _ _ ed
    cases e
    refine ⟨ρ, F, ds, r.rs, ed, fun p H1 xs s1 hp rs => ?_⟩
    have s2 : Same H1 (upd H1 p (.lst xs)) := Same.upd_new hp _
    refine q _ _ F (.same (s1.trans s2)) (((r.same s1).same s2).setSh ?_)
    simp only [Rep]
    refine ⟨p, xs, rfl, .inl ⟨fun f => ?_, .inl L2.upd_same⟩, rs.mv (.same s2)⟩
    obtain ⟨o, e⟩ := (r.same s1).rs.trk p f
    rw [hp] at e; cases e
end
end PL
set_option Elab.async false
set_option linter.all false
set_option maxRecDepth 100000
set_option maxHeartbeats 1000000
namespace PL
open PySem PySem.Spec
open L2 (V Hp HO Cx PE PT PW PA PS PSs PG PGs VK TE TT TA TS TI TG Inv RelV Vals Rd SqL SqT upd Same Key XK Ends OpR UnR CallR R2 EP It Turn FpOk Un)
noncomputable def wid (i : Int) : Bool := decide (i.natAbs.log2 < 100000)
@[simp] noncomputable def oMulW : D → D → R D
  | .int i, .int j => if (wid i && wid j) = true then .ok (.int (i * j)) else .bad
  | _, _ => .bad
@[simp] noncomputable def oDivW : D → D → R D
  | .int i, .int j => if 0 < j ∧ j.natAbs.log2 < 9000 then .ok (.int (i / j)) else .bad
  | _, _ => .bad
@[simp] noncomputable def oPowW : D → D → R D
  | .int i, .int j => if 0 ≤ j ∧ j ≤ 1000 ∧ wid i = true then .ok (.int (i ^ j.toNat)) else .bad
  | _, _ => .bad
@[simp] noncomputable def oMax : D → D → R D
  | .int i, .int j => .ok (.int (if j > i then j else i))
  | _, _ => .bad
noncomputable def frz (i : Nat) (ρ : En) : En := match ρ[i]? with
  | some (.ol xs) => ρ.set i (.sh (.lst xs))
  | some (.od ks vs) => ρ.set i (.sh (.dct ks vs))
  | _ => ρ
mutual
noncomputable def noL : D → Bool
  | .non => true
  | .bl _ => true
  | .int _ => true
  | .str _ => true
  | .tup xs => noLs xs
  | _ => false
noncomputable def noLs : List D → Bool
  | [] => true
  | x :: xs => noL x && noLs xs
end
@[simp] noncomputable def ePeek (i : Nat) (f : Ex) : Ex := fun ρ => (f (frz i ρ)).bind fun d => if noL d = true then .ok d else .bad
@[simp] noncomputable def eFPeek (i : Nat) (f : Ex) : Ex := fun ρ => (f (frz i ρ)).bind fun d => match d with
  | .lst ds => if noLs ds = true then .ok (.lst ds) else .bad
  | _ => .bad
@[simp] noncomputable def tPeek (i : Nat) (f : Tst) : Tst := fun ρ => f (frz i ρ)
@[simp] noncomputable def sExtend (i : Nat) (e : Ex) : Sm := fun ρ => (e ρ).bind fun d => match d, ρ[i]? with
  | .lst ys, some (.ol xs) => if xs.length + ys.length ≤ szL then .ok (.next (ρ.set i (.ol (xs ++ ys)))) else .bad
  | _, _ => .bad
@[simp] noncomputable def sPop (j i : Nat) (e : Ex) : Sm := fun ρ => (e ρ).bind fun d => match d, ρ[i]? with
  | .int k, some (.ol xs) => match ixN xs.length k with
    | some m => match xs[m]? with
      | some y => if inR k = true then .ok (.next ((ρ.set i (.ol (xs.eraseIdx m))).set j (.sh y))) else .bad
      | none => .bad
    | none => .bad
  | _, _ => .bad
@[simp] noncomputable def sAppPop (j i : Nat) (e : Ex) : Sm := fun ρ => (e ρ).bind fun d => match d, ρ[i]?, ρ[j]? with
  | .int k, some (.ol xs), some (.ol zs) => match ixN xs.length k with
    | some m => match xs[m]? with
      | some y => if inR k = true ∧ zs.length < szL ∧ i ≠ j then .ok (.next ((ρ.set i (.ol (xs.eraseIdx m))).set j (.ol (zs ++ [y])))) else .bad
      | none => .bad
    | none => .bad
  | _, _, _ => .bad
section
variable {X : Cx} {M : Md} {G H H' : Hp} {F0 F F' : Addr → Prop} {σ : L2.St} {ρ : En} {pos : Pos} {pins : List (Addr × Obj)} {s : Shared}
theorem Reps.flat_rep {ds : List D} {xs : List V} (h : Reps M H F ds xs) : ∀ k : Nat, Reps M H F (List.replicate k ds).flatten (List.replicate k xs).flatten
  | 0 => by simp [Reps]
  | k + 1 => by
    rw [List.replicate_succ, List.replicate_succ, List.flatten_cons, List.flatten_cons]
    exact h.append (Reps.flat_rep h k)
noncomputable def rRepM (M : Md) : R2 := fun x y H Q => ∃ F l k xs, x = .ref l ∧ y = .int k ∧ LsR M H F l xs ∧ 0 ≤ k ∧ k < 1000 ∧ xs.length ≤ 1000 ∧ ∀ p, H p = none → Q (.ref p) (upd H p (.lst (List.replicate k.toNat xs).flatten))
theorem op_repM : OpR X (binaryOp .Mult) (rRepM (mdOf X)) := by
  intro pins s σ H x y v u Q I rx ry h
  obtain ⟨F, l, k, xs, rfl, rfl, hH, h1, h2, hz, q⟩ := h
  cases rx
  obtain ⟨t, rfl⟩ := ry
  obtain ⟨its, n, sl, r, e, z⟩ := ls_at I hH
  have hl := r.length
  have hm2 : its.length * k.toNat ≤ 1000 * 1000 := Nat.mul_le_mul (by omega) (by omega)
  have hm : its.toArray.size * k.toNat ≤ 1000 * 1000 := by rw [List.size_toArray]; exact hm2
  refine wpAny_binaryOp_repeat_ref (T := "list") (U := "int") (by decide) ⟨_, e, rfl⟩ (fun s' => typeIs_int s' k t) noFill_list_mul PySem.F.fills_int_mul PySem.F.slot_int_rmul repeat_list PySem.F.slot_int_index.lookup
    (call_meets PySem.F.slot_int_rmul (typeIs_int s k t) PySem.F.entry_int_rmul (PySem.F.args_int_rmul_2 _ _) (lm_int_rmul_list_any k t l its.toArray n none sl)
      ⟨e, rfl, ⟨_, e, rfl⟩, call_meets PySem.F.slot_list_mul ⟨_, e, rfl⟩ PySem.F.entry_list_mul (PySem.F.args_list_mul_2 _ _)
        (lm_list_mul_any l its.toArray n none sl k t (by simp [Builtin.List.listFitsIndex]; omega) (by omega) (by simp [Builtin.List.listTooLong, sizeLine]; omega)) ⟨e, ?_⟩⟩)
  rw [PyProof.Rows.listMul_foldl_if]
  refine ⟨.ref _, _, I.lnew (t' := s.toks) (r.rep k.toNat) (by rw [L2.len_rep, Nat.mul_comm, hl]; have : (sizeLine : Nat) = 16777216 := sizeLine_eq; omega), rfl, q _ I.fresh⟩
theorem l_rep : OpL M oRep (rRepM M) := by
  intro F H x y a b d Q tr ra rb e q
  unfold oRep at e
  split at e
  · split at e
    · rename_i h
      cases e
      simp only [Rep] at ra
      obtain ⟨l, xs, rfl, h1, r1⟩ := ra
      exact ⟨F, l, _, xs, rfl, rep_int rb, h1, h.1, h.2.1, by rw [← r1.length]; exact h.2.2, fun p hp => q _ _ (Same.upd_new hp _) (rep_lst_new tr hp (r1.flat_rep _))⟩
    · cases e
  · cases e
end
end PL
set_option Elab.async false
set_option linter.all false
set_option maxRecDepth 100000
set_option maxHeartbeats 1000000
namespace PL
open PySem PySem.Spec
open L2 (V Hp HO Cx PE PT PW PA PS PSs PG PGs VK TE TT TA TS TI TG Inv RelV Vals Rd SqL SqT upd Same Key XK Ends OpR UnR CallR R2 EP It Turn FpOk Un)
section
variable {X : Cx} {M : Md} {G H H' : Hp} {F0 F F' : Addr → Prop} {σ : L2.St} {ρ : En} {pos : Pos} {pins : List (Addr × Obj)} {s : Shared}
end
end PL
set_option Elab.async false
set_option linter.all false
set_option maxRecDepth 100000
set_option maxHeartbeats 1000000
namespace PL
open PySem PySem.Spec
open L2 (V Hp HO Cx PE PT PW PA PS PSs PG PGs VK TE TT TA TS TI TG Inv RelV Vals Rd SqL SqT upd Same Key XK Ends OpR UnR CallR R2 EP It Turn FpOk Un)
noncomputable def intsOf : List D → Option (List Int)
  | [] => some []
  | .int i :: r => (intsOf r).map (i :: ·)
  | _ => none
@[simp] noncomputable def oSum : D → R D
  | .lst xs => match intsOf xs with
    | some ns => .ok (.int ns.sum)
    | none => .bad
  | .tup xs => match intsOf xs with
    | some ns => .ok (.int ns.sum)
    | none => .bad
  | _ => .bad
noncomputable def bolsOf : List D → Option (List Bool)
  | [] => some []
  | .bl i :: r => (bolsOf r).map (i :: ·)
  | _ => none
@[simp] noncomputable def oAny : D → R D
  | .lst xs => match bolsOf xs with
    | some ns => .ok (.bl (ns.any id))
    | none => .bad
  | _ => .bad
noncomputable def unlike (ns : List Int) : Nat := (PyProof.Rows.firstMet (fun i => ns.getD i 0) ns.length).length
@[simp] noncomputable def oLenSet : D → R D
  | .lst xs => match intsOf xs with
    | some ns => if ns.length ≤ 4000 then .ok (.int (unlike ns)) else .bad
    | none => .bad
  | _ => .bad
@[simp] noncomputable def oRepT : D → D → R D
  | .tup x, .int j => if 1 < j ∧ j < 1000 ∧ x.length ≤ 1000 ∧ x.isEmpty = false then .ok (.tup (List.replicate j.toNat x).flatten) else .bad
  | _, _ => .bad
@[simp] noncomputable def oListRng : D → D → R D
  | .int i, .int j => if inR i = true ∧ inR j = true ∧ j - i ≤ 16777216 then .ok (.lst (rangeL i j)) else .bad
  | _, _ => .bad
section
variable {X : Cx} {M : Md} {G H H' : Hp} {F0 F F' : Addr → Prop} {σ : L2.St} {ρ : En} {pos : Pos} {pins : List (Addr × Obj)} {s : Shared}
end
end PL
set_option Elab.async false
set_option linter.all false
set_option maxRecDepth 100000
set_option maxHeartbeats 1000000
namespace PL
open PySem PySem.Spec
open L2 (V Hp HO Cx PE PT PW PA PS PSs PG PGs VK TE TT TA TS TI TG Inv RelV Vals Rd SqL SqT upd Same Key XK Ends OpR UnR CallR R2 EP It Turn FpOk Un)
@[simp] noncomputable def sRetF (e : Ex) : Sm := fun ρ => (e ρ).bind fun d => .ok (.retN d)
section
variable {X : Cx} {M : Md} {G H H' : Hp} {F0 F F' : Addr → Prop} {σ : L2.St} {ρ : En} {pos : Pos} {pins : List (Addr × Obj)} {s : Shared}
end
end PL
set_option Elab.async false
set_option linter.all false
set_option maxRecDepth 100000
set_option maxHeartbeats 1000000
namespace PL
open PySem PySem.Spec
open L2 (V Hp HO Cx PE PT PW PA PS PSs PG PGs VK TE TT TA TS TI TG Inv RelV Vals Rd SqL SqT upd Same Key XK Ends OpR UnR CallR R2 EP It Turn FpOk Un)
section
variable {prog : Program} {w : World} {A : Around} {E : Value → Shared → Prop} {s : Shared} {e it : Addr} {fp : List Addr} {n i : Nat} {c : Int} {P : Nat → Value → Prop} {St : Nat → Heap → Prop} {old : Value}
theorem enumC_item (D : Draws prog w A it fp n P St) (he : IsEnum s.heap e it c old) (hst : St i s.heap) (hlt : i < n) (hne : e ≠ it) (hef : e ∉ fp) {Q : Value → Shared → Prop}
    (hQ : ∀ x h' tk, P i x → IsEnumOut h' e it (c + 1) x s.heap.objs.size → St (i + 1) h' → h'.get? s.heap.objs.size = some { cls := .type "tuple", data := .seq #[.int c tk, x] } →
      (∀ b o, b ≠ e → b ≠ it → s.heap.get? b = some o → h'.get? b = some o) → Q (.ref s.heap.objs.size) { s with heap := h', toks := tk + 1 }) :
    wpAny (model prog w) A (Builtin.«enumerate.__next__» ⟨[.ref e], []⟩) (fun fin s' => ∃ v, fin = .done (.ret v) ∧ Q v s') E s := by
  obtain ⟨hp, g, dd, tk₀, os⟩ := s
  show wpAny _ _ (PySem.field (.ref e) 2 >>= _) _ _ _; refine wpAny_bind (wpAny_field he rfl (x := .ref it) rfl (wpAny_bind (D.item i _ _ _ hlt hst fun x h1 tk px st1 hs1 => ?_)))
  replace hs1 : Heap.SameBut it hp h1 := hs1
  have a1 : IsEnum h1 e it c old := (hs1.2 e hne).trans he
  show wpAny _ _ (PySem.field (.ref e) 3 >>= _) _ _ ⟨h1, g, dd, tk, os⟩; refine wpAny_bind (wpAny_field a1 rfl (x := rawInt c) rfl ?_)
  show wpAny _ _ (PySem.field (.ref e) 4 >>= _) _ _ ⟨h1, g, dd, tk, os⟩; refine wpAny_bind (wpAny_field a1 rfl (x := .none) rfl ?_)
  show wpAny _ _ (mkInt c >>= _) _ _ ⟨h1, g, dd, tk, os⟩; refine wpAny_bind (wpAny_mkInt ?_)
  show wpAny _ _ (setField (.ref e) 3 (rawInt (c + 1)) >>= _) _ _ ⟨h1, g, dd, tk + 1, os⟩; refine wpAny_bind (wpAny_setField_rec a1 (by simp) fun h2 a2 hs2 => ?_)
  replace hs2 : Heap.SameBut e h1 h2 := hs2; replace a2 : IsEnum h2 e it (c + 1) old := a2
  show wpAny _ _ (setField (.ref e) 4 .none >>= _) _ _ ⟨h2, g, dd, tk + 1, os⟩; refine wpAny_bind (wpAny_setField_rec a2 (by simp) fun h3 a3 hs3 => ?_)
  replace hs3 : Heap.SameBut e h2 h3 := hs3; replace a3 : IsEnum h3 e it (c + 1) old := a3
  show wpAny _ _ (newTuple [.int c tk, x] >>= _) _ _ ⟨h3, g, dd, tk + 1, os⟩; refine wpAny_bind (wpAny_newTuple ?_)
  have a4 : IsEnum (h3.push { cls := .type "tuple", data := .seq #[.int c tk, x] }) e it (c + 1) old := Heap.get?_push_of_some _ a3
  generalize hh4 : h3.push { cls := .type "tuple", data := .seq #[.int c tk, x] } = h4 at a4
  have hsz : h3.objs.size = hp.objs.size := by rw [hs3.1, hs2.1, hs1.1]
  have hel : e < hp.objs.size := Heap.lt_size he
  have t4 : h4.get? hp.objs.size = some { cls := .type "tuple", data := .seq #[.int c tk, x] } := by rw [← hh4, ← hsz]; exact Heap.get?_push_size _ rfl
  have k4 : ∀ b o, b ≠ e → b ≠ it → hp.get? b = some o → h4.get? b = some o := fun b o hbe hbi q => by rw [← hh4]; exact Heap.get?_push_of_some _ (hs3.extBut b o hbe (hs2.extBut b o hbe (hs1.extBut b o hbi q)))
  have ne_e : ∀ b ∈ fp, b ≠ e := fun b hb q => hef (q ▸ hb)
  have st4 : St (i + 1) h4 := D.frame _ _ _ st1 fun b hb o y => by rw [← hh4]; exact Heap.get?_push_of_some _ (hs3.extBut b o (ne_e b hb) (hs2.extBut b o (ne_e b hb) y))
  rw [hsz]
  show wpAny _ _ (Builtin.SmallTypes.ownedTupleIsFree (.ref e) >>= _) _ _ ⟨h4, g, dd, tk + 1, os⟩
  refine wpAny_bind ?_
  unfold Builtin.SmallTypes.ownedTupleIsFree
  refine wpAny_bind (wpAny_field a4 rfl (x := .none) rfl (wpAny_pure ?_)); simp only [if_true]
  refine wpAny_bind (wpAny_rule (wpAny_bind (wpAny_field a4 rfl (x := old) rfl (wpAny_bind (wpAny_setField_rec a4 (by simp) fun h5 a5 hs5 => ?_)))))
  replace hs5 : Heap.SameBut e h4 h5 := hs5; replace a5 : IsEnum h5 e it (c + 1) x := a5
  show wpAny _ _ (Builtin.SmallTypes.ownedTupleHandOut (.ref e) (.ref hp.objs.size) >>= _) _ _ ⟨h5, g, dd, tk + 1, os⟩
  refine wpAny_bind ?_
  unfold Builtin.SmallTypes.ownedTupleHandOut
  refine wpAny_bind (wpAny_setField_rec a5 (by simp) fun h6 a6 hs6 => ?_)
  replace hs6 : Heap.SameBut e h5 h6 := hs6; replace a6 : IsEnumOut h6 e it (c + 1) x hp.objs.size := a6
  refine wpAny_setField_rec a6 (by simp) fun h7 a7 hs7 => ?_
  replace hs7 : Heap.SameBut e h6 h7 := hs7; replace a7 : IsEnumOut h7 e it (c + 1) x hp.objs.size := a7
  have up : ∀ b o, b ≠ e → h4.get? b = some o → h7.get? b = some o := fun b o hb y => hs7.extBut b o hb (hs6.extBut b o hb (hs5.extBut b o hb y))
  exact wpAny_bind (wpAny_letGo (wpAny_pure ⟨_, rfl, hQ x h7 tk px a7 (D.frame _ _ _ st4 fun b hb o y => up b o (ne_e b hb) y) (up _ _ (Nat.ne_of_gt hel) t4) fun b o hbe hbi q => up b o hbe (k4 b o hbe hbi q)⟩))
end
noncomputable def Ite (K : PySem.W.Frag) (c0 : Int) (d : Sd) : It where
  go i H := ∃ xs, d.at K H xs ∧ i < xs.length
  yld i H v H' := ∃ t x, v = .ref t ∧ H t = none ∧ (∀ xs, d.at K H xs → xs[i]? = some x) ∧ H' = upd H t (.tup [.int (c0 + (i : Int)), x])
  stop i H := ∃ xs, d.at K H xs ∧ i = xs.length
noncomputable def tne (c0 : Int) (d : Sd) (td : Tok) (e it : Addr) (i : Nat) (h : Heap) : Prop := (∃ old, IsEnum h e it (c0 + (i : Int)) old) ∧ d.itr it i h td
theorem turn_enum {P : Program} {w : World} {K : PySem.W.Frag} {elts : List Expr} {k : Nat} {tp : Pos} (c0 : Int) (d : Sd) (td : Tok) (e it : Addr) (ne : e ≠ it) (hK : ∀ b ∈ [e, it], K.lookup b = none) :
    Turn P w K (.Tuple elts k tp) (Ite K c0 d) [e, it] e (tne c0 d td e it) where
  mem := by simp
  obj i h st b hb := by
    obtain ⟨⟨old, he⟩, h1⟩ := st
    simp only [List.mem_cons, List.not_mem_nil, or_false] at hb
    rcases hb with rfl | rfl
    · exact ⟨_, he, fun v q => by cases q⟩
    · exact Sd.itr_obj h1
  keep i h h' st kk := by
    obtain ⟨⟨old, he⟩, h1⟩ := st
    exact ⟨⟨old, kk e (by simp) _ he⟩, Sd.itr_keep h1 fun o q => kk it (by simp) o q⟩
  item := by
    intro X hP hw hKX hc i pins s σ H E I hf st hg
    subst hP hw hKX
    obtain ⟨xs, ax, hx⟩ := hg
    obtain ⟨⟨old, he⟩, h1⟩ := st
    have hh : X.A.in1.handled = none := I.ok.hd hc
    have un : ∀ b ∈ [e, it], H b = none := fun b hb => (hf b hb).1
    obtain ⟨f1, P1, S1, D1, p1, s1, s1', q1⟩ := Sd.draws (it := it) (tk := td) (A := X.A.in1) I hh ax (un it (by simp)) (hK it (by simp))
    have hef : e ∉ f1 := fun hm => by
      rcases q1 e hm with h | h | ⟨o, h⟩
      · exact ne h
      · exact h (un e (by simp))
      · rw [hK e (by simp)] at h; cases h
    have hT : s.TypeIs (.ref e) "enumerate" := ⟨_, he, rfl⟩
    unfold pyNext
    refine wpAny_bind (wpAny_attempt (wpAny_callSpecial?_slot (name := Str.ofString "__next__") hT PySem.F.slot_enumerate_next (wpAny_call_entry PySem.F.slot_enumerate_next hT PySem.F.entry_enumerate_next (enumC_item D1 he (s1' i h1) hx ne hef fun x h' tk px ho st1 hp hk => wpAny_pure ?_) (PySem.F.args_enumerate_next_1 _))))
    obtain ⟨v1, e1, r1⟩ := p1 i x px
    refine ⟨_, rfl, wpAny_letOwnedTupleGo_enum ho fun h2 he2 hs2 => ?_⟩
    have helt : e < s.heap.objs.size := Heap.lt_size he
    have Te : s.heap.objs.size ≠ e := Nat.ne_of_gt helt
    have hk2 : ∀ b o, b ≠ e → b ≠ it → s.heap.get? b = some o → h2.get? b = some o := fun b o c1 c2 q => hs2.extBut _ _ c1 (hk b o c1 c2 q)
    have hp2 : h2.get? s.heap.objs.size = some { cls := .type "tuple", data := .seq #[.int (c0 + (i : Int)) tk, x] } := hs2.extBut _ _ Te hp
    have nT : H s.heap.objs.size = none := I.hok.fresh (Nat.le_refl _)
    have trk : ∀ c u, H c = some u → c ≠ e ∧ c ≠ it := fun c u q => by refine ⟨?_, ?_⟩ <;> (intro w; rw [w, un _ (by simp)] at q; cases q)
    have nch : ∀ c, c ∉ [e, it] → c ≠ e ∧ c ≠ it := fun c hc' => by simpa [not_or] using hc'
    have u : Un (L2.frs X.stack) [e, it] H (upd H s.heap.objs.size (.tup [.int (c0 + (i : Int)), v1])) s.heap h2 :=
      ⟨fun b o q n hf' hx' => let m := nch b hx'; hk2 b o m.1 m.2 q, fun b o q n hf' hx' => let m := nch b hx'; ⟨o.slots, hk2 b o m.1 m.2 q⟩, fun b o q n hx' => by rw [L2.upd_ne (Nat.ne_of_lt (Heap.lt_size q))]; exact n,
        fun b o q hx' => let m := nch b hx'; ⟨o, hk2 b o m.1 m.2 q⟩, fun b zs q => by rw [L2.upd_ne (L2.ne_of_none q nT)]; exact q, fun b o zs q => by rw [L2.upd_ne (L2.ne_of_none q nT)]; exact q, fun b ps q => ⟨#[], by rw [L2.upd_ne (L2.ne_of_none q nT), q]; simp⟩⟩
    have hok : L2.HOk X.prog X.w (upd H s.heap.objs.size (.tup [.int (c0 + (i : Int)), v1])) h2 := fun b ob q => by
      by_cases hb : b = s.heap.objs.size
      · subst hb
        rw [L2.upd_same] at q
        cases q
        exact ⟨show 2 ≤ sizeLine by decide, [.int (c0 + (i : Int)) tk, x], .cons ⟨_, rfl⟩ (.cons r1 .nil), ⟨_, hp2, rfl, _, rfl⟩⟩
      · rw [L2.upd_ne hb] at q
        refine (I.hok b ob q).stay (fun c v hcv w => ?_) (fun c w => by rw [L2.upd_ne (L2.ne_of_none w nT)]; exact w) fun c zs w => by rw [L2.upd_ne (L2.ne_of_none w nT)]; exact w
        have tc : ∃ u, H c = some u := by
          rcases hcv with rfl | hcv
          · exact ⟨_, q⟩
          · exact ⟨_, hcv⟩
        obtain ⟨u', hu'⟩ := tc
        have m := trk c u' hu'
        exact hk2 c v m.1 m.2 w
    have I2 : Inv X pins σ (upd H s.heap.objs.size (.tup [.int (c0 + (i : Int)), v1])) { s with heap := h2, toks := tk + 1 } := I.call' (s' := { s with heap := h2, toks := tk + 1 }) (ch := [e, it]) rfl u hok I.bare fun b hb => by
      obtain ⟨_, a1, a2, a3, a4, a5⟩ := hf b hb
      exact ⟨a3, a1, a4, a5⟩
    have ltb : ∀ b ∈ [e, it], b ≠ s.heap.objs.size := fun b hb => by
      have : ∃ o, s.heap.get? b = some o := by
        simp only [List.mem_cons, List.not_mem_nil, or_false] at hb
        rcases hb with rfl | rfl
        · exact ⟨_, he⟩
        · exact let ⟨o, q, _⟩ := Sd.itr_obj h1; ⟨o, q⟩
      obtain ⟨o, q⟩ := this
      exact Nat.ne_of_lt (Heap.lt_size q)
    have cn : c0 + (i : Int) + 1 = c0 + ((i + 1 : Nat) : Int) := by omega
    rw [cn] at he2
    refine ⟨.ref s.heap.objs.size, _, I2, rfl, ⟨_, v1, rfl, nT, fun xs' hx' => by rw [Sd.inj I hx' ax]; exact e1, rfl⟩, ⟨⟨_, he2⟩, Sd.itr_keep (s1 _ _ st1) fun o q => hs2.extBut _ _ (Ne.symm ne) q⟩, fun b hb => ?_⟩
    show upd H _ _ b = none
    rw [L2.upd_ne (ltb b hb)]; exact un b hb
  done := by
    intro X hP hw hKX hc i pins s σ H E I hf st hg
    subst hP hw hKX
    obtain ⟨xs, ax, hend⟩ := hg
    obtain ⟨⟨old, he⟩, h1⟩ := st
    have hh : X.A.in1.handled = none := I.ok.hd hc
    have un : ∀ b ∈ [e, it], H b = none := fun b hb => (hf b hb).1
    obtain ⟨f1, P1, S1, D1, p1, s1, s1', q1⟩ := Sd.draws (it := it) (tk := td) (A := X.A.in1) I hh ax (un it (by simp)) (hK it (by simp))
    refine wpAny_pyNext_enum_endD D1 he (by rw [← hend]; exact s1' i h1) fun h' hk => ⟨rfl, ?_⟩
    have fpi := hf it (by simp)
    obtain ⟨b0, b1, b2, b3, b4, b5⟩ := fpi
    exact I.turned (it := it) (t' := s.toks) (fun b o hb q => hk b o hb q) b0 b1 b3 b4 b5
  self _ _ _ _ _ st h := let ⟨old, he⟩ := st.1; wpAny_pyIter_enum he h
noncomputable abbrev eP1 (h : Heap) (d : Sd) (td : Tok) : Heap := h.push (d.obj td)
noncomputable abbrev eP2 (h : Heap) (d : Sd) (td : Tok) (c : Int) : Heap := (eP1 h d td).push { cls := .type "enumerate", data := .fields #[.none, .bool false, .ref h.objs.size, rawInt c, .none, .none] }
theorem enum_new_any (d : Sd) (td : Tok) : Meets (Builtin.«enumerate.__new__» ⟨[.type "enumerate", d.val td], []⟩) (fun _ R s => d.is s.heap ∧ R (.ok (.ret (.ref (eP1 s.heap d td).objs.size))) { s with heap := eP2 s.heap d td 0 }) :=
  .of_wp fun prog w A R s h => by
    obtain ⟨hp, g, dr, tk, os⟩ := s; obtain ⟨h1, h⟩ := h
    have hsub := sub_enumerate
    have a1 : d.is (Shared.heap ⟨hp, g, dr, tk, os⟩) := h1
    wp_walk
    refine wpAny_stack_any fun st => wpAny_pure ?_
    split
    · rename_i c _ _ _ _ _
      cases (c == Value.type "enumerate")
      · wp_walk using Sd.iter a1; exact ⟨_, rfl, h⟩
      · wp_walk using Sd.iter a1; exact ⟨_, rfl, h⟩
    · wp_walk using Sd.iter a1; exact ⟨_, rfl, h⟩
section
variable {X : Cx} {M : Md} {G H H' : Hp} {F0 F F' : Addr → Prop} {σ : L2.St} {ρ : En} {pos : Pos} {pins : List (Addr × Obj)} {s : Shared}
theorem enum_it {elts : List Expr} {k : Nat} {tp : Pos} {d : Sd} {td : Tok} {xs : List V} {c : Int} {R : It → Hp → Prop} (I : Inv X pins σ H s) (ax : d.at X.K H xs) (q : R (Ite X.K c d) H) :
    wpAny (model X.prog X.w) X.A (pyIter (.ref (eP1 s.heap d td).objs.size)) (L2.PIE X pins σ (.Tuple elts k tp) R) X.xe { s with heap := eP2 s.heap d td c } := by
  have z1 : (eP1 s.heap d td).objs.size = s.heap.objs.size + 1 := Heap.size_push ..
  have nf : (d.obj td).isFreed = false := by cases d <;> rfl
  have g2 : (eP2 s.heap d td c).get? (eP1 s.heap d td).objs.size = some _ := Heap.get?_push_size _ rfl
  have g1 : (eP2 s.heap d td c).get? s.heap.objs.size = some (d.obj td) := Heap.get?_push_of_some _ (Heap.get?_push_size _ nf)
  have old : ∀ b o, s.heap.get? b = some o → (eP2 s.heap d td c).get? b = some o := fun b o x => Heap.get?_push_of_some _ (Heap.get?_push_of_some _ x)
  rw [z1] at g2
  rw [z1]
  refine wpAny_pyIter_enum g2 ?_
  have I2 : Inv X pins σ H { s with heap := eP2 s.heap d td c } := I.kept (t' := s.toks) old
  have hK : ∀ b, s.heap.objs.size ≤ b → X.K.lookup b = none := fun b hb => by
    cases q : X.K.lookup b with
    | none => rfl
    | some o => exact absurd (Nat.lt_of_lt_of_le (Heap.lt_size (I.kIn b o q)) hb) (Nat.lt_irrefl _)
  have itr0 : d.itr s.heap.objs.size 0 (eP2 s.heap d td c) td := by
    cases d with
    | l a => exact ⟨_, g1, rfl, rfl⟩
    | t a => exact ⟨_, g1, rfl, rfl⟩
    | s z => exact ⟨_, g1, rfl, rfl⟩
  have ge : ∀ b ∈ [s.heap.objs.size + 1, s.heap.objs.size], s.heap.objs.size ≤ b := fun b hb => by
    simp only [List.mem_cons, List.not_mem_nil, or_false] at hb
    rcases hb with rfl | rfl
    · exact Nat.le_succ _
    · exact Nat.le_refl _
  refine ⟨s.heap.objs.size + 1, [s.heap.objs.size + 1, s.heap.objs.size], _, _, H, rfl, I2, turn_enum c d td _ _ (Nat.succ_ne_self _) (fun b hb => hK b (ge b hb)), ⟨⟨.none, ?_⟩, itr0⟩, fun b hb => I.fpOk (ge b hb) (I.hok.fresh (ge b hb)), q⟩
  have : c + ((0 : Nat) : Int) = c := by simp
  rw [this]
  exact g2
noncomputable def iEn (K : PySem.W.Frag) (c : Int) (ta : TA) : TI := fun σ H R => ta σ H fun vs H1 => ∃ (x : V) (d : Sd) (xs : List V), vs = [x] ∧ (∀ u, RelV x u → ∃ tk, u = d.val tk) ∧ d.at K H1 xs ∧ R (Ite K c d) H1
theorem bt_enumerate : bootBuiltins "enumerate" = some (.type "enumerate") := by decide +kernel
theorem pi_enum {elts : List Expr} {k : Nat} {tp : Pos} {a : Expr} {ta : TA} {p : Pos} (hg : L2.Gl X "enumerate") (hm : X.mg "enumerate" = none) (ha : PA X [a] ta) (hs : starEach [a] X.env = (false, eval a X.env) :: starEach [] X.env) :
    L2.PI X (.Tuple elts k tp) (.Call (.Name "enumerate" p) [a] [] pos) (iEn X.K 0 ta) := by
  intro pins s σ H R I h
  refine PyProof.Rows.Call_ (L2.ld_blt I hg hm bt_enumerate (PyProof.Rows.callWith_type1 (L2.thn (ha pos pins s σ H _ I h) fun us s1 ⟨vs, H1, I1, r1, q1⟩ => ?_) hs (by rfl)))
  obtain ⟨x, d, xs, rfl, hx, ax, q⟩ := q1
  obtain ⟨u1, rfl, ru1⟩ := L2.vals1 r1
  obtain ⟨td, rfl⟩ := hx u1 ru1
  refine callType_new PySem.F.called_enumerate (by decide) (PySem.F.typeCall_enumerate_1 _) (PySem.F.newCall_enumerate_1 _) (fun obj => PySem.F.args_object_init_2 obj _) PySem.F.entry_enumerate_new (enum_new_any d td) ⟨Sd.at_is I1 ax, ?_⟩
  exact ⟨⟨_, Heap.get?_push_size _ rfl, rfl⟩, enum_it I1 ax q⟩
noncomputable def enumC : Int → List D → List D
  | _, [] => []
  | k, x :: xs => .tup [.int k, x] :: enumC (k + 1) xs
theorem enumC_len : ∀ (k : Int) (xs : List D), (enumC k xs).length = xs.length
  | _, [] => rfl
  | k, x :: xs => by unfold enumC; simp [enumC_len (k + 1) xs]
theorem enumC_get : ∀ {k : Int} {xs : List D} {i : Nat} {d : D}, (enumC k xs)[i]? = some d → ∃ x, d = .tup [.int (k + (i : Int)), x] ∧ xs[i]? = some x
  | _, [], _, _, h => by simp [enumC] at h
  | k, x :: xs, 0, d, h => by
    unfold enumC at h
    simp at h
    exact ⟨x, by rw [← h]; simp, rfl⟩
  | k, x :: xs, i + 1, d, h => by
    unfold enumC at h
    have h : (enumC (k + 1) xs)[i]? = some d := by simpa using h
    obtain ⟨a, h1, h2⟩ := enumC_get h
    refine ⟨a, ?_, by simpa using h2⟩
    rw [h1]
    congr 2
    congr 1
    omega
@[simp] noncomputable def iEnumC (c : Int) (a : Ex) : Itr := fun ρ => (a ρ).bind fun x => (items x).bind fun xs => .ok (enumC c xs)
theorem gives_enum {c : Int} {q : Sd} {xs : List V} {ds : List D} (h1 : ∀ H' F', Mv F H F' H' → q.at M.K H' xs) (rs : Reps M H F ds xs) : Gives M (Ite M.K c q) H F (enumC c ds) := by
  intro H' F' mv tr
  have a1 := h1 H' F' mv
  have rs' := rs.mv mv
  refine ⟨fun i d hd => ?_, ?_⟩
  · obtain ⟨x, rfl, hx⟩ := enumC_get hd
    obtain ⟨vx, ex, rx⟩ := rs'.get hx
    refine ⟨⟨xs, a1, (List.getElem?_eq_some_iff.mp ex).1⟩, fun v H2 hv => ?_⟩
    obtain ⟨t, wx, rfl, ht, g1, rfl⟩ := hv
    have q1 := g1 xs a1
    rw [ex] at q1
    cases q1
    exact ⟨Same.upd_new ht _, rep_tup_new tr ht (Reps.cons rep_int_mk (Reps.cons rx Reps.nil))⟩
  · exact ⟨xs, a1, by rw [enumC_len, rs.length]⟩
theorem ji_enum {elts : List Expr} {k : Nat} {tp : Pos} {a : Expr} {fa : Ex} {p : Pos} (hg : L2.Gl X "enumerate") (hm : X.mg "enumerate" = none) (ha : JE X a fa) (hs : starEach [a] X.env = (false, eval a X.env) :: starEach [] X.env) :
    JI X (.Tuple elts k tp) (.Call (.Name "enumerate" p) [a] [] pos) (iEnumC 0 fa) :=
  PI_imp (pi_enum hg hm (ja_cons ha ja_nil hs) hs) fun σ H Q ⟨ρ, F, ds, r, e, q⟩ => by
    obtain ⟨d1, ed1, e⟩ := bind_ok_iff.mp e
    obtain ⟨xs, exs, e⟩ := bind_ok_iff.mp e
    cases e
    refine ⟨ρ, F, [d1], r, by show (fa ρ).bind _ = _; rw [ed1]; rfl, fun vs H1 s1 rv => ?_⟩
    obtain ⟨x, rfl, rx⟩ := rv.one
    obtain ⟨sd1, vx, u1, rr1, at1⟩ := sd_of exs rx
    exact ⟨x, sd1, vx, rfl, u1, at1 H1 F Mv.refl, q _ H1 s1 (gives_enum (M := mdOf X) at1 rr1)⟩
end
end PL
set_option Elab.async false
set_option linter.all false
set_option maxRecDepth 100000
set_option maxHeartbeats 1000000
namespace PL
open PySem PySem.Spec
open L2 (V Hp HO Cx PE PT PW PA PS PSs PG PGs VK TE TT TA TS TI TG Inv RelV Vals Rd SqL SqT upd Same Key XK Ends OpR UnR CallR R2 EP It Turn FpOk Un)
section
variable {prog : Program} {w : World} {A : Around} {E : Value → Shared → Prop} {s : Shared}
end
section
variable {X : Cx} {M : Md} {G H H' : Hp} {F0 F F' : Addr → Prop} {σ : L2.St} {ρ : En} {pos : Pos} {pins : List (Addr × Obj)} {s : Shared}
end
end PL
set_option Elab.async false
set_option linter.all false
set_option maxRecDepth 100000
set_option maxHeartbeats 1000000
namespace PL
open PySem PySem.Spec PySem.W
open L2 (V Hp HO Cx PE PT PW PA PS PSs PG PGs VK TE TT TA TS TI TG Inv RelV Vals Rd SqL SqT upd Same Key XK Ends OpR UnR CallR R2 EP It Turn FpOk Un HOk ObjOk frs)
section
variable {P : Program} {w : World} {K : PySem.W.Frag} {mg : Str → Option Value} {base : Heap} {N : List Str} {qual : Str} {scope : Scope} {f : Addr} {cdv : Value} {A : Around} {outer : List Env} {s : Shared} {H : Hp} {E : XK}
noncomputable def rz (n : Nat) (c : Str) (t : Tst) : List D → R D := fun ds => match t (ds.map Slot.sh ++ List.replicate (n - ds.length) .un) with
  | .ok true => .exc (.exn c [] [])
  | _ => .bad
end
end PL
set_option Elab.async false
set_option linter.all false
set_option maxRecDepth 100000
set_option maxHeartbeats 1000000
namespace PL
open PySem PySem.Spec PySem.W
open L2 (V Hp HO Cx PE PT PW PA PS PSs PG PGs VK TE TT TA TS TI TG Inv RelV Vals Rd SqL SqT upd Same Key XK Ends OpR UnR CallR R2 EP It Turn FpOk Un HOk ObjOk frs)
section
variable {M : Model} {A : Around} {E : Value → Shared → Prop} {K : PySem.W.Frag} {h : Heap} {g : Array GenState} {d : Drawn} {t : Nat} {os : OsState} {e C U : Addr} {oe : Obj}
end
section
variable {X : Cx} {pins : List (Addr × Obj)} {σ : L2.St} {H : Hp} {s : Shared}
end
end PL
set_option Elab.async false
set_option linter.all false
set_option maxRecDepth 100000
set_option maxHeartbeats 1000000
namespace PL
open PySem PySem.Spec PySem.W
open L2 (V Hp HO Cx PE PT PW PA PS PSs PG PGs VK TE TT TA TS TI TG Inv RelV Vals Rd SqL SqT upd Same Key XK Ends OpR UnR CallR R2 EP It Turn FpOk Un HOk ObjOk frs)
section
variable {P : Program} {w : World} {C : Addr} {l : List Env} {H1 H' : Hp} {h1 h h5 : Heap} {a t : Addr} {B : Heap}
end
section
variable {X : Cx} {pins : List (Addr × Obj)} {σ : L2.St} {H : Hp} {s : Shared} {a : Addr}
end
section
variable {X : Cx}
end
end PL
set_option Elab.async false
set_option linter.all false
set_option maxRecDepth 100000
set_option maxHeartbeats 1000000
namespace PL
open PySem PySem.Spec PySem.W
open L2 (V Hp HO Cx PE PT PW PA PS PSs PG PGs VK TE TT TA TS TI TG Inv RelV Vals Rd SqL SqT upd Same Key XK Ends OpR UnR CallR R2 EP It Turn FpOk Un HOk ObjOk frs)
@[simp] noncomputable def oIsX (c : Str) (b : Bool) : D → R D
  | .exn c' [] _ => if c' = c then .ok (.bl b) else .bad
  | _ => .bad
section
variable {X : Cx} {pos : Pos}
end
end PL
set_option Elab.async false
set_option linter.all false
set_option maxRecDepth 100000
set_option maxHeartbeats 1000000
namespace PL
open PySem PySem.Spec
open L2 (V Hp HO Cx PE PT PW PA PS PSs PG PGs VK TE TT TA TS TI TG Inv RelV Vals Rd SqL SqT upd Same Key XK Ends OpR UnR CallR R2 EP It Turn FpOk Un cutV)
noncomputable abbrev dT (xs : List D) : D := .exn ⟨#[]⟩ [⟨#[116]⟩] xs
@[simp] noncomputable def oMkT : D → R D
  | .tup xs => .ok (dT xs)
  | _ => .bad
@[simp] noncomputable def oTupX : D → R D
  | .exn _ (_ :: _) xs => .ok (.tup xs)
  | _ => .bad
@[simp] noncomputable def oCountX : D → D → R D
  | .exn _ (_ :: _) xs, .int k => match intsOf xs with
    | some ns => .ok (.int (ns.count k : Nat))
    | none => .bad
  | _, _ => .bad
@[simp] noncomputable def eSlX (a : Ex) (lo hi : Option Ex) : Ex := e1 oMkT (eSl a lo hi)
section
variable {X : Cx} {M : Md} {G H H' : Hp} {F0 F F' : Addr → Prop} {σ : L2.St} {ρ : En} {pos : Pos} {pins : List (Addr × Obj)} {s : Shared}
end
end PL
set_option Elab.async false
set_option linter.all false
set_option maxRecDepth 100000
set_option maxHeartbeats 1000000
namespace PL
open PySem PySem.Spec
open L2 (V Hp HO Cx PE PT PW PA PS PSs PG PGs VK TE TT TA TS TI TG Inv RelV Vals Rd SqL SqT upd Same Key XK Ends OpR UnR CallR R2 EP It Turn FpOk Un cutV)
section
variable {X : Cx} {M : Md}
end
end PL
set_option Elab.async false
set_option linter.all false
set_option maxRecDepth 100000
set_option maxHeartbeats 1000000
namespace PL
open PySem PySem.Spec
open L2 (V Hp HO Cx PE PT PW PA PS PSs PG PGs VK TE TT TA TS TI TG Inv RelV Vals Rd SqL SqT upd Same Key XK Ends OpR UnR CallR R2 EP It Turn FpOk Un)
section
variable {X : Cx} {M : Md} {G H H' : Hp} {F0 F F' : Addr → Prop} {σ : L2.St} {ρ : En} {pos : Pos} {pins : List (Addr × Obj)} {s : Shared}
@[simp] noncomputable def iRev (a : Ex) : Itr := fun ρ => (a ρ).bind fun x => match x with
  | .lst xs => .ok xs.reverse
  | _ => .bad
end
end PL
set_option Elab.async false
set_option linter.all false
set_option maxRecDepth 100000
set_option maxHeartbeats 2000000
namespace PL
open PySem PySem.Spec PySem.W
section
variable {prog : Program} {w : World} {A : Around} {E : Value → Shared → Prop} {s : Shared}
end
section
open L2 (V Hp HO Cx PE PT PW PA PS PSs PG PGs VK TE TT TA TS TI TG Inv RelV Vals Rd SqL SqT upd Same Key XK Ends OpR UnR CallR R2 EP It Turn FpOk Un)
variable {X : Cx} {M : Md} {G H H' : Hp} {F0 F F' : Addr → Prop} {σ : L2.St} {ρ : En} {pos : Pos} {pins : List (Addr × Obj)} {s : Shared}
@[simp] noncomputable def iRevA (a : Ex) : Itr := fun ρ => (a ρ).bind fun x => match x with
  | .lst xs => .ok xs.reverse
  | .tup xs => .ok xs.reverse
  | _ => .bad
end
end PL
set_option Elab.async false
set_option linter.all false
set_option maxRecDepth 100000
namespace PL
open PySem PySem.Spec
open L2 (V Hp HO Cx PE PT PW PA PS PSs PG PGs VK TE TT TA TS TI TG Inv RelV Vals Rd SqL SqT upd Same Key XK Ends OpR UnR CallR R2 EP)
section
variable {X : Cx} {M : Md} {G H H' : Hp} {F0 F F' : Addr → Prop} {σ : L2.St} {ρ : En} {pos : Pos} {DE : Ends}
end
end PL
set_option Elab.async false
set_option linter.all false
set_option maxRecDepth 100000
namespace PL
open PySem PySem.Spec
open PyProof.Rows (assign_Tuple)
open L2 (V Hp HO Cx PE PT PW PA PS PSs PG PGs VK TE TT TA TS TI TG Inv RelV Vals Rd SqL SqT upd Same Key XK Ends OpR UnR CallR R2 EP)
section
variable {prog : Program} {w : World} {A : Around} {E : Value → Shared → Prop} {s : Shared}
end
section
variable {X : Cx} {M : Md} {G H H' : Hp} {F0 F F' : Addr → Prop} {σ : L2.St} {ρ : En} {pos : Pos} {DE : Ends}
end
end PL
set_option Elab.async false
set_option linter.all false
set_option maxRecDepth 100000
set_option maxHeartbeats 1000000
namespace PL
open PySem PySem.Spec
open L2 (V Hp HO Cx PE PT PW PA PS PSs PG PGs VK TE TT TA TS TI TG Inv RelV Vals Rd SqL SqT upd Same Key XK Ends OpR UnR CallR R2 EP It Turn FpOk Un)
noncomputable def oEndsT : D → D → R D
  | .str x, .str y => .ok (.bl (Txt.endswith x y))
  | _, _ => .bad
noncomputable def oSplitT : D → D → R D
  | .str x, .str y => if (y.length == 0) = false ∧ x.length ≤ 1000000 then .ok (.lst ((Txt.split x y).map .str)) else .bad
  | _, _ => .bad
noncomputable def oIntA : D → R D
  | .str x => if x.length ≤ 640 then match PySem.intText? x with
    | some n => .ok (.int n)
    | none => .bad else .bad
  | x => oInt x
noncomputable def oInA : D → D → R D
  | .str x, .str y => .ok (.bl (!(Builtin.Str.occurrences y x 0 y.length 1).isEmpty))
  | .non, .dct [] [] => .ok (.bl false)
  | x, y => oIn x y
section
variable {X : Cx} {M : Md} {G H H' : Hp} {F0 F F' : Addr → Prop} {σ : L2.St} {ρ : En} {pos : Pos} {pins : List (Addr × Obj)} {s : Shared}
theorem je_ends {o e : Expr} {fo fe : Ex} {apos cpos : Pos} (ho : JE X o fo) (he : JE X e fe) (m : L2.M1 X o "endswith" apos e cpos) : JE X (.Call (.Attribute o "endswith" apos) [e] [] cpos) (e2 oEndsT fo fe) := by
  intro pins s σ H Q I ⟨ρ, F, d, hr, e, q⟩
  obtain ⟨a, ea, e⟩ := bind_ok_iff.mp e
  obtain ⟨b, eb, e⟩ := bind_ok_iff.mp e
  refine wpAny_Call_method m.base m.few m.line PySem.F.plainAttrs_str PySem.F.slot_str_endswith PySem.F.type_str_endswith (L2.thn (ho pins s σ H _ I ⟨ρ, F, a, hr, ea, fun v H1 s1 rv => (⟨s1, rv⟩ : Same H H1 ∧ Rep (mdOf X) H1 F a v)⟩) fun u s1 ⟨x, H1, I1, rx, sm1, ra⟩ => ?_)
  cases a with
  | str y =>
    cases b with
    | str z =>
      cases e
      cases rep_str ra
      obtain ⟨t, rfl⟩ := rx
      refine ⟨typeIs_str s1 y t, (fun _ e => nomatch e), ?_⟩
      rw [m.trees]
      refine Calls.callWith_builtin rfl (Calls.evalArgs_plain (Calls.spliced_cons (L2.thn (he pins s1 σ H1 _ I1 ⟨ρ, F, .str z, hr.same sm1, eb, fun v H2 s2 rv => (⟨s2, rv⟩ : Same H1 H2 ∧ Rep (mdOf X) H2 F (.str z) v)⟩) fun iv s2 ⟨w, H2, I2, rw', sm2, rb⟩ => Calls.spliced_nil ?_)))
      cases rep_str rb
      obtain ⟨t', rfl⟩ := rw'
      exact SC.endswith ⟨.bl _, H2, I2, rfl, q _ _ (sm1.trans sm2) rep_bl_mk⟩
    | _ => cases e
  | _ => cases e
theorem split_new {prog : Program} {w : World} {A : Around} {E : Value → Shared → Prop} {s : Shared} {x : Str} {t : Tok} {Q : Value → Shared → Prop} {y : Str} {u : Tok} (hy : (y.length == 0) = false)
    (hq : ∀ (l : List (Str × Tok)) (k : Nat), l.map (·.1) = Txt.split x y → Q (.ref s.heap.objs.size) { s with heap := s.heap.push { cls := .type "list", data := .seq (strValues l).toArray }, toks := k })
    (hsz : x.length ≤ sizeLine) (hsz2 : (Builtin.Str.partsBetween x (Builtin.Str.occurrences x y 0 x.length (x.length + 1)) y.length).length ≤ sizeLine) :
    wpAny (model prog w) A (call (.builtin "str.split") [.str x t, .str y u]) Q E s := by
  cases h1 : (decide (x.length < y.length) || decide (Builtin.Str.strKind x < Builtin.Str.strKind y))
  · cases hf : (Builtin.Str.occurrences x y 0 x.length (x.length + 1)).isEmpty
    · refine call_meets PySem.F.slot_str_split (typeIs_str _ _ _) PySem.F.entry_str_split (PySem.F.args_str_split_2 _ _) (meets_str_split_sep x y t u h1 hy hf hsz hsz2) ?_
      show wants Q E _ { s with toks := _, heap := s.heap.push { cls := .type "list", data := .seq (strsFrom s.toks (Builtin.Str.partsBetween x (Builtin.Str.occurrences x y 0 x.length (x.length + 1)) y.length)).toArray } }
      rw [strsFrom_eq]
      exact hq (numbered s.toks _) _ ((numbered_texts _ _).trans ((if_neg (ne_true_of_eq_false h1)).trans (if_neg (ne_true_of_eq_false hf))).symm)
    · exact call_meets PySem.F.slot_str_split (typeIs_str _ _ _) PySem.F.entry_str_split (PySem.F.args_str_split_2 _ _) (meets_str_split_not_found x y t u h1 hy hf)
        (hq [(x, t)] s.toks ((if_neg (ne_true_of_eq_false h1)).trans (if_pos hf)).symm)
  · exact call_meets PySem.F.slot_str_split (typeIs_str _ _ _) PySem.F.entry_str_split (PySem.F.args_str_split_2 _ _) (meets_str_split_cannot_occur x y t u h1)
      (hq [(x, t)] s.toks (if_pos h1).symm)
theorem vals_strs : ∀ l : List (Str × Tok), Vals ((l.map (·.1)).map V.str) (strValues l)
  | [] => .nil
  | (x, t) :: l => .cons ⟨t, rfl⟩ (vals_strs l)
theorem reps_strs : ∀ zs : List Str, Reps M H F (zs.map .str) (zs.map V.str)
  | [] => Reps.nil
  | z :: zs => Reps.cons rep_str_mk (reps_strs zs)
theorem je_split {o e : Expr} {fo fe : Ex} {apos cpos : Pos} (ho : JE X o fo) (he : JE X e fe) (m : L2.M1 X o "split" apos e cpos) : JE X (.Call (.Attribute o "split" apos) [e] [] cpos) (e2 oSplitT fo fe) := by
  intro pins s σ H Q I ⟨ρ, F, d, hr, e, q⟩
  obtain ⟨a, ea, e⟩ := bind_ok_iff.mp e
  obtain ⟨b, eb, e⟩ := bind_ok_iff.mp e
  refine wpAny_Call_method m.base m.few m.line PySem.F.plainAttrs_str PySem.F.slot_str_split PySem.F.type_str_split (L2.thn (ho pins s σ H _ I ⟨ρ, F, a, hr, ea, fun v H1 s1 rv => (⟨s1, rv⟩ : Same H H1 ∧ Rep (mdOf X) H1 F a v)⟩) fun u s1 ⟨x, H1, I1, rx, sm1, ra⟩ => ?_)
  cases a with
  | str y =>
    cases b with
    | str z =>
      replace e : (if (z.length == 0) = false ∧ y.length ≤ 1000000 then R.ok (D.lst ((Txt.split y z).map .str)) else .bad) = .ok d := e
      by_cases hz : (z.length == 0) = false ∧ y.length ≤ 1000000
      · rw [if_pos hz] at e
        cases e
        cases rep_str ra
        obtain ⟨t, rfl⟩ := rx
        refine ⟨typeIs_str s1 y t, (fun _ e => nomatch e), ?_⟩
        rw [m.trees]
        refine Calls.callWith_builtin rfl (Calls.evalArgs_plain (Calls.spliced_cons (L2.thn (he pins s1 σ H1 _ I1 ⟨ρ, F, .str z, hr.same sm1, eb, fun v H2 s2 rv => (⟨s2, rv⟩ : Same H1 H2 ∧ Rep (mdOf X) H2 F (.str z) v)⟩) fun iv s2 ⟨w, H2, I2, rw', sm2, rb⟩ => Calls.spliced_nil ?_)))
        cases rep_str rb
        obtain ⟨t', rfl⟩ := rw'
        have hsl : (sizeLine : Nat) = 16777216 := sizeLine_eq
        refine split_new hz.1 (fun l k hl => ?_) (by omega) (by
          rw [PyProof.Rows.len_partsBetween]
          have := StrLaws.occ_length_le y z 0 y.length (y.length + 1)
          omega)
        have hv := vals_strs l
        rw [hl] at hv
        have hlen := PyProof.Rows.split_le y z
        have hf := I2.fresh
        refine ⟨.ref _, _, I2.lnew (t' := k) hv (by rw [List.length_map]; omega), rfl, q _ _ (sm1.trans (sm2.trans (Same.upd_new hf _))) (rep_lst_new ((hr.same sm1).same sm2).trk hf (reps_strs _))⟩
      · rw [if_neg hz] at e; cases e
    | _ => cases e
  | _ => cases e
theorem call_intA : CallR X (.type "int") (fun xs H Q => ((∃ i, xs = [.int i] ∧ Q (.int i) H) ∨ ∃ k, xs = [.bl k] ∧ Q (.int (if k then 1 else 0)) H) ∨ ∃ x n, xs = [.str x] ∧ x.length ≤ 640 ∧ PySem.intText? x = some n ∧ Q (.int n) H) := by
  intro pins s σ H xs us Q I r h
  rcases h with h | ⟨x, n, rfl, hl, hn, q⟩
  · exact L2.call_int1 pins s σ H xs us Q I r h
  · obtain ⟨u, rfl, t, rfl⟩ := L2.vals1 r
    exact PySem.W.KIN.call_text hn hl ⟨.int n, H, I.tok _, ⟨_, rfl⟩, q⟩
theorem l_intA : CaL M (g1 oIntA) (fun xs H Q => ((∃ i, xs = [.int i] ∧ Q (.int i) H) ∨ ∃ k, xs = [.bl k] ∧ Q (.int (if k then 1 else 0)) H) ∨ ∃ x n, xs = [.str x] ∧ x.length ≤ 640 ∧ PySem.intText? x = some n ∧ Q (.int n) H) := by
  intro F H xs as d Q tr rs e q
  unfold g1 at e
  split at e
  · rename_i a
    obtain ⟨x, rfl, r⟩ := rs.one
    unfold oIntA at e
    split at e
    · split at e
      · rename_i hl
        split at e
        · rename_i n hn
          cases e
          exact .inr ⟨_, n, by rw [rep_str r], hl, hn, q _ _ (Same.refl _) rep_int_mk⟩
        · cases e
      · cases e
    · unfold oInt at e
      split at e
      · cases e; exact .inl (.inl ⟨_, by rw [rep_int r], q _ _ (Same.refl _) rep_int_mk⟩)
      · cases e; exact .inl (.inr ⟨_, by rw [rep_bl r], q _ _ (Same.refl _) rep_int_mk⟩)
      · cases e
  · cases e
noncomputable def isNone : Value → Bool
  | .none => true
  | _ => false
theorem isNone_eq {v : Value} (h : isNone v = true) : v = .none := by cases v <;> first | rfl | cases h
theorem hash_none {prog : Program} {w : World} {A : Around} {E : Value → Shared → Prop} {s : Shared} {Q : Int → Shared → Prop} (h : Q (reduceHash 0xFCA86420) { s with toks := s.toks + 1 }) : wpAny (model prog w) A (PySem.pyHash .none) Q E s :=
  PySem.W.pyHash_slot (T := "NoneType") rfl PySem.F.slot_NoneType_hash PySem.F.entry_NoneType_hash (PySem.F.args_NoneType_hash_1 _) (beq_builtin_none _) (.inl rfl) (wpAny_bind (wpAny_pure (wpAny_bind (wpAny_mkInt (wpAny_pure ⟨_, _, rfl, h⟩)))))
theorem eq_none {prog : Program} {w : World} {A : Around} {E : Value → Shared → Prop} {s : Shared} {Q : Bool → Shared → Prop} (h : Q true s) : wpAny (model prog w) A (PySem.eqBool .none .none) Q E s := by
  unfold PySem.eqBool
  refine wpAny_holding ?_
  rw [if_pos (by rfl)]
  exact wpAny_bind (wpAny_rule (wpAny_pure h))
noncomputable def noneKind (prog : Program) (w : World) : KeyKind prog w Unit where
  is := fun _ v => isNone v
  hash := fun _ => reduceHash 0xFCA86420
  inj := fun _ _ _ _ _ => rfl
  byValue := fun k v h => by rw [isNone_eq h]; rfl
  pyHash := fun hv h => by rw [isNone_eq hv]; exact hash_none h
  eqBool := fun hu hv h => by rw [isNone_eq hu, isNone_eq hv]; exact eq_none h
  «strs» := fun k x t v h => by cases h
noncomputable def rInA (M : Md) : R2 := fun x y H Q => (∃ i j, x = .str i ∧ y = .str j ∧ Q (.bl (!(Builtin.Str.occurrences j i 0 j.length 1).isEmpty)) H) ∨ (x = .non ∧ ∃ F p, y = .ref p ∧ DcR M H F p [] ∧ Q (.bl false) H) ∨ rInD M false x y H Q
theorem op_inA (hu : X.A.units + 64 < cLine) : OpR X (compareOp .In) (rInA (mdOf X)) := by
  intro pins s σ H x y v u Q I rx ry h
  rcases h with h | ⟨rfl, F, p, rfl, hd, q⟩ | h
  · exact L2.op_in_str pins s σ H x y v u Q I rx ry h
  · cases rx
    cases ry
    obtain ⟨z, hsys, vs, rel, dd⟩ := dc_at I hd
    cases rel
    obtain ⟨o, es, ep, ho, hex, hda, _, hp, _⟩ := dd
    have he : es = #[] := by
      generalize hl : es.toList = l at hp
      cases hp
      exact Array.toList_eq_nil_iff.mp hl
    subst he
    refine wpAny_in_of (knd := noneKind X.prog X.w) (k := ()) (f := fun _ => none) rfl hsys ⟨o, #[], ep, ho, hex, hda, (fun e he => absurd he (by simp)), fun k => rfl⟩ ?_
    exact ⟨.bl _, H, I.tok _, rfl, q⟩
  · exact op_inD hu pins s σ H x y v u Q I rx ry h
theorem inA_bl {a b d : D} (h : oInA a b = .ok d) : ∃ k, d = .bl k := by
  unfold oInA at h
  split at h
  · cases h; exact ⟨_, rfl⟩
  · cases h; exact ⟨_, rfl⟩
  · exact in_bl h
theorem bin_inA : Bin oInA := fun a b d h => inA_bl h
theorem l_inA : OpL M oInA (rInA M) := by
  intro F H x y a b d Q tr ra rb e q
  unfold oInA at e
  split at e
  · cases e
    exact .inl ⟨_, _, by rw [rep_str ra], by rw [rep_str rb], q _ _ (Same.refl _) rep_bl_mk⟩
  · cases e
    simp only [Rep] at rb
    obtain ⟨p, xs, rfl, h1, hl, rs⟩ := rb
    simp only [Reps] at rs
    subst rs
    refine .inr (.inl ⟨by simpa only [Rep] using ra, F, p, rfl, h1, q _ _ (Same.refl _) rep_bl_mk⟩)
  · exact .inr (.inr (l_in F H x y _ _ d Q tr ra rb e q))
end
end PL
set_option Elab.async false
set_option linter.all false
set_option maxRecDepth 100000
namespace PL
open PySem PySem.Spec
open L2 (V Hp HO Cx PE PT PW PA PS PSs PG PGs VK TE TT TA TS TI TG Inv RelV Vals Rd SqL SqT upd Same Key XK Ends OpR UnR CallR R2 EP It Turn FpOk)
structure XE (X : Cx) (e : Expr) (f : Ex) : Prop where
  out : JE X e f
structure XF (X : Cx) (e : Expr) (f : Ex) : Prop where
  out : JF X e f
structure XT (X : Cx) (e : Expr) (f : Tst) : Prop where
  out : JT X e f
structure XW (X : Cx) (e : Expr) (f : Tst) : Prop where
  out : JW X e f
structure XA (X : Cx) (e : List Expr) (f : En → R (List D)) : Prop where
  out : JA X e f
structure XO (X : Cx) (e : Option Expr) (f : Option Ex) : Prop where
  out : JO X e f
structure XS (X : Cx) (e : Stmt) (f : Sm) : Prop where
  out : JS X e f
structure XSs (X : Cx) (e : List Stmt) (f : Sm) : Prop where
  out : JSs X e f
structure XG (X : Cx) (e : Expr) (f : Tgt) : Prop where
  out : JG X e f
structure XGs (X : Cx) (e : List Expr) (f : List D → En → R En) : Prop where
  out : JGs X e f
structure XCs (X : Cx) (e : List Expr) (f : List Tst) : Prop where
  out : JCs X e f
structure XP (X : Cx) (pos : Pos) (keys : List (Option Expr)) (values : List Expr) (ks : List Ky) (fs : List Ex) : Prop where
  out : JP X pos keys values ks fs
structure XI (X : Cx) (tg e : Expr) (f : Itr) : Prop where
  out : JI X tg e f
theorem xje_var {X : L2.Cx} {pos : Pos} (i : Nat) {x : Str} (hN : X.N[i]? = some x) (hv : L2.Vis X.env.scope x) (hd : (x == ("__debug__" : Str)) = false) (hcd : (x == ("__classdict__" : Str)) = false) : XE X (.Name x pos) (eVar i) := ⟨je_var i hN hv hd hcd⟩
theorem xje_int {X : L2.Cx} {pos : Pos} {i : Int} {j : Nat} : XE X (.Constant (.int i) j pos) (eC (.int i)) := ⟨je_int ⟩
theorem xje_bl {X : L2.Cx} {pos : Pos} {b : Bool} {j : Nat} : XE X (.Constant (.bool b) j pos) (eC (.bl b)) := ⟨je_bl ⟩
theorem xje_non {X : L2.Cx} {pos : Pos} {j : Nat} : XE X (.Constant .none j pos) (eC .non) := ⟨je_non ⟩
theorem xje_str {X : L2.Cx} {pos : Pos} {x : Str} {j : Nat} : XE X (.Constant (.str x) j pos) (eC (.str x)) := ⟨je_str ⟩
theorem xje_op {X : L2.Cx} {pos : Pos} {op : Operator} {g : D → D → R D} {r : R2} {a b : Expr} {fa fb : Ex} (ho : OpR X (binaryOp op) r) (hg : OpL (mdOf X) g r) (ha : XE X a fa) (hb : XE X b fb) : XE X (.BinOp a op b pos) (e2 g fa fb) := ⟨je_op ho hg ha.out hb.out⟩
theorem xje_cmp {X : L2.Cx} {pos : Pos} {op : CmpOp} {g : D → D → R D} {r : R2} {a b : Expr} {fa fb : Ex} (ho : OpR X (compareOp op) r) (hg : OpL (mdOf X) g r) (ha : XE X a fa) (hb : XE X b fb) (hm : behindInMarks op b = false) : XE X (.Compare a [op] [b] pos) (e2 g fa fb) := ⟨je_cmp ho hg ha.out hb.out hm⟩
theorem xje_un {X : L2.Cx} {pos : Pos} {op : UnaryOp} {g : D → R D} {r : V → Hp → VK → Prop} {a : Expr} {fa : Ex} (ho : UnR X (unaryOp op) r) (hg : UnL (mdOf X) g r) (ha : XE X a fa) : XE X (.UnaryOp op a pos) (e1 g fa) := ⟨je_un ho hg ha.out⟩
theorem xje_isN {X : L2.Cx} {pos : Pos} {j : Nat} {p2 : Pos} {a : Expr} {fa : Ex} (ha : XE X a fa) : XE X (.Compare a [.Is] [.Constant .none j p2] pos) (e1 oIsN fa) := ⟨je_isN ha.out⟩
theorem xje_one {X : L2.Cx} {pos : Pos} {op : BoolOp} {a : Expr} {fa : Ex} (h : XE X a fa) : XE X (.BoolOp op [a] pos) fa := ⟨je_one h.out⟩
theorem xje_and {X : L2.Cx} {pos : Pos} {a b : Expr} {rest : List Expr} {fa fb : Ex} (ha : XE X a fa) (hb : XE X (.BoolOp .And (b :: rest) pos) fb) : XE X (.BoolOp .And (a :: b :: rest) pos) (eAnd fa fb) := ⟨je_and ha.out hb.out⟩
theorem xje_chain {X : L2.Cx} {pos : Pos} {op op' : CmpOp} {g g' : D → D → R D} {r r' : R2} {a b c : Expr} {fa fb fc : Ex} (ho : OpR X (compareOp op) r) (ho' : OpR X (compareOp op') r') (hg : OpL (mdOf X) g r) (hg' : OpL (mdOf X) g' r') (ha : XE X a fa) (hb : XE X b fb) (hc : XE X c fc) (hm : lastMarks [op, op'] [b, c] = false) : XE X (.Compare a [op, op'] [b, c] pos) (eChain g g' fa fb fc) := ⟨je_chain ho ho' hg hg' ha.out hb.out hc.out hm⟩
theorem xjt_val {X : L2.Cx} {a : Expr} {fa : Ex} (ha : XE X a fa) (he : ∀ whole, isTrue a X.env whole = (do let v ← whole; standAt a.pos; holding [v] (truthy v))) : XT X a (tV fa) := ⟨jt_val ha.out he⟩
theorem xjt_cmp {X : L2.Cx} {pos : Pos} {op : CmpOp} {g : D → D → R D} {r : R2} {a b : Expr} {fa fb : Ex} (ho : OpR X (compareOp op) r) (hg : OpL (mdOf X) g r) (hB : Bin g) (ha : XE X a fa) (hb : XE X b fb) (hm : behindInMarks op b = false) : XT X (.Compare a [op] [b] pos) (tV (e2 g fa fb)) := ⟨jt_cmp ho hg hB ha.out hb.out hm⟩
theorem xjt_isN {X : L2.Cx} {pos : Pos} {j : Nat} {p2 : Pos} {a : Expr} {fa : Ex} (ha : XE X a fa) : XT X (.Compare a [.Is] [.Constant .none j p2] pos) (tV (e1 oIsN fa)) := ⟨jt_isN ha.out⟩
theorem xjt_notN {X : L2.Cx} {pos : Pos} {j : Nat} {p2 : Pos} {a : Expr} {fa : Ex} (ha : XE X a fa) : XT X (.Compare a [.IsNot] [.Constant .none j p2] pos) (tV (e1 oNotN fa)) := ⟨jt_notN ha.out⟩
theorem xjt_chain {X : L2.Cx} {pos : Pos} {op op' : CmpOp} {g g' : D → D → R D} {r r' : R2} {a b c : Expr} {fa fb fc : Ex} (ho : OpR X (compareOp op) r) (ho' : OpR X (compareOp op') r') (hg : OpL (mdOf X) g r) (hg' : OpL (mdOf X) g' r') (hB : Bin g') (ha : XE X a fa) (hb : XE X b fb) (hc : XE X c fc) (hm : lastMarks [op, op'] [b, c] = false) : XT X (.Compare a [op, op'] [b, c] pos) (tV (eChain g g' fa fb fc)) := ⟨jt_chain ho ho' hg hg' hB ha.out hb.out hc.out hm⟩
theorem xjt_not {X : L2.Cx} {pos : Pos} {a : Expr} {c : Tst} (ha : XT X a c) : XT X (.UnaryOp .Not a pos) (tNot c) := ⟨jt_not ha.out⟩
theorem xjw_and1 {X : L2.Cx} {pos : Pos} {a : Expr} {c : Tst} (ha : XT X a c) : XW X (.BoolOp .And [a] pos) c := ⟨jw_and1 ha.out⟩
theorem xjw_or1 {X : L2.Cx} {pos : Pos} {a : Expr} {c : Tst} (ha : XT X a c) : XW X (.BoolOp .Or [a] pos) c := ⟨jw_or1 ha.out⟩
theorem xjw_and {X : L2.Cx} {pos : Pos} {a b : Expr} {rest : List Expr} {c c' : Tst} (ha : XT X a c) (hb : XW X (.BoolOp .And (b :: rest) pos) c') : XW X (.BoolOp .And (a :: b :: rest) pos) (tAnd c c') := ⟨jw_and ha.out hb.out⟩
theorem xjw_or {X : L2.Cx} {pos : Pos} {a b : Expr} {rest : List Expr} {c c' : Tst} (ha : XT X a c) (hb : XW X (.BoolOp .Or (b :: rest) pos) c') : XW X (.BoolOp .Or (a :: b :: rest) pos) (tOr c c') := ⟨jw_or ha.out hb.out⟩
theorem xjt_bool {X : L2.Cx} {e : Expr} {c : Tst} (h : XW X e c) : XT X e c := ⟨jt_bool h.out⟩
theorem xje_not {X : L2.Cx} {pos : Pos} {a : Expr} {fa : Ex} (ha : XE X a fa) : XE X (.UnaryOp .Not a pos) (e1 oNot fa) := ⟨je_not ha.out⟩
theorem xje_if {X : L2.Cx} {pos : Pos} {c a b : Expr} {fc : Tst} {fa fb : Ex} (hc : XT X c fc) (ha : XE X a fa) (hb : XE X b fb) : XE X (.IfExp c a b pos) (eIf fc fa fb) := ⟨je_if hc.out ha.out hb.out⟩
theorem xja_nil {X : L2.Cx}  : XA X [] (eList []) := ⟨ja_nil ⟩
theorem xja_cons {X : L2.Cx} {e : Expr} {es : List Expr} {f : Ex} {fs : List Ex} (ha : XE X e f) (hr : XA X es (eList fs)) (hs : starEach (e :: es) X.env = (false, eval e X.env) :: starEach es X.env) : XA X (e :: es) (eList (f :: fs)) := ⟨ja_cons ha.out hr.out hs⟩
theorem xje_tup {X : L2.Cx} {pos : Pos} {es : List Expr} {fs : List Ex} {k : Nat} (h : XA X es (eList fs)) (hl : fs.length ≤ 1000) : XE X (.Tuple es k pos) (eTup fs) := ⟨je_tup h.out hl⟩
theorem xje_lst {X : L2.Cx} {pos : Pos} {es : List Expr} {fs : List Ex} (h : XA X es (eList fs)) (hl : fs.length ≤ 1000) : XE X (.List es pos) (eLst fs) := ⟨je_lst h.out hl⟩
theorem xje_dict0 {X : L2.Cx} {pos : Pos}  : XE X (.Dict [] [] pos) (eDict [] []) := ⟨je_dict0 ⟩
theorem xjo_none {X : L2.Cx}  : XO X none none := ⟨jo_none ⟩
theorem xjo_some {X : L2.Cx} {e : Expr} {f : Ex} (h : XE X e f) : XO X (some e) (some f) := ⟨jo_some h.out⟩
theorem xje_sl {X : L2.Cx} {pos : Pos} {a : Expr} {lo hi : Option Expr} {fa : Ex} {fl fh : Option Ex} {p2 : Pos} (ha : XE X a fa) (hl : XO X lo fl) (hh : XO X hi fh) : XE X (.Subscript a (.Slice lo hi none p2) pos) (eSl fa fl fh) := ⟨je_sl ha.out hl.out hh.out⟩
theorem xje_b1 {X : L2.Cx} {pos : Pos} {g : D → R D} {r : List V → Hp → VK → Prop} {x : Str} {id : String} {a : Expr} {fa : Ex} {p : Pos} (hc : CallR X (.builtin id) r) (hg : CaL (mdOf X) (g1 g) r) (hgl : L2.Gl X x) (hm : X.mg x = none) (hv : bootBuiltins x = some (.builtin id)) (ha : XE X a fa) (hs : starEach [a] X.env = (false, eval a X.env) :: starEach [] X.env) (hn : x ≠ "__name__") (hdb : (x == ("__debug__" : Str)) = false) : XE X (.Call (.Name x p) [a] [] pos) (e1 g fa) := ⟨je_b1 hc hg hgl hm hv ha.out hs hn hdb⟩
theorem xje_b2 {X : L2.Cx} {pos : Pos} {g : D → D → R D} {r : List V → Hp → VK → Prop} {x : Str} {id : String} {a b : Expr} {fa fb : Ex} {p : Pos} (hc : CallR X (.builtin id) r) (hg : CaL (mdOf X) (g2 g) r) (hgl : L2.Gl X x) (hm : X.mg x = none) (hv : bootBuiltins x = some (.builtin id)) (ha : XE X a fa) (hb : XE X b fb) (hs : starEach [a, b] X.env = (false, eval a X.env) :: starEach [b] X.env) (hs2 : starEach [b] X.env = (false, eval b X.env) :: starEach [] X.env) (hn : x ≠ "__name__") (hdb : (x == ("__debug__" : Str)) = false) : XE X (.Call (.Name x p) [a, b] [] pos) (e2 g fa fb) := ⟨je_b2 hc hg hgl hm hv ha.out hb.out hs hs2 hn hdb⟩
theorem xje_t1 {X : L2.Cx} {pos : Pos} {g : D → R D} {r : List V → Hp → VK → Prop} {x : Str} {T : String} {a : Expr} {fa : Ex} {p : Pos} (hc : CallR X (.type T) r) (hg : CaL (mdOf X) (g1 g) r) (hgl : L2.Gl X x) (hm : X.mg x = none) (hv : bootBuiltins x = some (.type T)) (ha : XE X a fa) (hs : starEach [a] X.env = (false, eval a X.env) :: starEach [] X.env) (hn : x ≠ "__name__") (hdb : (x == ("__debug__" : Str)) = false) : XE X (.Call (.Name x p) [a] [] pos) (e1 g fa) := ⟨je_t1 hc hg hgl hm hv ha.out hs hn hdb⟩
theorem xje_isA {X : L2.Cx} {pos : Pos} (ty : Ty) {a : Expr} {fa : Ex} {p p2 : Pos} {T : Str} (ha : XE X a fa) (hg : L2.Gl X "isinstance") (hm : X.mg "isinstance" = none) (hgT : L2.Gl X T) (hmT : X.mg T = none) (hvT : bootBuiltins T = some (.type (tyN ty))) (hs : starEach [a, .Name T p2] X.env = (false, eval a X.env) :: starEach [.Name T p2] X.env) (hs2 : starEach [.Name T p2] X.env = (false, eval (.Name T p2) X.env) :: starEach [] X.env) (hnT : T ≠ "__name__") (hdT : (T == ("__debug__" : Str)) = false) : XE X (.Call (.Name "isinstance" p) [a, .Name T p2] [] pos) (e1 (oIsA ty) fa) := ⟨je_isA ty ha.out hg hm hgT hmT hvT hs hs2 hnT hdT⟩
theorem xjs_nil {X : L2.Cx}  : XSs X [] (sBlk []) := ⟨js_nil ⟩
theorem xjs_nil' {X : L2.Cx}  : XSs X [] sNil := ⟨js_nil' ⟩
theorem xjs_cons {X : L2.Cx} {st : Stmt} {rest : List Stmt} {f : Sm} {fs : List Sm} (h1 : XS X st f) (h2 : XSs X rest (sBlk fs)) : XSs X (st :: rest) (sBlk (f :: fs)) := ⟨js_cons h1.out h2.out⟩
theorem xjs_one {X : L2.Cx} {st : Stmt} {f : Sm} (h : XS X st f) : XSs X [st] f := ⟨js_one h.out⟩
theorem xjs_if {X : L2.Cx} {pos : Pos} {c : Expr} {a b : List Stmt} {fc : Tst} {fa fb : Sm} (hc : XT X c fc) (ha : XSs X a fa) (hb : XSs X b fb) : XS X (.If c a b pos) (sIf fc fa fb) := ⟨js_if hc.out ha.out hb.out⟩
theorem xjs_ret {X : L2.Cx} {pos : Pos} {a : Expr} {fa : Ex} (ha : XE X a fa) : XS X (.Return (some a) pos) (sRet fa) := ⟨js_ret ha.out⟩
theorem xjs_drop {X : L2.Cx} {pos : Pos} {a : Expr} {fa : Ex} (ha : XE X a fa) (hs : swapsWith a none pos.line X.env = pure false) : XS X (.Expr a pos) (sDrop fa) := ⟨js_drop ha.out hs⟩
theorem xjs_never {X : L2.Cx} {st : Stmt} : XS X st sNever := ⟨js_never ⟩
theorem xjg_name {X : L2.Cx} {pos : Pos} (i : Nat) {x : Str} (hN : X.N.Nodup) (hi : X.N[i]? = some x) (hx : L2.Loc X.env.scope x) (hf : X.fn x = true ∨ X.env.scope.names.lookup x = some .local) : XG X (.Name x pos) (gName i) := ⟨jg_name i hN hi hx hf⟩
theorem xjgs_nil {X : L2.Cx}  : XGs X [] (gNames []) := ⟨jgs_nil ⟩
theorem xjgs_cons {X : L2.Cx} (i : Nat) {is : List Nat} {e : Expr} {es : List Expr} (h1 : XG X e (gName i)) (h2 : XGs X es (gNames is)) (hs : (assignEach (e :: es) X.env).map (·.2) = assign e X.env :: (assignEach es X.env).map (·.2)) : XGs X (e :: es) (gNames (i :: is)) := ⟨jgs_cons i h1.out h2.out hs⟩
theorem xjg_tup {X : L2.Cx} {pos : Pos} {is : List Nat} {es : List Expr} {k : Nat} (hc : X.calm = true) (h : XGs X es (gNames is)) (hn : (assignEach es X.env).length = is.length) (hst : (assignEach es X.env).findIdx? (·.1) = none) : XG X (.Tuple es k pos) (gTup is) := ⟨jg_tup hc h.out hn hst⟩
theorem xjs_asg {X : L2.Cx} {pos : Pos} {tg e : Expr} {fa : Ex} {g : Tgt} (ha : XE X e fa) (hg : XG X tg g) (hs : swapsWithSole [tg] e pos.line X.env = pure false) (hw : swappedStores [tg] e X.env = pure none) (h1 : (assignEach [tg] X.env).map (·.2) = [assign tg X.env]) : XS X (.Assign [tg] e pos) (sAsg g fa) := ⟨js_asg ha.out hg.out hs hw h1⟩
theorem xjs_for {X : L2.Cx} {pos : Pos} {tg iter : Expr} {body : List Stmt} {it : Itr} {g : Tgt} {f : Sm} (hp : PassesOwn (model X.prog X.w) X.A X.env X.xe) (hc : X.calm = true) (hi : XI X tg iter it) (hg : XG X tg g) (hb : XSs X body f) (hs : ∀ x, foldedSetIterable iter X.env x = pure x) : XS X (.For tg iter body [] pos) (sFor it g f) := ⟨js_for hp hc hi.out hg.out hb.out hs⟩
theorem xji_rng1 {X : L2.Cx} {pos : Pos} {tg a : Expr} {fa : Ex} {p : Pos} (hg : L2.Gl X "range") (hm : X.mg "range" = none) (ha : XE X a fa) (hs : starEach [a] X.env = (false, eval a X.env) :: starEach [] X.env) : XI X tg (.Call (.Name "range" p) [a] [] pos) (iRng1 fa) := ⟨ji_rng1 hg hm ha.out hs⟩
theorem xji_rng2 {X : L2.Cx} {pos : Pos} {tg a b : Expr} {fa fb : Ex} {p : Pos} (hg : L2.Gl X "range") (hm : X.mg "range" = none) (ha : XE X a fa) (hb : XE X b fb) (hs : starEach [a, b] X.env = (false, eval a X.env) :: starEach [b] X.env) (hs2 : starEach [b] X.env = (false, eval b X.env) :: starEach [] X.env) : XI X tg (.Call (.Name "range" p) [a, b] [] pos) (iRng2 fa fb) := ⟨ji_rng2 hg hm ha.out hb.out hs hs2⟩
theorem xjs_freeze {X : L2.Cx} (i : Nat) {rest : List Stmt} {fs : List Sm} (h : XSs X rest (sBlk fs)) : XSs X rest (sBlk (sFreeze i :: fs)) := ⟨js_freeze i h.out⟩
theorem xjf_lst {X : L2.Cx} {pos : Pos} {es : List Expr} {fs : List Ex} (h : XA X es (eList fs)) (hl : fs.length ≤ 1000) : XF X (.List es pos) (eLst fs) := ⟨jf_lst h.out hl⟩
theorem xjs_ownL {X : L2.Cx} {pos : Pos} (i : Nat) {x : Str} {e : Expr} {f : Ex} {p2 : Pos} (hN : X.N.Nodup) (he : XF X e f) (hi : X.N[i]? = some x) (hx : L2.Loc X.env.scope x) (hf : X.fn x = true ∨ X.env.scope.names.lookup x = some .local) (hs : swapsWith e (some (.Name x p2)) pos.line X.env = pure false) : XS X (.Assign [.Name x p2] e pos) (sOwnL i f) := ⟨js_ownL i hN he.out hi hx hf hs⟩
theorem xjs_append {X : L2.Cx} {pos : Pos} (i : Nat) {x : Str} {e : Expr} {f : Ex} {p2 apos cpos : Pos} (he : XE X e f) (hN : X.N[i]? = some x) (hv : L2.Vis X.env.scope x) (hd : (x == ("__debug__" : Str)) = false) (hcd : (x == ("__classdict__" : Str)) = false) (hbase : attributeBase (.Name x p2) "append" X.env (eval (.Name x p2) X.env) = eval (.Name x p2) X.env) (hfew : ((backTo cpos (starEach [e] X.env)).all (fun x => !x.1) && (backToKw cpos (keywordEach [] X.env)).all (fun x => x.1.isSome)       && decide (([e] : List Expr).length + ([] : List Keyword).length + (if ([] : List Keyword).isEmpty then 0 else 1) < 30)) = true) (hline : (apos.endLine == cpos.line) = true) (hs : starEach [e] X.env = (false, eval e X.env) :: starEach [] X.env) (hsw : swapsWith (.Call (.Attribute (.Name x p2) "append" apos) [e] [] cpos) none pos.line X.env = pure false) : XS X (.Expr (.Call (.Attribute (.Name x p2) "append" apos) [e] [] cpos) pos) (sAppend i f) := ⟨js_append i he.out hN hv hd hcd hbase hfew hline hs hsw⟩
theorem xje_call {X : L2.Cx} {pos : Pos} {x : Str} {k j n : Nat} {m : List D → R D} {e : Expr} {es : List Expr} {fs : List Ex} {p : Pos} (d : Df X.prog X.w X.K X.mg X.base x k n m) (hr : L2.Room j X.A) (hg : L2.Gl X x) (ha : XA X (e :: es) (eList fs)) (hk : k ≤ j) (hn : fs.length = n) (hdb : (x == ("__debug__" : Str)) = false) (he : starEach (e :: es) X.env = (false, eval e X.env) :: starEach es X.env) (hpl : (backTo pos (starEach es X.env)).any (·.1) = false) : XE X (.Call (.Name x p) (e :: es) [] pos) (eCall m fs) := ⟨je_call d hr hg ha.out hk hn hdb he hpl⟩
theorem xje_call0 {X : L2.Cx} {pos : Pos} {x : Str} {k j : Nat} {m : List D → R D} {p : Pos} (d : Df X.prog X.w X.K X.mg X.base x k 0 m) (hr : L2.Room j X.A) (hg : L2.Gl X x) (hk : k ≤ j) (hdb : (x == ("__debug__" : Str)) = false) : XE X (.Call (.Name x p) [] [] pos) (eCall m []) := ⟨je_call0 d hr hg hk hdb⟩
theorem xji_seq {X : L2.Cx} {tg l : Expr} {fa : Ex} (ha : XE X l fa) : XI X tg l (iSeq fa) := ⟨ji_seq ha.out⟩
theorem xje_globD {X : Cx} {pos : Pos} {x : Str} {d : D} (g : GlD X.prog X.w X.K X.mg x d) (hg : L2.Gl X x) (hd : (x == ("__debug__" : Str)) = false) : XE X (.Name x pos) (eC d) := ⟨je_globD g hg hd⟩
theorem xje_ix {X : L2.Cx} {pos : Pos} {a b : Expr} {fa fb : Ex} (ha : XE X a fa) (hb : XE X b fb) (hs : L2.PlainIx b) : XE X (.Subscript a b pos) (e2 oIx fa fb) := ⟨je_ix ha.out hb.out hs⟩
theorem xje_get1 {X : L2.Cx} {o e : Expr} {fo fe : Ex} {apos cpos : Pos} (ho : XE X o fo) (he : XE X e fe) (m : L2.M1 X o "get" apos e cpos) : XE X (.Call (.Attribute o "get" apos) [e] [] cpos) (e2 (oGet .non) fo fe) := ⟨je_get1 ho.out he.out m⟩
theorem xji_zip {X : L2.Cx} {pos : Pos} {elts : List Expr} {k : Nat} {tp : Pos} {a b : Expr} {fa fb : Ex} {p : Pos} (hg : L2.Gl X "zip") (hm : X.mg "zip" = none) (ha : XE X a fa) (hb : XE X b fb) (hs : starEach [a, b] X.env = (false, eval a X.env) :: starEach [b] X.env) (hs2 : starEach [b] X.env = (false, eval b X.env) :: starEach [] X.env) : XI X (.Tuple elts k tp) (.Call (.Name "zip" p) [a, b] [] pos) (iZip fa fb) := ⟨ji_zip hg hm ha.out hb.out hs hs2⟩
theorem xje_find {X : L2.Cx} {o e : Expr} {fo fe : Ex} {apos cpos : Pos} (ho : XE X o fo) (he : XE X e fe) (m : L2.M1 X o "find" apos e cpos) : XE X (.Call (.Attribute o "find" apos) [e] [] cpos) (e2 oFindT fo fe) := ⟨je_find ho.out he.out m⟩
theorem xjp_nil {X : L2.Cx} {pos : Pos}  : XP X pos [] [] [] [] := ⟨jp_nil ⟩
theorem xjp_cons {X : L2.Cx} {pos : Pos} {k v : Expr} {z : Str} {f : Ex} {keys : List (Option Expr)} {values : List Expr} {ks : List Ky} {fs : List Ex} (hk : XE X k (eC (.str z))) (hv : XE X v f) (hr : XP X pos keys values ks fs) : XP X pos (some k :: keys) (v :: values) (.inr z :: ks) (f :: fs) := ⟨jp_cons hk.out hv.out hr.out⟩
theorem xje_dict {X : L2.Cx} {pos : Pos} {keys : List (Option Expr)} {values : List Expr} {ks : List Ky} {fs : List Ex} (h : XP X pos keys values ks fs) (hall : keys.all (·.isSome) = true) (hl : keys.length = values.length) (h0 : keys ≠ []) (h15 : keys.length ≤ 15) (hk : ks.length = fs.length) (hk15 : ks.length ≤ 15) (hn : ks.Nodup) : XE X (.Dict keys values pos) (eDict ks fs) := ⟨je_dict h.out hall hl h0 h15 hk hk15 hn⟩
theorem xje_index {X : L2.Cx} {x : Str} {c : D} {npos : Pos} {e : Expr} {fe : Ex} {apos cpos : Pos} (g : GlT X.prog X.w X.K X.mg x c) (hg : L2.Gl X x) (hd : (x == ("__debug__" : Str)) = false) (he : XE X e fe) (m : L2.M1 X (.Name x npos) "index" apos e cpos) : XE X (.Call (.Attribute (.Name x npos) "index" apos) [e] [] cpos) (e2 oIndexT (eC c) fe) := ⟨je_index g hg hd he.out m⟩
theorem xje_join {X : L2.Cx} {o e : Expr} {fo fe : Ex} {apos cpos : Pos} (ho : XE X o fo) (he : XE X e fe) (m : L2.M1 X o "join" apos e cpos) : XE X (.Call (.Attribute o "join" apos) [e] [] cpos) (e2 oJoinT fo fe) := ⟨je_join ho.out he.out m⟩
theorem xje_fstr {X : L2.Cx} {pos : Pos} {k e : Expr} {z : Str} {fe : Ex} {p1 : Pos} (hk : XE X k (eC (.str z))) (he : XE X e fe) : XE X (.JoinedStr [k, .FormattedValue e (-1) none p1] pos) (eFmt z fe) := ⟨je_fstr hk.out he.out⟩
theorem xji_enum {X : L2.Cx} {pos : Pos} {elts : List Expr} {k : Nat} {tp : Pos} {a : Expr} {fa : Ex} {p : Pos} (hg : L2.Gl X "enumerate") (hm : X.mg "enumerate" = none) (ha : XE X a fa) (hs : starEach [a] X.env = (false, eval a X.env) :: starEach [] X.env) : XI X (.Tuple elts k tp) (.Call (.Name "enumerate" p) [a] [] pos) (iEnumC 0 fa) := ⟨ji_enum hg hm ha.out hs⟩
theorem xje_ends {X : L2.Cx} {o e : Expr} {fo fe : Ex} {apos cpos : Pos} (ho : XE X o fo) (he : XE X e fe) (m : L2.M1 X o "endswith" apos e cpos) : XE X (.Call (.Attribute o "endswith" apos) [e] [] cpos) (e2 oEndsT fo fe) := ⟨je_ends ho.out he.out m⟩
theorem xje_split {X : L2.Cx} {o e : Expr} {fo fe : Ex} {apos cpos : Pos} (ho : XE X o fo) (he : XE X e fe) (m : L2.M1 X o "split" apos e cpos) : XE X (.Call (.Attribute o "split" apos) [e] [] cpos) (e2 oSplitT fo fe) := ⟨je_split ho.out he.out m⟩
theorem xjf_comp {X : L2.Cx} {pos : Pos} (tn fv : List Str) (fvi : List Nat) {elt iter target : Expr} {ifs : List Expr} {scope : Scope} {it : Itr} {tg : Tgt} {cs : List Tst} {el : Ex} (hxe : ∀ e s, ¬ X.xe e s) (hc : X.calm = true) (ok : CompOk X scope tn fv fvi) (hi : XI X target iter it) (low : Low tn.length tg)
    (ht : ∀ cl C s H fp, XG (cxC X scope cl C (tn ++ fv) s H fp) target tg) (hcs : ∀ cl C s H fp, XCs (cxC X scope cl C (tn ++ fv) s H fp) ifs cs) (hel : ∀ cl C s H fp, XE (cxC X scope cl C (tn ++ fv) s H fp) elt el)
    (hs : ∀ x, foldedSetIterable iter X.env x = pure x) : XF X (.ListComp elt [⟨target, iter, ifs, 0⟩] scope pos) (eComp it tn.length fvi tg cs el) :=
  ⟨je_comp tn fv fvi hxe hc ok hi.out low (fun cl C s H fp => (ht cl C s H fp).out) (fun cl C s H fp => (hcs cl C s H fp).out) (fun cl C s H fp => (hel cl C s H fp).out) hs⟩
theorem xje_comp {X : L2.Cx} {e : Expr} {it : Itr} {n : Nat} {fv : List Nat} {tg : Tgt} {cs : List Tst} {el : Ex} (h : XF X e (eComp it n fv tg cs el)) : XE X e (eComp it n fv tg cs el) := ⟨je_of_jf h.out comp_lst⟩
theorem xjs_compS {X : L2.Cx} {pos py spos : Pos} {y : Str} (i : Nat) (tn fv : List Str) (fvi : List Nat) {elt iter target : Expr} {ifs : List Expr} {scope : Scope} {it : Itr} {tg : Tgt} {cs : List Tst} {el : Ex} (hxe : ∀ e s, ¬ X.xe e s) (hc : X.calm = true) (ok : CompOk X scope tn fv fvi) (hi : XI X target iter it) (low : Low tn.length tg)
    (ht : ∀ cl C s H fp, XG (cxC X scope cl C (tn ++ fv) s H fp) target tg) (hcs : ∀ cl C s H fp, XCs (cxC X scope cl C (tn ++ fv) s H fp) ifs cs) (hel : ∀ cl C s H fp, XE (cxC X scope cl C (tn ++ fv) s H fp) elt el)
    (hs : ∀ x, foldedSetIterable iter X.env x = pure x) (hN : X.N.Nodup) (hy : X.N[i]? = some y) (hx : L2.Loc X.env.scope y) (hf : X.fn y = true ∨ X.env.scope.names.lookup y = some .local)
    (hsw : swapsWith (.ListComp elt [⟨target, iter, ifs, 0⟩] scope pos) (some (.Name y py)) spos.line X.env = pure true) : XS X (.Assign [.Name y py] (.ListComp elt [⟨target, iter, ifs, 0⟩] scope pos) spos) (sAsg (gName i) (eComp it tn.length fvi tg cs el)) :=
  ⟨sm_compS i (ps_comp i tn fv fvi hxe hc ok hi.out low (fun cl C s H fp => (ht cl C s H fp).out) (fun cl C s H fp => (hcs cl C s H fp).out) (fun cl C s H fp => (hel cl C s H fp).out) hs hN hy hx hf hsw) comp_lst⟩
theorem xjcs_nil {X : L2.Cx} : XCs X [] [] := ⟨.nil⟩
theorem xjcs_cons {X : L2.Cx} {e : Expr} {es : List Expr} {c : Tst} {cs : List Tst} (h : XT X e c) (r : XCs X es cs) : XCs X (e :: es) (c :: cs) := ⟨.cons h.out r.out⟩
end PL
set_option linter.all false
set_option maxRecDepth 100000
namespace PL
namespace K10
open PySem
noncomputable abbrev S (x : String) : D := .str (Str.ofString x)
noncomputable def g_NAMES : D := (.tup [(S "put"), (S "high"), (S "copy"), (S "add"), (S "less"), (S "times"), (S "cut"), (S "rest"), (S "under"), (S "same"), (S "load"), (S "store"), (S "jump"), (S "if"), (S "call")])
noncomputable def g_SHAPES : D := (.dct [(.inr (Str.ofString "put")), (.inr (Str.ofString "high")), (.inr (Str.ofString "copy")), (.inr (Str.ofString "add")), (.inr (Str.ofString "less")), (.inr (Str.ofString "times")), (.inr (Str.ofString "cut")), (.inr (Str.ofString "rest")), (.inr (Str.ofString "under")), (.inr (Str.ofString "same")), (.inr (Str.ofString "load")), (.inr (Str.ofString "store")), (.inr (Str.ofString "jump")), (.inr (Str.ofString "if")), (.inr (Str.ofString "call"))] [(S "an"), (S "an"), (S "ab"), (S "abc"), (S "abc"), (S "abc"), (S "abc"), (S "abc"), (S "abc"), (S "abc"), (S "abn"), (S "abn"), (S "n"), (S "an"), (S "")])
noncomputable def g_MOST_WORDS : D := (.int 256)
noncomputable def g_FIGURES : D := (S "0123456789")
noncomputable def g_LETTERS : D := (S "abcdefghijklmnopqrstuvwxyz")
noncomputable def g_REGS : D := (.tup [(S "r0"), (S "r1"), (S "r2"), (S "r3"), (S "r4"), (S "r5"), (S "r6"), (S "r7")])
noncomputable def g_NAMING : D := (.tup [(S "put"), (S "jump"), (S "if")])
noncomputable def m_law_draws_l1 : Sm := sIf (tAnd (tV (eVar 2)) (tAnd (tV (e2 oGe (eVar 0) (e2 oPow (eC (.int 10)) (eC (.int 18))))) (tV (e2 oGe (eVar 4) (eC (.int 4294967296)))))) (sBlk [sAppend 3 (e2 oMod (eVar 4) (eC (.int 4294967296))), sAsg (gName 4) (e2 oDiv (eVar 4) (eC (.int 4294967296)))]) (sBlk [sAsg (gName 5) (e2 oMod (e2 oMul (e2 oAdd (e2 oAdd (eVar 5) (e2 oMul (eVar 6) (eVar 6))) (eC (.int 1))) (eC (.int 69621))) (eC (.int 2147483647))), sAppend 3 (e2 oIx (eLst [eVar 5, e2 oMod (e2 oMul (eVar 5) (eVar 5)) (eC (.int 4294967296))]) (e2 oMod (eVar 5) (eC (.int 2))))])
noncomputable def m_law_draws : List D → R D := fn 7 (sBlk [sOwnL 3 (eLst []), sAsg (gName 4) (e2 oDiv (eVar 0) (eC (.int 16))), sAsg (gName 5) (e2 oMod (e2 oMul (e2 oAdd (e2 oMod (e2 oDiv (eVar 0) (eC (.int 16))) (e2 oPow (eC (.int 10)) (eC (.int 30)))) (eC (.int 1))) (e2 oAdd (eC (.int 48271)) (e2 oMul (e2 oMul (eC (.int 7919)) (eVar 1)) (eVar 1)))) (eC (.int 2147483629))), sFor (iRng1 (eC (.int 6))) (gName 6) m_law_draws_l1, sFreeze 3, sRet (eVar 3)])
noncomputable def m_law_forms : List D → R D := fn 2 (sBlk [sAsg (gName 0) (eLst [eC (S "add"), eC (S "less"), eC (S "times"), eC (S "cut"), eC (S "rest"), eC (S "under"), eC (S "same")]), sAsg (gName 1) (e2 oAdd (eLst [eTup [eC (S "put"), eC (S "an")], eTup [eC (S "high"), eC (S "an")], eTup [eC (S "copy"), eC (S "ab")]]) (eComp (iSeq (eVar 0)) 1 [] (gName 0) [] (eTup [eVar 0, eC (S "abc")]))), sRet (e2 oAdd (eVar 1) (eLst [eTup [eC (S "load"), eC (S "abn")], eTup [eC (S "store"), eC (S "abn")], eTup [eC (S "jump"), eC (S "n")], eTup [eC (S "if"), eC (S "an")], eTup [eC (S "call"), eC (S "")]]))])
noncomputable def m_law_coded_l1 : Sm := sAsg (gName 4) (e2 oAdd (eVar 4) (e2 oMul (e2 oIx (eVar 0) (e2 oAdd (eVar 5) (eC (.int 1)))) (e2 oIx (eDict [(.inr (Str.ofString "a")), (.inr (Str.ofString "b")), (.inr (Str.ofString "c")), (.inr (Str.ofString "n"))] [eC (.int 4194304), eC (.int 524288), eC (.int 65536), eC (.int 1)]) (e2 oIx (eVar 3) (eVar 5)))))
noncomputable def m_law_coded_l2 : Sm := sBlk [sAsg (gTup [2, 3]) (e2 oIx (eCall m_law_forms []) (eVar 1)), sIf (tV (e2 oEq (e2 oIx (eVar 0) (eC (.int 0))) (eVar 2))) (sBlk [sAsg (gName 4) (e2 oMul (eVar 1) (eC (.int 33554432))), sFor (iRng1 (e1 oLen (eVar 3))) (gName 5) m_law_coded_l1, sRet (eVar 4)]) (sNil)]
noncomputable def m_law_coded : List D → R D := fn 6 (sBlk [sFor (iRng1 (eC (.int 15))) (gName 1) m_law_coded_l2, sRet (eC .non)])
noncomputable def m_law_row_l1 : Sm := sBlk [sAsg (gName 6) (e2 oIx (eLst [eC (.int 8), eC (.int 65536)]) (e1 oInt (e2 oEq (e2 oIx (eVar 3) (eVar 5)) (eC (S "n"))))), sAsg (gName 7) (e2 oMod (e2 oIx (eVar 1) (eVar 5)) (eVar 6)), sIf (tAnd (tV (e2 oEq (e2 oMod (e2 oIx (eVar 1) (eC (.int 4))) (eC (.int 5))) (eC (.int 1)))) (tV (e2 oEq (eVar 5) (e2 oMod (e2 oIx (eVar 1) (eC (.int 5))) (eC (.int 3)))))) (sAsg (gName 7) (e2 oIx (eLst [eC (.int 0), e2 oSub (eVar 6) (eC (.int 1))]) (e2 oMod (e2 oDiv (e2 oIx (eVar 1) (eC (.int 4))) (eC (.int 5))) (eC (.int 2))))) (sNil), sAppend 4 (eVar 7)]
noncomputable def m_law_row : List D → R D := fn 8 (sBlk [sAsg (gTup [2, 3]) (e2 oIx (eCall m_law_forms []) (eVar 0)), sOwnL 4 (eLst []), sFor (iRng1 (e1 oLen (eVar 3))) (gName 5) m_law_row_l1, sFreeze 4, sRet (e1 oTuple (e2 oAdd (eLst [eVar 2]) (eVar 4)))])
noncomputable def m_law_words_l1 : Sm := sBlk [sAsg (gName 4) (eCall m_law_draws [e2 oIx (eVar 0) (eVar 3), eVar 3, eVar 1]), sAsg (gName 5) (eCall m_law_coded [eCall m_law_row [e2 oMod (e2 oMod (e2 oIx (eVar 0) (eVar 3)) (eC (.int 16))) (eC (.int 15)), eVar 4]]), sIf (tV (e2 oEq (e2 oMod (e2 oDiv (e2 oIx (eVar 4) (eC (.int 5))) (eC (.int 8))) (eC (.int 4))) (eC (.int 1)))) (sAsg (gName 5) (e2 oIx (eVar 4) (eC (.int 0)))) (sNil), sAppend 2 (eVar 5)]
noncomputable def m_law_words : List D → R D := fn 6 (sBlk [sOwnL 2 (eLst []), sFor (iRng2 (eC (.int 1)) (e2 oMin (e1 oLen (eVar 0)) (eC (.int 61)))) (gName 3) m_law_words_l1, sFreeze 2, sRet (eVar 2)])
noncomputable def m_is_whole : List D → R D := fn 1 (sRet (eAnd (e1 (oIsA .int) (eVar 0)) (e1 oNot (e1 (oIsA .bool) (eVar 0)))))
noncomputable def m_is_word : List D → R D := fn 1 (sRet (eAnd (eCall m_is_whole [eVar 0]) (eChain oLe oLt (eC (.int 0)) (eVar 0) (e2 oPow (eC (.int 2)) (eC (.int 32))))))
noncomputable def m_shape_of : List D → R D := fn 1 (sRet (e2 (oGet .non) (eC g_SHAPES) (eVar 0)))
noncomputable def m_bound_of : List D → R D := fn 1 (sRet (eIf (tV (e2 oEq (eVar 0) (eC (S "n")))) (e2 oPow (eC (.int 2)) (eC (.int 16))) (eC (.int 8))))
noncomputable def m_is_part : List D → R D := fn 2 (sRet (eAnd (eCall m_is_whole [eVar 1]) (eChain oLe oLt (eC (.int 0)) (eVar 1) (eCall m_bound_of [eVar 0]))))
noncomputable def m_is_row : List D → R D := fn 2 (sBlk [sIf (tOr (tNot (tV (e1 (oIsA .tuple) (eVar 0)))) (tOr (tV (e2 oEq (e1 oLen (eVar 0)) (eC (.int 0)))) (tNot (tV (e1 (oIsA .str) (e2 oIx (eVar 0) (eC (.int 0)))))))) (sRet (eC (.bl false))) (sNil), sAsg (gName 1) (eCall m_shape_of [e2 oIx (eVar 0) (eC (.int 0))]), sIf (tOr (tV (e1 oIsN (eVar 1))) (tV (e2 oNe (e1 oLen (eVar 0)) (e2 oAdd (eC (.int 1)) (e1 oLen (eVar 1)))))) (sRet (eC (.bl false))) (sNil), sRet (e1 oAll (eComp (iZip (eVar 1) (eSl (eVar 0) (some (eC (.int 1))) none)) 2 [] (gTup [0, 1]) [] (eCall m_is_part [eVar 0, eVar 1])))])
noncomputable def m_part_of : List D → R D := fn 3 (sBlk [sAsg (gName 2) (e2 oFindT (eCall m_shape_of [e2 oIx (eVar 0) (eC (.int 0))]) (eVar 1)), sRet (eIf (tV (e2 oLt (eVar 2) (eC (.int 0)))) (eC (.int 0)) (e2 oIx (eVar 0) (e2 oAdd (eC (.int 1)) (eVar 2))))])
noncomputable def m_coded : List D → R D := fn 2 (sBlk [sIf (tNot (tV (eCall m_is_row [eVar 0]))) (sNever) (sNil), sAsg (gName 1) (e2 oMul (e2 oIndexT (eC g_NAMES) (e2 oIx (eVar 0) (eC (.int 0)))) (e2 oPow (eC (.int 2)) (eC (.int 25)))), sAsg (gName 1) (e2 oAdd (e2 oAdd (eVar 1) (e2 oMul (eCall m_part_of [eVar 0, eC (S "a")]) (e2 oPow (eC (.int 2)) (eC (.int 22))))) (e2 oMul (eCall m_part_of [eVar 0, eC (S "b")]) (e2 oPow (eC (.int 2)) (eC (.int 19))))), sRet (e2 oAdd (e2 oAdd (eVar 1) (e2 oMul (eCall m_part_of [eVar 0, eC (S "c")]) (e2 oPow (eC (.int 2)) (eC (.int 16))))) (eCall m_part_of [eVar 0, eC (S "n")]))])
noncomputable def m_part_in : List D → R D := fn 2 (sBlk [sIf (tV (e2 oEq (eVar 1) (eC (S "a")))) (sRet (e2 oMod (e2 oDiv (eVar 0) (e2 oPow (eC (.int 2)) (eC (.int 22)))) (eC (.int 8)))) (sNil), sIf (tV (e2 oEq (eVar 1) (eC (S "b")))) (sRet (e2 oMod (e2 oDiv (eVar 0) (e2 oPow (eC (.int 2)) (eC (.int 19)))) (eC (.int 8)))) (sNil), sIf (tV (e2 oEq (eVar 1) (eC (S "c")))) (sRet (e2 oMod (e2 oDiv (eVar 0) (e2 oPow (eC (.int 2)) (eC (.int 16)))) (eC (.int 8)))) (sNil), sRet (e2 oMod (eVar 0) (e2 oPow (eC (.int 2)) (eC (.int 16))))])
noncomputable def m_decoded : List D → R D := fn 3 (sBlk [sIf (tOr (tNot (tV (eCall m_is_word [eVar 0]))) (tV (e2 oGe (e2 oDiv (eVar 0) (e2 oPow (eC (.int 2)) (eC (.int 25)))) (e1 oLen (eC g_NAMES))))) (sRet (eC .non)) (sNil), sAsg (gName 1) (e2 oIx (eC g_NAMES) (e2 oDiv (eVar 0) (e2 oPow (eC (.int 2)) (eC (.int 25))))), sAsg (gName 2) (e1 oTuple (e2 oAdd (eLst [eVar 1]) (eComp (iSeq (eCall m_shape_of [eVar 1])) 1 [0] (gName 0) [] (eCall m_part_in [eVar 1, eVar 0])))), sRet (eIf (tV (e2 oEq (eCall m_coded [eVar 2]) (eVar 0))) (eVar 2) (eC .non))])
noncomputable def m_shown_part : List D → R D := fn 2 (sRet (eIf (tV (e2 oEq (eVar 0) (eC (S "n")))) (e1 oStr (eVar 1)) (eFmt (Str.ofString "r") (eVar 1))))
noncomputable def m_shown_word : List D → R D := fn 3 (sBlk [sAsg (gName 1) (eCall m_decoded [eVar 0]), sIf (tV (e1 oIsN (eVar 1))) (sRet (eFmt (Str.ofString "word ") (eVar 0))) (sNil), sAsg (gName 2) (eComp (iZip (eCall m_shape_of [e2 oIx (eVar 1) (eC (.int 0))]) (eSl (eVar 1) (some (eC (.int 1))) none)) 2 [] (gTup [0, 1]) [] (eCall m_shown_part [eVar 0, eVar 1])), sRet (e2 oJoinT (eC (S " ")) (e2 oAdd (eLst [e2 oIx (eVar 1) (eC (.int 0))]) (eVar 2)))])
noncomputable def m_shown_code : List D → R D := fn 1 (sRet (e2 oJoinT (eC (S "\n")) (eComp (iSeq (eVar 0)) 1 [] (gName 0) [] (eCall m_shown_word [eVar 0]))))
noncomputable def m_name_in : List D → R D := fn 1 (sRet (eIf (tAnd (tV (e2 oInA (e2 oIx (eVar 0) (eC (.int 0))) (eC g_NAMING))) (tV (e1 (oIsA .str) (e2 oIx (eVar 0) (e1 oNeg (eC (.int 1))))))) (e2 oIx (eVar 0) (e1 oNeg (eC (.int 1)))) (eC .non)))
noncomputable def m_refuse_untold_l1 : Sm := sBlk [sAsg (gName 4) (eCall m_name_in [eVar 3]), sIf (tAnd (tV (e1 oNotN (eVar 4))) (tV (e2 oNotIn (eVar 4) (eVar 1)))) (sNever) (sNil)]
noncomputable def m_refuse_untold : List D → R D := fn 5 (sFor (iSeq (eVar 0)) (gTup [2, 3]) m_refuse_untold_l1)
noncomputable def m_lines_of : List D → R D := fn 1 (sRet (eIf (tV (e2 oEq (eVar 0) (eC (S "")))) (eLst []) (e2 oSplitT (eVar 0) (eC (S "\n")))))
noncomputable def m_is_name : List D → R D := fn 1 (sBlk [sIf (tOr (tNot (tV (eChain oLe oLe (eC (.int 1)) (e1 oLen (eVar 0)) (eC (.int 8))))) (tNot (tV (e1 oAll (eComp (iSeq (eVar 0)) 1 [] (gName 0) [] (e2 oInA (eVar 0) (eC g_LETTERS))))))) (sRet (eC (.bl false))) (sNil), sRet (eAnd (e2 oNe (eVar 0) (eC (S "word"))) (e1 oIsN (eCall m_shape_of [eVar 0])))])
noncomputable def m_told_name : List D → R D := fn 1 (sBlk [sIf (tAnd (tV (e2 oEndsT (eVar 0) (eC (S ":")))) (tV (eCall m_is_name [eSl (eVar 0) none (some (e1 oNeg (eC (.int 1))))]))) (sRet (eSl (eVar 0) none (some (e1 oNeg (eC (.int 1)))))) (sNil), sRet (eC .non)])
noncomputable def m_read_number : List D → R D := fn 3 (sBlk [sIf (tOr (tNot (tV (eChain oLe oLe (eC (.int 1)) (e1 oLen (eVar 0)) (eC (.int 10))))) (tNot (tV (e1 oAll (eComp (iSeq (eVar 0)) 1 [] (gName 0) [] (e2 oInA (eVar 0) (eC g_FIGURES))))))) (sRet (eC .non)) (sNil), sIf (tAnd (tV (e2 oEq (e2 oIx (eVar 0) (eC (.int 0))) (eC (S "0")))) (tV (e2 oGt (e1 oLen (eVar 0)) (eC (.int 1))))) (sRet (eC .non)) (sNil), sAsg (gName 2) (e1 oIntA (eVar 0)), sRet (eIf (tV (e2 oLt (eVar 2) (eVar 1))) (eVar 2) (eC .non))])
noncomputable def m_read_part : List D → R D := fn 3 (sBlk [sIf (tV (e2 oEq (eVar 1) (eC (S "w")))) (sRet (eCall m_read_number [eVar 2, e2 oPow (eC (.int 2)) (eC (.int 32))])) (sNil), sIf (tV (e2 oNe (eVar 1) (eC (S "n")))) (sRet (eIf (tV (e2 oInA (eVar 2) (eC g_REGS))) (e2 oIndexT (eC g_REGS) (eVar 2)) (eC .non))) (sNil), sIf (tAnd (tV (e2 oInA (eVar 0) (eC g_NAMING))) (tV (eCall m_is_name [eVar 2]))) (sRet (eVar 2)) (sNil), sRet (eCall m_read_number [eVar 2, eCall m_bound_of [eVar 1]])])
noncomputable def m_read_row : List D → R D := fn 5 (sBlk [sAsg (gName 1) (e2 oSplitT (eVar 0) (eC (S " "))), sAsg (gName 2) (e2 oIx (eVar 1) (eC (.int 0))), sAsg (gName 3) (eIf (tV (e2 oEq (eVar 2) (eC (S "word")))) (eC (S "w")) (eCall m_shape_of [eVar 2])), sIf (tOr (tV (e1 oIsN (eVar 3))) (tV (e2 oNe (e1 oLen (eVar 1)) (e2 oAdd (eC (.int 1)) (e1 oLen (eVar 3)))))) (sRet (eC .non)) (sNil), sAsg (gName 4) (eComp (iZip (eVar 3) (eSl (eVar 1) (some (eC (.int 1))) none)) 2 [2] (gTup [0, 1]) [] (eCall m_read_part [eVar 2, eVar 0, eVar 1])), sRet (eIf (tV (e2 oInA (eC .non) (eVar 4))) (eC .non) (e1 oTuple (e2 oAdd (eLst [eVar 2]) (eVar 4))))])
noncomputable def m_word_of : List D → R D := fn 3 (sBlk [sIf (tV (e2 oEq (e2 oIx (eVar 0) (eC (.int 0))) (eC (S "word")))) (sRet (e2 oIx (eVar 0) (eC (.int 1)))) (sNil), sAsg (gName 2) (eCall m_name_in [eVar 0]), sRet (eCall m_coded [eIf (tV (e1 oIsN (eVar 2))) (eVar 0) (e2 oAdd (eSl (eVar 0) none (some (e1 oNeg (eC (.int 1))))) (eTup [e2 oIx (eVar 1) (eVar 2)]))])])
noncomputable def m_read_code_l1 : Sm := sBlk [sAsg (gName 5) (eCall m_told_name [eVar 4]), sAsg (gName 6) (eCall m_read_row [eVar 4]), sIf (tOr (tV (e2 oInA (eVar 5) (eVar 1))) (tAnd (tV (e1 oIsN (eVar 5))) (tV (e1 oIsN (eVar 6))))) (sNever) (sNil), sIf (tV (e1 oIsN (eVar 5))) (sAppend 2 (eTup [eVar 3, eVar 6])) (sNever)]
noncomputable def m_read_code : List D → R D := fn 7 (sBlk [sIf (tNot (tV (e1 (oIsA .str) (eVar 0)))) (sNever) (sNil), sAsg (gName 1) (eDict [] []), sOwnL 2 (eLst []), sFor (iEnumC 0 (eCall m_lines_of [eVar 0])) (gTup [3, 4]) m_read_code_l1, sFreeze 2, sDrop (eCall m_refuse_untold [eVar 2, eVar 1]), sIf (tV (e2 oGt (e1 oLen (eVar 2)) (eC g_MOST_WORDS))) (sNever) (sNil), sRet (eComp (iSeq (eVar 2)) 2 [1] (gTup [0, 1]) [] (eCall m_word_of [eVar 1, eVar 2]))])
noncomputable def m_law_whole : List D → R D := fn 1 (sRet (eAnd (e1 (oIsA .int) (eVar 0)) (e1 oNot (e1 (oIsA .bool) (eVar 0)))))
noncomputable def m_law_l1 : Sm := sBlk [sAsg (gName 3) (eCall m_shown_code [eVar 2]), sAsg (gName 4) (eCall m_read_code [eVar 3]), sIf (tOr (tNot (tV (e1 (oIsA .list) (eVar 4)))) (tOr (tV (e2 oNe (eVar 4) (eVar 2))) (tV (e2 oNe (eCall m_shown_code [eVar 4]) (eVar 3))))) (sRet (eC (.bl false))) (sNil), sIf (tV (e2 oNe (eComp (iSeq (eVar 4)) 1 [] (gName 0) [tNot (tV (eCall m_law_whole [eVar 0]))] (eVar 0)) (eLst []))) (sRet (eC (.bl false))) (sNil)]
noncomputable def m_law_l2 : Sm := sBlk [sIf (tV (e2 oNe (eCall m_read_code [eCall m_shown_code [eSl (eVar 1) (some (eVar 5)) (some (e2 oAdd (eVar 5) (eC (.int 1))))]]) (eSl (eVar 1) (some (eVar 5)) (some (e2 oAdd (eVar 5) (eC (.int 1))))))) (sRet (eC (.bl false))) (sNil), sAsg (gName 6) (eLst [eCall m_shown_code [eSl (eVar 1) none (some (eVar 5))], eCall m_shown_code [eSl (eVar 1) (some (eVar 5)) none]]), sIf (tV (e2 oNe (eCall m_read_code [e2 oJoinT (eC (S "\n")) (eComp (iSeq (eVar 6)) 1 [] (gName 0) [tV (e2 oNe (eVar 0) (eC (S "")))] (eVar 0))]) (eVar 1))) (sRet (eC (.bl false))) (sNil)]
noncomputable def m_law : List D → R D := fn 7 (sBlk [sAsg (gName 1) (eCall m_law_words [eVar 0, eC (.bl true)]), sFor (iSeq (eTup [eVar 1, e2 oRep (eVar 1) (eC (.int 4))])) (gName 2) m_law_l1, sFor (iRng1 (e1 oLen (eVar 1))) (gName 5) m_law_l2, sRet (e2 oEq (eCall m_read_code [eCall m_shown_code [eLst []]]) (eLst []))])
end K10
end PL
set_option Elab.async false
set_option linter.all false
set_option maxRecDepth 100000
set_option maxHeartbeats 400000
namespace PL
namespace K10
open PySem PySem.Spec
open L2 (Hp XK)
noncomputable def top (i : Nat) : Stmt := PySem.Challenge.pw_underfloor_k10_whole_there_and_back.main.body.getD i (.Pass ⟨0, 0, 0, 0⟩)
noncomputable abbrev st_law_draws : Stmt := top 40
theorem sc_law_draws : L2.FnScope ["_law_cell", "_law_k", "_law_free", "_law_found", "_law_digits", "_law_drawn", "_law_j"] ["_law_cell", "_law_k", "_law_free"] (L2.defScope st_law_draws) := ⟨rfl, rfl, rfl, by decide +kernel, rfl, by decide +kernel, by decide +kernel⟩
theorem d_law_draws {P : Program} {w : World} {K : PySem.W.Frag} {mg : Str → Option Value} {base : Heap} {f : Addr} {fd : FuncData} (Fu : L2.Fun K "_law_draws" "_law_draws" st_law_draws f fd) (hm : mg "_law_draws" = some (.ref f))  (mg_range : mg "range" = none) : Df P w K mg base "_law_draws" 1 3 m_law_draws := by
  have sc := sc_law_draws
  refine df_of (k := 0) Fu hm sc (Fu.binds (ps := ["_law_cell", "_law_k", "_law_free"]) fun _ _ _ _ _ _ us hl => match us, hl with | [_, _, _], _ => rfl) (fun cdv A outer s H E hr => ?_)
  exact ((xjs_cons (xjs_ownL 3 sc.nd (xjf_lst xja_nil (by decide)) (by rfl) (by exact Or.inl rfl) (by exact .inl rfl) (sw1 (by rfl))) (xjs_cons (xjs_asg (xje_op op_div l_div (xje_var 0 (by rfl) (by exact Or.inl rfl) (by decide) (by decide)) xje_int) (xjg_name 4 sc.nd (by rfl) (by exact Or.inl rfl) (by first | exact .inl rfl | exact .inr rfl)) (sws1 (by rfl)) (sto2 (by rfl)) (asn1 (by rfl))) (xjs_cons (xjs_asg (xje_op L2.op_mod l_mod (xje_op L2.op_mul l_mul (xje_op op_add l_add (xje_op L2.op_mod l_mod (xje_op op_div l_div (xje_var 0 (by rfl) (by exact Or.inl rfl) (by decide) (by decide)) xje_int) (xje_op L2.op_pow l_pow xje_int xje_int)) xje_int) (xje_op op_add l_add xje_int (xje_op L2.op_mul l_mul (xje_op L2.op_mul l_mul xje_int (xje_var 1 (by rfl) (by exact Or.inl rfl) (by decide) (by decide))) (xje_var 1 (by rfl) (by exact Or.inl rfl) (by decide) (by decide))))) xje_int) (xjg_name 5 sc.nd (by rfl) (by exact Or.inl rfl) (by first | exact .inl rfl | exact .inr rfl)) (sws1 (by rfl)) (sto2 (by rfl)) (asn1 (by rfl))) (xjs_cons (xjs_for (f := m_law_draws_l1) PassesOwn.never rfl (xji_rng1 (by rfl) mg_range xje_int (st1 (by rfl))) (xjg_name 6 sc.nd (by rfl) (by exact Or.inl rfl) (by first | exact .inl rfl | exact .inr rfl)) (by delta m_law_draws_l1; exact (xjs_one (xjs_if (xjt_bool (xjw_and (xjt_val (xje_var 2 (by rfl) (by exact Or.inl rfl) (by decide) (by decide)) (tru1 (by rfl))) (xjw_and (xjt_cmp L2.op_ge l_ge bin_ge (xje_var 0 (by rfl) (by exact Or.inl rfl) (by decide) (by decide)) (xje_op L2.op_pow l_pow xje_int xje_int) (L2.nomark _)) (xjw_and1 (xjt_cmp L2.op_ge l_ge bin_ge (xje_var 4 (by rfl) (by exact Or.inl rfl) (by decide) (by decide)) xje_int (L2.nomark _)))))) (xjs_cons (xjs_append 3 (xje_op L2.op_mod l_mod (xje_var 4 (by rfl) (by exact Or.inl rfl) (by decide) (by decide)) xje_int) (by rfl) (by exact Or.inl rfl) (by decide) (by decide) base1 (few1 (by rfl) (by decide)) (by rfl) (st1 (by rfl)) (sw1 (by rfl))) (xjs_cons (xjs_asg (xje_op op_div l_div (xje_var 4 (by rfl) (by exact Or.inl rfl) (by decide) (by decide)) xje_int) (xjg_name 4 sc.nd (by rfl) (by exact Or.inl rfl) (by first | exact .inl rfl | exact .inr rfl)) (sws1 (by rfl)) (sto2 (by rfl)) (asn1 (by rfl))) xjs_nil)) (xjs_cons (xjs_asg (xje_op L2.op_mod l_mod (xje_op L2.op_mul l_mul (xje_op op_add l_add (xje_op op_add l_add (xje_var 5 (by rfl) (by exact Or.inl rfl) (by decide) (by decide)) (xje_op L2.op_mul l_mul (xje_var 6 (by rfl) (by exact Or.inl rfl) (by decide) (by decide)) (xje_var 6 (by rfl) (by exact Or.inl rfl) (by decide) (by decide)))) xje_int) xje_int) xje_int) (xjg_name 5 sc.nd (by rfl) (by exact Or.inl rfl) (by first | exact .inl rfl | exact .inr rfl)) (sws1 (by rfl)) (sto2 (by rfl)) (asn1 (by rfl))) (xjs_cons (xjs_append 3 (xje_ix (xje_lst (xja_cons (xje_var 5 (by rfl) (by exact Or.inl rfl) (by decide) (by decide)) (xja_cons (xje_op L2.op_mod l_mod (xje_op L2.op_mul l_mul (xje_var 5 (by rfl) (by exact Or.inl rfl) (by decide) (by decide)) (xje_var 5 (by rfl) (by exact Or.inl rfl) (by decide) (by decide))) xje_int) xja_nil (st1 (by rfl))) (st1 (by rfl))) (by decide)) (xje_op L2.op_mod l_mod (xje_var 5 (by rfl) (by exact Or.inl rfl) (by decide) (by decide)) xje_int) (pix1 (by rfl))) (by rfl) (by exact Or.inl rfl) (by decide) (by decide) base1 (few1 (by rfl) (by decide)) (by rfl) (st1 (by rfl)) (sw1 (by rfl))) xjs_nil))))) (fold1 (by rfl))) (xjs_freeze 3 (xjs_cons (xjs_ret (xje_var 3 (by rfl) (by exact Or.inl rfl) (by decide) (by decide))) xjs_nil))))))).out
noncomputable abbrev st_law_forms : Stmt := top 41
theorem sc_law_forms : L2.FnScope ["_law_three", "_law_forms_here"] [] (L2.defScope st_law_forms) := ⟨rfl, rfl, rfl, by decide +kernel, rfl, by decide +kernel, by decide +kernel⟩
theorem d_law_forms {P : Program} {w : World} {K : PySem.W.Frag} {mg : Str → Option Value} {base : Heap} {f : Addr} {fd : FuncData} (Fu : L2.Fun K "_law_forms" "_law_forms" st_law_forms f fd) (hm : mg "_law_forms" = some (.ref f))   : Df P w K mg base "_law_forms" 1 0 m_law_forms := by
  have sc := sc_law_forms
  refine df_of (k := 0) Fu hm sc (Fu.binds (ps := []) fun _ _ _ _ _ _ us hl => match us, hl with | [], _ => rfl) (fun cdv A outer s H E hr => ?_)
  exact ((xjs_cons (xjs_asg (xje_lst (xja_cons xje_str (xja_cons xje_str (xja_cons xje_str (xja_cons xje_str (xja_cons xje_str (xja_cons xje_str (xja_cons xje_str xja_nil (st1 (by rfl))) (st1 (by rfl))) (st1 (by rfl))) (st1 (by rfl))) (st1 (by rfl))) (st1 (by rfl))) (st1 (by rfl))) (by decide)) (xjg_name 0 sc.nd (by rfl) (by exact Or.inl rfl) (by first | exact .inl rfl | exact .inr rfl)) (sws1 (by rfl)) (sto2 (by rfl)) (asn1 (by rfl))) (xjs_cons (xjs_asg (xje_op op_add l_add (xje_lst (xja_cons (xje_tup (xja_cons xje_str (xja_cons xje_str xja_nil (st1 (by rfl))) (st1 (by rfl))) (by decide)) (xja_cons (xje_tup (xja_cons xje_str (xja_cons xje_str xja_nil (st1 (by rfl))) (st1 (by rfl))) (by decide)) (xja_cons (xje_tup (xja_cons xje_str (xja_cons xje_str xja_nil (st1 (by rfl))) (st1 (by rfl))) (by decide)) xja_nil (st1 (by rfl))) (st1 (by rfl))) (st1 (by rfl))) (by decide)) (xje_comp (xjf_comp ["_law_name"] [] [] (fun _ _ h => h) (by rfl) (compOk_mk (L2.defScope st_law_forms) ["_law_three", "_law_forms_here"] (by rfl) (by rfl) (by decide +kernel)) (xji_seq (xje_var 0 (by rfl) (by exact Or.inl rfl) (by decide) (by decide))) (low_name (by decide)) (fun cl C s H fp => by exact (xjg_name 0 (show List.Nodup (["_law_name"] : List Str) from by decide +kernel) (by rfl) (by exact Or.inl rfl) (by first | exact .inl rfl | exact .inr rfl))) (fun cl C s H fp => by exact xjcs_nil) (fun cl C s H fp => by exact (xje_tup (xja_cons (xje_var 0 (by rfl) (by first | exact Or.inl rfl | exact Or.inr (Or.inl rfl) | exact Or.inr (Or.inr rfl)) (by decide) (by decide)) (xja_cons xje_str xja_nil (st1 (by rfl))) (st1 (by rfl))) (by decide))) (fold1 (by rfl))))) (xjg_name 1 sc.nd (by rfl) (by exact Or.inl rfl) (by first | exact .inl rfl | exact .inr rfl)) (sws1 (by rfl)) (sto2 (by rfl)) (asn1 (by rfl))) (xjs_cons (xjs_ret (xje_op op_add l_add (xje_var 1 (by rfl) (by exact Or.inl rfl) (by decide) (by decide)) (xje_lst (xja_cons (xje_tup (xja_cons xje_str (xja_cons xje_str xja_nil (st1 (by rfl))) (st1 (by rfl))) (by decide)) (xja_cons (xje_tup (xja_cons xje_str (xja_cons xje_str xja_nil (st1 (by rfl))) (st1 (by rfl))) (by decide)) (xja_cons (xje_tup (xja_cons xje_str (xja_cons xje_str xja_nil (st1 (by rfl))) (st1 (by rfl))) (by decide)) (xja_cons (xje_tup (xja_cons xje_str (xja_cons xje_str xja_nil (st1 (by rfl))) (st1 (by rfl))) (by decide)) (xja_cons (xje_tup (xja_cons xje_str (xja_cons xje_str xja_nil (st1 (by rfl))) (st1 (by rfl))) (by decide)) xja_nil (st1 (by rfl))) (st1 (by rfl))) (st1 (by rfl))) (st1 (by rfl))) (st1 (by rfl))) (by decide)))) xjs_nil)))).out
noncomputable abbrev st_law_coded : Stmt := top 43
theorem sc_law_coded : L2.FnScope ["_law_row_here", "_law_place", "_law_name", "_law_form", "_law_word", "_law_k"] ["_law_row_here"] (L2.defScope st_law_coded) := ⟨rfl, rfl, rfl, by decide +kernel, rfl, by decide +kernel, by decide +kernel⟩
theorem d_law_coded {P : Program} {w : World} {K : PySem.W.Frag} {mg : Str → Option Value} {base : Heap} {f : Addr} {fd : FuncData} (Fu : L2.Fun K "_law_coded" "_law_coded" st_law_coded f fd) (hm : mg "_law_coded" = some (.ref f))  (mg_len : mg "len" = none) (mg_range : mg "range" = none) (df_law_forms : Df P w K mg base "_law_forms" 1 0 m_law_forms) : Df P w K mg base "_law_coded" 2 1 m_law_coded := by
  have sc := sc_law_coded
  refine df_of (k := 1) Fu hm sc (Fu.binds (ps := ["_law_row_here"]) fun _ _ _ _ _ _ us hl => match us, hl with | [_], _ => rfl) (fun cdv A outer s H E hr => ?_)
  exact ((xjs_cons (xjs_for (f := m_law_coded_l2) PassesOwn.never rfl (xji_rng1 (by rfl) mg_range xje_int (st1 (by rfl))) (xjg_name 1 sc.nd (by rfl) (by exact Or.inl rfl) (by first | exact .inl rfl | exact .inr rfl)) (by delta m_law_coded_l2; exact (xjs_cons (xjs_asg (xje_ix (xje_call0 df_law_forms hr (by rfl) (by decide) (by decide)) (xje_var 1 (by rfl) (by exact Or.inl rfl) (by decide) (by decide)) (pix1 (by rfl))) (xjg_tup (by rfl) (xjgs_cons 2 (xjg_name 2 sc.nd (by rfl) (by exact Or.inl rfl) (by first | exact .inl rfl | exact .inr rfl)) (xjgs_cons 3 (xjg_name 3 sc.nd (by rfl) (by exact Or.inl rfl) (by first | exact .inl rfl | exact .inr rfl)) xjgs_nil (asn1 (by rfl))) (asn1 (by rfl))) asnL (asnF (by rfl))) (sws1 (by rfl)) (sto1 (by rfl)) (asn1 (by rfl))) (xjs_cons (xjs_if (xjt_cmp (op_eqD hr.units) l_eq bin_eq (xje_ix (xje_var 0 (by rfl) (by exact Or.inl rfl) (by decide) (by decide)) xje_int (pix1 (by rfl))) (xje_var 2 (by rfl) (by exact Or.inl rfl) (by decide) (by decide)) (L2.nomark _)) (xjs_cons (xjs_asg (xje_op L2.op_mul l_mul (xje_var 1 (by rfl) (by exact Or.inl rfl) (by decide) (by decide)) xje_int) (xjg_name 4 sc.nd (by rfl) (by exact Or.inl rfl) (by first | exact .inl rfl | exact .inr rfl)) (sws1 (by rfl)) (sto2 (by rfl)) (asn1 (by rfl))) (xjs_cons (xjs_for (f := m_law_coded_l1) PassesOwn.never rfl (xji_rng1 (by rfl) mg_range (xje_b1 call_len l_len (by rfl) mg_len bt_len (xje_var 3 (by rfl) (by exact Or.inl rfl) (by decide) (by decide)) (st1 (by rfl)) (by decide) (by decide)) (st1 (by rfl))) (xjg_name 5 sc.nd (by rfl) (by exact Or.inl rfl) (by first | exact .inl rfl | exact .inr rfl)) (by delta m_law_coded_l1; exact (xjs_one (xjs_asg (xje_op op_add l_add (xje_var 4 (by rfl) (by exact Or.inl rfl) (by decide) (by decide)) (xje_op L2.op_mul l_mul (xje_ix (xje_var 0 (by rfl) (by exact Or.inl rfl) (by decide) (by decide)) (xje_op op_add l_add (xje_var 5 (by rfl) (by exact Or.inl rfl) (by decide) (by decide)) xje_int) (pix1 (by rfl))) (xje_ix (xje_dict (xjp_cons xje_str xje_int (xjp_cons xje_str xje_int (xjp_cons xje_str xje_int (xjp_cons xje_str xje_int xjp_nil)))) (by rfl) (by rfl) (by simp) (by decide) (by rfl) (by decide) (by decide +kernel)) (xje_ix (xje_var 3 (by rfl) (by exact Or.inl rfl) (by decide) (by decide)) (xje_var 5 (by rfl) (by exact Or.inl rfl) (by decide) (by decide)) (pix1 (by rfl))) (pix1 (by rfl))))) (xjg_name 4 sc.nd (by rfl) (by exact Or.inl rfl) (by first | exact .inl rfl | exact .inr rfl)) (sws1 (by rfl)) (sto2 (by rfl)) (asn1 (by rfl))))) (fold1 (by rfl))) (xjs_cons (xjs_ret (xje_var 4 (by rfl) (by exact Or.inl rfl) (by decide) (by decide))) xjs_nil))) xjs_nil') xjs_nil))) (fold1 (by rfl))) (xjs_cons (xjs_ret xje_non) xjs_nil))).out
noncomputable abbrev st_law_row : Stmt := top 42
theorem sc_law_row : L2.FnScope ["_law_way", "_law_draws_here", "_law_name", "_law_form", "_law_parts", "_law_k", "_law_most", "_law_part"] ["_law_way", "_law_draws_here"] (L2.defScope st_law_row) := ⟨rfl, rfl, rfl, by decide +kernel, rfl, by decide +kernel, by decide +kernel⟩
theorem d_law_row {P : Program} {w : World} {K : PySem.W.Frag} {mg : Str → Option Value} {base : Heap} {f : Addr} {fd : FuncData} (Fu : L2.Fun K "_law_row" "_law_row" st_law_row f fd) (hm : mg "_law_row" = some (.ref f))  (mg_int : mg "int" = none) (mg_len : mg "len" = none) (mg_range : mg "range" = none) (mg_tuple : mg "tuple" = none) (df_law_forms : Df P w K mg base "_law_forms" 1 0 m_law_forms) : Df P w K mg base "_law_row" 2 2 m_law_row := by
  have sc := sc_law_row
  refine df_of (k := 1) Fu hm sc (Fu.binds (ps := ["_law_way", "_law_draws_here"]) fun _ _ _ _ _ _ us hl => match us, hl with | [_, _], _ => rfl) (fun cdv A outer s H E hr => ?_)
  exact ((xjs_cons (xjs_asg (xje_ix (xje_call0 df_law_forms hr (by rfl) (by decide) (by decide)) (xje_var 0 (by rfl) (by exact Or.inl rfl) (by decide) (by decide)) (pix1 (by rfl))) (xjg_tup (by rfl) (xjgs_cons 2 (xjg_name 2 sc.nd (by rfl) (by exact Or.inl rfl) (by first | exact .inl rfl | exact .inr rfl)) (xjgs_cons 3 (xjg_name 3 sc.nd (by rfl) (by exact Or.inl rfl) (by first | exact .inl rfl | exact .inr rfl)) xjgs_nil (asn1 (by rfl))) (asn1 (by rfl))) asnL (asnF (by rfl))) (sws1 (by rfl)) (sto1 (by rfl)) (asn1 (by rfl))) (xjs_cons (xjs_ownL 4 sc.nd (xjf_lst xja_nil (by decide)) (by rfl) (by exact Or.inl rfl) (by exact .inl rfl) (sw1 (by rfl))) (xjs_cons (xjs_for (f := m_law_row_l1) PassesOwn.never rfl (xji_rng1 (by rfl) mg_range (xje_b1 call_len l_len (by rfl) mg_len bt_len (xje_var 3 (by rfl) (by exact Or.inl rfl) (by decide) (by decide)) (st1 (by rfl)) (by decide) (by decide)) (st1 (by rfl))) (xjg_name 5 sc.nd (by rfl) (by exact Or.inl rfl) (by first | exact .inl rfl | exact .inr rfl)) (by delta m_law_row_l1; exact (xjs_cons (xjs_asg (xje_ix (xje_lst (xja_cons xje_int (xja_cons xje_int xja_nil (st1 (by rfl))) (st1 (by rfl))) (by decide)) (xje_t1 L2.call_int1 l_int (by rfl) mg_int bt_int (xje_cmp (op_eqD hr.units) l_eq (xje_ix (xje_var 3 (by rfl) (by exact Or.inl rfl) (by decide) (by decide)) (xje_var 5 (by rfl) (by exact Or.inl rfl) (by decide) (by decide)) (pix1 (by rfl))) xje_str (L2.nomark _)) (st1 (by rfl)) (by decide) (by decide)) (pix1 (by rfl))) (xjg_name 6 sc.nd (by rfl) (by exact Or.inl rfl) (by first | exact .inl rfl | exact .inr rfl)) (sws1 (by rfl)) (sto2 (by rfl)) (asn1 (by rfl))) (xjs_cons (xjs_asg (xje_op L2.op_mod l_mod (xje_ix (xje_var 1 (by rfl) (by exact Or.inl rfl) (by decide) (by decide)) (xje_var 5 (by rfl) (by exact Or.inl rfl) (by decide) (by decide)) (pix1 (by rfl))) (xje_var 6 (by rfl) (by exact Or.inl rfl) (by decide) (by decide))) (xjg_name 7 sc.nd (by rfl) (by exact Or.inl rfl) (by first | exact .inl rfl | exact .inr rfl)) (sws1 (by rfl)) (sto2 (by rfl)) (asn1 (by rfl))) (xjs_cons (xjs_if (xjt_bool (xjw_and (xjt_cmp (op_eqD hr.units) l_eq bin_eq (xje_op L2.op_mod l_mod (xje_ix (xje_var 1 (by rfl) (by exact Or.inl rfl) (by decide) (by decide)) xje_int (pix1 (by rfl))) xje_int) xje_int (L2.nomark _)) (xjw_and1 (xjt_cmp (op_eqD hr.units) l_eq bin_eq (xje_var 5 (by rfl) (by exact Or.inl rfl) (by decide) (by decide)) (xje_op L2.op_mod l_mod (xje_ix (xje_var 1 (by rfl) (by exact Or.inl rfl) (by decide) (by decide)) xje_int (pix1 (by rfl))) xje_int) (L2.nomark _))))) (xjs_one (xjs_asg (xje_ix (xje_lst (xja_cons xje_int (xja_cons (xje_op L2.op_sub l_sub (xje_var 6 (by rfl) (by exact Or.inl rfl) (by decide) (by decide)) xje_int) xja_nil (st1 (by rfl))) (st1 (by rfl))) (by decide)) (xje_op L2.op_mod l_mod (xje_op op_div l_div (xje_ix (xje_var 1 (by rfl) (by exact Or.inl rfl) (by decide) (by decide)) xje_int (pix1 (by rfl))) xje_int) xje_int) (pix1 (by rfl))) (xjg_name 7 sc.nd (by rfl) (by exact Or.inl rfl) (by first | exact .inl rfl | exact .inr rfl)) (sws1 (by rfl)) (sto2 (by rfl)) (asn1 (by rfl)))) xjs_nil') (xjs_cons (xjs_append 4 (xje_var 7 (by rfl) (by exact Or.inl rfl) (by decide) (by decide)) (by rfl) (by exact Or.inl rfl) (by decide) (by decide) base1 (few1 (by rfl) (by decide)) (by rfl) (st1 (by rfl)) (sw1 (by rfl))) xjs_nil))))) (fold1 (by rfl))) (xjs_freeze 4 (xjs_cons (xjs_ret (xje_t1 L2.call_tuple_of l_tuple (by rfl) mg_tuple bt_tuple (xje_op op_add l_add (xje_lst (xja_cons (xje_var 2 (by rfl) (by exact Or.inl rfl) (by decide) (by decide)) xja_nil (st1 (by rfl))) (by decide)) (xje_var 4 (by rfl) (by exact Or.inl rfl) (by decide) (by decide))) (st1 (by rfl)) (by decide) (by decide))) xjs_nil)))))).out
noncomputable abbrev st_law_words : Stmt := top 45
theorem sc_law_words : L2.FnScope ["_law_script", "_law_free", "_law_words_here", "_law_k", "_law_draws_here", "_law_word"] ["_law_script", "_law_free"] (L2.defScope st_law_words) := ⟨rfl, rfl, rfl, by decide +kernel, rfl, by decide +kernel, by decide +kernel⟩
theorem d_law_words {P : Program} {w : World} {K : PySem.W.Frag} {mg : Str → Option Value} {base : Heap} {f : Addr} {fd : FuncData} (Fu : L2.Fun K "_law_words" "_law_words" st_law_words f fd) (hm : mg "_law_words" = some (.ref f))  (mg_len : mg "len" = none) (mg_min : mg "min" = none) (mg_range : mg "range" = none) (df_law_draws : Df P w K mg base "_law_draws" 1 3 m_law_draws) (df_law_row : Df P w K mg base "_law_row" 2 2 m_law_row) (df_law_coded : Df P w K mg base "_law_coded" 2 1 m_law_coded) : Df P w K mg base "_law_words" 3 2 m_law_words := by
  have sc := sc_law_words
  refine df_of (k := 2) Fu hm sc (Fu.binds (ps := ["_law_script", "_law_free"]) fun _ _ _ _ _ _ us hl => match us, hl with | [_, _], _ => rfl) (fun cdv A outer s H E hr => ?_)
  exact ((xjs_cons (xjs_ownL 2 sc.nd (xjf_lst xja_nil (by decide)) (by rfl) (by exact Or.inl rfl) (by exact .inl rfl) (sw1 (by rfl))) (xjs_cons (xjs_for (f := m_law_words_l1) PassesOwn.never rfl (xji_rng2 (by rfl) mg_range xje_int (xje_b2 (L2.call_min2 rfl) l_min (by rfl) mg_min bt_min (xje_b1 call_len l_len (by rfl) mg_len bt_len (xje_var 0 (by rfl) (by exact Or.inl rfl) (by decide) (by decide)) (st1 (by rfl)) (by decide) (by decide)) xje_int (st1 (by rfl)) (st1 (by rfl)) (by decide) (by decide)) (st1 (by rfl)) (st1 (by rfl))) (xjg_name 3 sc.nd (by rfl) (by exact Or.inl rfl) (by first | exact .inl rfl | exact .inr rfl)) (by delta m_law_words_l1; exact (xjs_cons (xjs_asg (xje_call df_law_draws hr (by rfl) (xja_cons (xje_ix (xje_var 0 (by rfl) (by exact Or.inl rfl) (by decide) (by decide)) (xje_var 3 (by rfl) (by exact Or.inl rfl) (by decide) (by decide)) (pix1 (by rfl))) (xja_cons (xje_var 3 (by rfl) (by exact Or.inl rfl) (by decide) (by decide)) (xja_cons (xje_var 1 (by rfl) (by exact Or.inl rfl) (by decide) (by decide)) xja_nil (st1 (by rfl))) (st1 (by rfl))) (st1 (by rfl))) (by decide) (by rfl) (by decide) (st1 (by rfl)) (st_any (by rfl))) (xjg_name 4 sc.nd (by rfl) (by exact Or.inl rfl) (by first | exact .inl rfl | exact .inr rfl)) (sws1 (by rfl)) (sto2 (by rfl)) (asn1 (by rfl))) (xjs_cons (xjs_asg (xje_call df_law_coded hr (by rfl) (xja_cons (xje_call df_law_row hr (by rfl) (xja_cons (xje_op L2.op_mod l_mod (xje_op L2.op_mod l_mod (xje_ix (xje_var 0 (by rfl) (by exact Or.inl rfl) (by decide) (by decide)) (xje_var 3 (by rfl) (by exact Or.inl rfl) (by decide) (by decide)) (pix1 (by rfl))) xje_int) xje_int) (xja_cons (xje_var 4 (by rfl) (by exact Or.inl rfl) (by decide) (by decide)) xja_nil (st1 (by rfl))) (st1 (by rfl))) (by decide) (by rfl) (by decide) (st1 (by rfl)) (st_any (by rfl))) xja_nil (st1 (by rfl))) (by decide) (by rfl) (by decide) (st1 (by rfl)) (st_any (by rfl))) (xjg_name 5 sc.nd (by rfl) (by exact Or.inl rfl) (by first | exact .inl rfl | exact .inr rfl)) (sws1 (by rfl)) (sto2 (by rfl)) (asn1 (by rfl))) (xjs_cons (xjs_if (xjt_cmp (op_eqD hr.units) l_eq bin_eq (xje_op L2.op_mod l_mod (xje_op op_div l_div (xje_ix (xje_var 4 (by rfl) (by exact Or.inl rfl) (by decide) (by decide)) xje_int (pix1 (by rfl))) xje_int) xje_int) xje_int (L2.nomark _)) (xjs_one (xjs_asg (xje_ix (xje_var 4 (by rfl) (by exact Or.inl rfl) (by decide) (by decide)) xje_int (pix1 (by rfl))) (xjg_name 5 sc.nd (by rfl) (by exact Or.inl rfl) (by first | exact .inl rfl | exact .inr rfl)) (sws1 (by rfl)) (sto2 (by rfl)) (asn1 (by rfl)))) xjs_nil') (xjs_cons (xjs_append 2 (xje_var 5 (by rfl) (by exact Or.inl rfl) (by decide) (by decide)) (by rfl) (by exact Or.inl rfl) (by decide) (by decide) base1 (few1 (by rfl) (by decide)) (by rfl) (st1 (by rfl)) (sw1 (by rfl))) xjs_nil))))) (fold1 (by rfl))) (xjs_freeze 2 (xjs_cons (xjs_ret (xje_var 2 (by rfl) (by exact Or.inl rfl) (by decide) (by decide))) xjs_nil))))).out
noncomputable abbrev st_is_whole : Stmt := top 5
theorem sc_is_whole : L2.FnScope ["thing"] ["thing"] (L2.defScope st_is_whole) := ⟨rfl, rfl, rfl, by decide +kernel, rfl, by decide +kernel, by decide +kernel⟩
theorem d_is_whole {P : Program} {w : World} {K : PySem.W.Frag} {mg : Str → Option Value} {base : Heap} {f : Addr} {fd : FuncData} (Fu : L2.Fun K "is_whole" "is_whole" st_is_whole f fd) (hm : mg "is_whole" = some (.ref f))  (mg_bool : mg "bool" = none) (mg_int : mg "int" = none) (mg_isinstance : mg "isinstance" = none) : Df P w K mg base "is_whole" 1 1 m_is_whole := by
  have sc := sc_is_whole
  refine df_of (k := 0) Fu hm sc (Fu.binds (ps := ["thing"]) fun _ _ _ _ _ _ us hl => match us, hl with | [_], _ => rfl) (fun cdv A outer s H E hr => ?_)
  exact ((xjs_one (xjs_ret (xje_and (xje_isA .int (xje_var 0 (by rfl) (by exact Or.inl rfl) (by decide) (by decide)) (by rfl) mg_isinstance (by rfl) mg_int bt_int (st1 (by rfl)) (st1 (by rfl)) (by decide) (by decide)) (xje_one (xje_not (xje_isA .bool (xje_var 0 (by rfl) (by exact Or.inl rfl) (by decide) (by decide)) (by rfl) mg_isinstance (by rfl) mg_bool bt_bool (st1 (by rfl)) (st1 (by rfl)) (by decide) (by decide)))))))).out
noncomputable abbrev st_is_word : Stmt := top 6
theorem sc_is_word : L2.FnScope ["thing"] ["thing"] (L2.defScope st_is_word) := ⟨rfl, rfl, rfl, by decide +kernel, rfl, by decide +kernel, by decide +kernel⟩
theorem d_is_word {P : Program} {w : World} {K : PySem.W.Frag} {mg : Str → Option Value} {base : Heap} {f : Addr} {fd : FuncData} (Fu : L2.Fun K "is_word" "is_word" st_is_word f fd) (hm : mg "is_word" = some (.ref f))  (df_is_whole : Df P w K mg base "is_whole" 1 1 m_is_whole) : Df P w K mg base "is_word" 2 1 m_is_word := by
  have sc := sc_is_word
  refine df_of (k := 1) Fu hm sc (Fu.binds (ps := ["thing"]) fun _ _ _ _ _ _ us hl => match us, hl with | [_], _ => rfl) (fun cdv A outer s H E hr => ?_)
  exact ((xjs_one (xjs_ret (xje_and (xje_call df_is_whole hr (by rfl) (xja_cons (xje_var 0 (by rfl) (by exact Or.inl rfl) (by decide) (by decide)) xja_nil (st1 (by rfl))) (by decide) (by rfl) (by decide) (st1 (by rfl)) (st_any (by rfl))) (xje_one (xje_chain L2.op_le L2.op_lt l_le l_lt xje_int (xje_var 0 (by rfl) (by exact Or.inl rfl) (by decide) (by decide)) (xje_op L2.op_pow l_pow xje_int xje_int) (by with_unfolding_all rfl))))))).out
noncomputable abbrev st_shape_of : Stmt := top 10
theorem sc_shape_of : L2.FnScope ["name"] ["name"] (L2.defScope st_shape_of) := ⟨rfl, rfl, rfl, by decide +kernel, rfl, by decide +kernel, by decide +kernel⟩
theorem d_shape_of {P : Program} {w : World} {K : PySem.W.Frag} {mg : Str → Option Value} {base : Heap} {f : Addr} {fd : FuncData} (Fu : L2.Fun K "shape_of" "shape_of" st_shape_of f fd) (hm : mg "shape_of" = some (.ref f))  (gl_SHAPES : GlD P w K mg "SHAPES" g_SHAPES) : Df P w K mg base "shape_of" 1 1 m_shape_of := by
  have sc := sc_shape_of
  refine df_of (k := 0) Fu hm sc (Fu.binds (ps := ["name"]) fun _ _ _ _ _ _ us hl => match us, hl with | [_], _ => rfl) (fun cdv A outer s H E hr => ?_)
  exact ((xjs_one (xjs_ret (xje_get1 (xje_globD gl_SHAPES (by rfl) (by decide)) (xje_var 0 (by rfl) (by exact Or.inl rfl) (by decide) (by decide)) (m1_mk base1 (by rfl) (by rfl)))))).out
noncomputable abbrev st_bound_of : Stmt := top 11
theorem sc_bound_of : L2.FnScope ["field"] ["field"] (L2.defScope st_bound_of) := ⟨rfl, rfl, rfl, by decide +kernel, rfl, by decide +kernel, by decide +kernel⟩
theorem d_bound_of {P : Program} {w : World} {K : PySem.W.Frag} {mg : Str → Option Value} {base : Heap} {f : Addr} {fd : FuncData} (Fu : L2.Fun K "bound_of" "bound_of" st_bound_of f fd) (hm : mg "bound_of" = some (.ref f))   : Df P w K mg base "bound_of" 1 1 m_bound_of := by
  have sc := sc_bound_of
  refine df_of (k := 0) Fu hm sc (Fu.binds (ps := ["field"]) fun _ _ _ _ _ _ us hl => match us, hl with | [_], _ => rfl) (fun cdv A outer s H E hr => ?_)
  exact ((xjs_one (xjs_ret (xje_if (xjt_cmp (op_eqD hr.units) l_eq bin_eq (xje_var 0 (by rfl) (by exact Or.inl rfl) (by decide) (by decide)) xje_str (L2.nomark _)) (xje_op L2.op_pow l_pow xje_int xje_int) xje_int)))).out
noncomputable abbrev st_is_part : Stmt := top 12
theorem sc_is_part : L2.FnScope ["field", "thing"] ["field", "thing"] (L2.defScope st_is_part) := ⟨rfl, rfl, rfl, by decide +kernel, rfl, by decide +kernel, by decide +kernel⟩
theorem d_is_part {P : Program} {w : World} {K : PySem.W.Frag} {mg : Str → Option Value} {base : Heap} {f : Addr} {fd : FuncData} (Fu : L2.Fun K "is_part" "is_part" st_is_part f fd) (hm : mg "is_part" = some (.ref f))  (df_is_whole : Df P w K mg base "is_whole" 1 1 m_is_whole) (df_bound_of : Df P w K mg base "bound_of" 1 1 m_bound_of) : Df P w K mg base "is_part" 2 2 m_is_part := by
  have sc := sc_is_part
  refine df_of (k := 1) Fu hm sc (Fu.binds (ps := ["field", "thing"]) fun _ _ _ _ _ _ us hl => match us, hl with | [_, _], _ => rfl) (fun cdv A outer s H E hr => ?_)
  exact ((xjs_one (xjs_ret (xje_and (xje_call df_is_whole hr (by rfl) (xja_cons (xje_var 1 (by rfl) (by exact Or.inl rfl) (by decide) (by decide)) xja_nil (st1 (by rfl))) (by decide) (by rfl) (by decide) (st1 (by rfl)) (st_any (by rfl))) (xje_one (xje_chain L2.op_le L2.op_lt l_le l_lt xje_int (xje_var 1 (by rfl) (by exact Or.inl rfl) (by decide) (by decide)) (xje_call df_bound_of hr (by rfl) (xja_cons (xje_var 0 (by rfl) (by exact Or.inl rfl) (by decide) (by decide)) xja_nil (st1 (by rfl))) (by decide) (by rfl) (by decide) (st1 (by rfl)) (st_any (by rfl))) (by with_unfolding_all rfl))))))).out
noncomputable abbrev st_is_row : Stmt := top 13
theorem sc_is_row : L2.FnScope ["thing", "shape"] ["thing"] (L2.defScope st_is_row) := ⟨rfl, rfl, rfl, by decide +kernel, rfl, by decide +kernel, by decide +kernel⟩
theorem d_is_row {P : Program} {w : World} {K : PySem.W.Frag} {mg : Str → Option Value} {base : Heap} {f : Addr} {fd : FuncData} (Fu : L2.Fun K "is_row" "is_row" st_is_row f fd) (hm : mg "is_row" = some (.ref f))  (mg_all : mg "all" = none) (mg_isinstance : mg "isinstance" = none) (mg_len : mg "len" = none) (mg_str : mg "str" = none) (mg_tuple : mg "tuple" = none) (mg_zip : mg "zip" = none) (df_shape_of : Df P w K mg base "shape_of" 1 1 m_shape_of) (df_is_part : Df P w K mg base "is_part" 2 2 m_is_part) : Df P w K mg base "is_row" 3 1 m_is_row := by
  have sc := sc_is_row
  refine df_of (k := 2) Fu hm sc (Fu.binds (ps := ["thing"]) fun _ _ _ _ _ _ us hl => match us, hl with | [_], _ => rfl) (fun cdv A outer s H E hr => ?_)
  exact ((xjs_cons (xjs_if (xjt_bool (xjw_or (xjt_not (xjt_val (xje_isA .tuple (xje_var 0 (by rfl) (by exact Or.inl rfl) (by decide) (by decide)) (by rfl) mg_isinstance (by rfl) mg_tuple bt_tuple (st1 (by rfl)) (st1 (by rfl)) (by decide) (by decide)) (tru1 (by rfl)))) (xjw_or (xjt_cmp (op_eqD hr.units) l_eq bin_eq (xje_b1 call_len l_len (by rfl) mg_len bt_len (xje_var 0 (by rfl) (by exact Or.inl rfl) (by decide) (by decide)) (st1 (by rfl)) (by decide) (by decide)) xje_int (L2.nomark _)) (xjw_or1 (xjt_not (xjt_val (xje_isA .str (xje_ix (xje_var 0 (by rfl) (by exact Or.inl rfl) (by decide) (by decide)) xje_int (pix1 (by rfl))) (by rfl) mg_isinstance (by rfl) mg_str bt_str (st1 (by rfl)) (st1 (by rfl)) (by decide) (by decide)) (tru1 (by rfl)))))))) (xjs_one (xjs_ret xje_bl)) xjs_nil') (xjs_cons (xjs_asg (xje_call df_shape_of hr (by rfl) (xja_cons (xje_ix (xje_var 0 (by rfl) (by exact Or.inl rfl) (by decide) (by decide)) xje_int (pix1 (by rfl))) xja_nil (st1 (by rfl))) (by decide) (by rfl) (by decide) (st1 (by rfl)) (st_any (by rfl))) (xjg_name 1 sc.nd (by rfl) (by exact Or.inl rfl) (by first | exact .inl rfl | exact .inr rfl)) (sws1 (by rfl)) (sto2 (by rfl)) (asn1 (by rfl))) (xjs_cons (xjs_if (xjt_bool (xjw_or (xjt_isN (xje_var 1 (by rfl) (by exact Or.inl rfl) (by decide) (by decide))) (xjw_or1 (xjt_cmp (op_neD hr.units) l_ne bin_ne (xje_b1 call_len l_len (by rfl) mg_len bt_len (xje_var 0 (by rfl) (by exact Or.inl rfl) (by decide) (by decide)) (st1 (by rfl)) (by decide) (by decide)) (xje_op op_add l_add xje_int (xje_b1 call_len l_len (by rfl) mg_len bt_len (xje_var 1 (by rfl) (by exact Or.inl rfl) (by decide) (by decide)) (st1 (by rfl)) (by decide) (by decide))) (L2.nomark _))))) (xjs_one (xjs_ret xje_bl)) xjs_nil') (xjs_cons (xjs_ret (xje_b1 (call_all rfl) l_all (by rfl) mg_all bt_all (xje_comp (xjf_comp ["field", "part"] [] [] (fun _ _ h => h) (by rfl) (compOk_mk (L2.defScope st_is_row) ["thing", "shape"] (by rfl) (by rfl) (by decide +kernel)) (xji_zip (by rfl) mg_zip (xje_var 1 (by rfl) (by exact Or.inl rfl) (by decide) (by decide)) (xje_sl (xje_var 0 (by rfl) (by exact Or.inl rfl) (by decide) (by decide)) (xjo_some xje_int) xjo_none) (st1 (by rfl)) (st1 (by rfl))) (low_tup (by decide)) (fun cl C s H fp => by exact (xjg_tup (by rfl) (xjgs_cons 0 (xjg_name 0 (show List.Nodup (["field", "part"] : List Str) from by decide +kernel) (by rfl) (by exact Or.inl rfl) (by first | exact .inl rfl | exact .inr rfl)) (xjgs_cons 1 (xjg_name 1 (show List.Nodup (["field", "part"] : List Str) from by decide +kernel) (by rfl) (by exact Or.inl rfl) (by first | exact .inl rfl | exact .inr rfl)) xjgs_nil (asn1 (by rfl))) (asn1 (by rfl))) asnL (asnF (by rfl)))) (fun cl C s H fp => by exact xjcs_nil) (fun cl C s H fp => by exact (xje_call df_is_part hr (by rfl) (xja_cons (xje_var 0 (by rfl) (by first | exact Or.inl rfl | exact Or.inr (Or.inl rfl) | exact Or.inr (Or.inr rfl)) (by decide) (by decide)) (xja_cons (xje_var 1 (by rfl) (by first | exact Or.inl rfl | exact Or.inr (Or.inl rfl) | exact Or.inr (Or.inr rfl)) (by decide) (by decide)) xja_nil (st1 (by rfl))) (st1 (by rfl))) (by decide) (by rfl) (by decide) (st1 (by rfl)) (st_any (by rfl)))) (fold1 (by rfl)))) (st1 (by rfl)) (by decide) (by decide))) xjs_nil))))).out
noncomputable abbrev st_part_of : Stmt := top 14
theorem sc_part_of : L2.FnScope ["row", "field", "place"] ["row", "field"] (L2.defScope st_part_of) := ⟨rfl, rfl, rfl, by decide +kernel, rfl, by decide +kernel, by decide +kernel⟩
theorem d_part_of {P : Program} {w : World} {K : PySem.W.Frag} {mg : Str → Option Value} {base : Heap} {f : Addr} {fd : FuncData} (Fu : L2.Fun K "part_of" "part_of" st_part_of f fd) (hm : mg "part_of" = some (.ref f))  (df_shape_of : Df P w K mg base "shape_of" 1 1 m_shape_of) : Df P w K mg base "part_of" 2 2 m_part_of := by
  have sc := sc_part_of
  refine df_of (k := 1) Fu hm sc (Fu.binds (ps := ["row", "field"]) fun _ _ _ _ _ _ us hl => match us, hl with | [_, _], _ => rfl) (fun cdv A outer s H E hr => ?_)
  exact ((xjs_cons (xjs_asg (xje_find (xje_call df_shape_of hr (by rfl) (xja_cons (xje_ix (xje_var 0 (by rfl) (by exact Or.inl rfl) (by decide) (by decide)) xje_int (pix1 (by rfl))) xja_nil (st1 (by rfl))) (by decide) (by rfl) (by decide) (st1 (by rfl)) (st_any (by rfl))) (xje_var 1 (by rfl) (by exact Or.inl rfl) (by decide) (by decide)) (m1_mk base2 (by rfl) (by rfl))) (xjg_name 2 sc.nd (by rfl) (by exact Or.inl rfl) (by first | exact .inl rfl | exact .inr rfl)) (sws1 (by rfl)) (sto2 (by rfl)) (asn1 (by rfl))) (xjs_cons (xjs_ret (xje_if (xjt_cmp L2.op_lt l_lt bin_lt (xje_var 2 (by rfl) (by exact Or.inl rfl) (by decide) (by decide)) xje_int (L2.nomark _)) xje_int (xje_ix (xje_var 0 (by rfl) (by exact Or.inl rfl) (by decide) (by decide)) (xje_op op_add l_add xje_int (xje_var 2 (by rfl) (by exact Or.inl rfl) (by decide) (by decide))) (pix1 (by rfl))))) xjs_nil))).out
noncomputable abbrev st_coded : Stmt := top 15
theorem sc_coded : L2.FnScope ["row", "word"] ["row"] (L2.defScope st_coded) := ⟨rfl, rfl, rfl, by decide +kernel, rfl, by decide +kernel, by decide +kernel⟩
theorem d_coded {P : Program} {w : World} {K : PySem.W.Frag} {mg : Str → Option Value} {base : Heap} {f : Addr} {fd : FuncData} (Fu : L2.Fun K "coded" "coded" st_coded f fd) (hm : mg "coded" = some (.ref f))  (gl_NAMES : GlT P w K mg "NAMES" g_NAMES) (df_is_row : Df P w K mg base "is_row" 3 1 m_is_row) (df_part_of : Df P w K mg base "part_of" 2 2 m_part_of) : Df P w K mg base "coded" 4 1 m_coded := by
  have sc := sc_coded
  refine df_of (k := 3) Fu hm sc (Fu.binds (ps := ["row"]) fun _ _ _ _ _ _ us hl => match us, hl with | [_], _ => rfl) (fun cdv A outer s H E hr => ?_)
  exact ((xjs_cons (xjs_if (xjt_not (xjt_val (xje_call df_is_row hr (by rfl) (xja_cons (xje_var 0 (by rfl) (by exact Or.inl rfl) (by decide) (by decide)) xja_nil (st1 (by rfl))) (by decide) (by rfl) (by decide) (st1 (by rfl)) (st_any (by rfl))) (tru1 (by rfl)))) (xjs_one xjs_never) xjs_nil') (xjs_cons (xjs_asg (xje_op L2.op_mul l_mul (xje_index gl_NAMES (by rfl) (by decide) (xje_ix (xje_var 0 (by rfl) (by exact Or.inl rfl) (by decide) (by decide)) xje_int (pix1 (by rfl))) (m1_mk base1 (by rfl) (by rfl))) (xje_op L2.op_pow l_pow xje_int xje_int)) (xjg_name 1 sc.nd (by rfl) (by exact Or.inl rfl) (by first | exact .inl rfl | exact .inr rfl)) (sws1 (by rfl)) (sto2 (by rfl)) (asn1 (by rfl))) (xjs_cons (xjs_asg (xje_op op_add l_add (xje_op op_add l_add (xje_var 1 (by rfl) (by exact Or.inl rfl) (by decide) (by decide)) (xje_op L2.op_mul l_mul (xje_call df_part_of hr (by rfl) (xja_cons (xje_var 0 (by rfl) (by exact Or.inl rfl) (by decide) (by decide)) (xja_cons xje_str xja_nil (st1 (by rfl))) (st1 (by rfl))) (by decide) (by rfl) (by decide) (st1 (by rfl)) (st_any (by rfl))) (xje_op L2.op_pow l_pow xje_int xje_int))) (xje_op L2.op_mul l_mul (xje_call df_part_of hr (by rfl) (xja_cons (xje_var 0 (by rfl) (by exact Or.inl rfl) (by decide) (by decide)) (xja_cons xje_str xja_nil (st1 (by rfl))) (st1 (by rfl))) (by decide) (by rfl) (by decide) (st1 (by rfl)) (st_any (by rfl))) (xje_op L2.op_pow l_pow xje_int xje_int))) (xjg_name 1 sc.nd (by rfl) (by exact Or.inl rfl) (by first | exact .inl rfl | exact .inr rfl)) (sws1 (by rfl)) (sto2 (by rfl)) (asn1 (by rfl))) (xjs_cons (xjs_ret (xje_op op_add l_add (xje_op op_add l_add (xje_var 1 (by rfl) (by exact Or.inl rfl) (by decide) (by decide)) (xje_op L2.op_mul l_mul (xje_call df_part_of hr (by rfl) (xja_cons (xje_var 0 (by rfl) (by exact Or.inl rfl) (by decide) (by decide)) (xja_cons xje_str xja_nil (st1 (by rfl))) (st1 (by rfl))) (by decide) (by rfl) (by decide) (st1 (by rfl)) (st_any (by rfl))) (xje_op L2.op_pow l_pow xje_int xje_int))) (xje_call df_part_of hr (by rfl) (xja_cons (xje_var 0 (by rfl) (by exact Or.inl rfl) (by decide) (by decide)) (xja_cons xje_str xja_nil (st1 (by rfl))) (st1 (by rfl))) (by decide) (by rfl) (by decide) (st1 (by rfl)) (st_any (by rfl))))) xjs_nil))))).out
noncomputable abbrev st_part_in : Stmt := top 16
theorem sc_part_in : L2.FnScope ["word", "field"] ["word", "field"] (L2.defScope st_part_in) := ⟨rfl, rfl, rfl, by decide +kernel, rfl, by decide +kernel, by decide +kernel⟩
theorem d_part_in {P : Program} {w : World} {K : PySem.W.Frag} {mg : Str → Option Value} {base : Heap} {f : Addr} {fd : FuncData} (Fu : L2.Fun K "part_in" "part_in" st_part_in f fd) (hm : mg "part_in" = some (.ref f))   : Df P w K mg base "part_in" 1 2 m_part_in := by
  have sc := sc_part_in
  refine df_of (k := 0) Fu hm sc (Fu.binds (ps := ["word", "field"]) fun _ _ _ _ _ _ us hl => match us, hl with | [_, _], _ => rfl) (fun cdv A outer s H E hr => ?_)
  exact ((xjs_cons (xjs_if (xjt_cmp (op_eqD hr.units) l_eq bin_eq (xje_var 1 (by rfl) (by exact Or.inl rfl) (by decide) (by decide)) xje_str (L2.nomark _)) (xjs_one (xjs_ret (xje_op L2.op_mod l_mod (xje_op op_div l_div (xje_var 0 (by rfl) (by exact Or.inl rfl) (by decide) (by decide)) (xje_op L2.op_pow l_pow xje_int xje_int)) xje_int))) xjs_nil') (xjs_cons (xjs_if (xjt_cmp (op_eqD hr.units) l_eq bin_eq (xje_var 1 (by rfl) (by exact Or.inl rfl) (by decide) (by decide)) xje_str (L2.nomark _)) (xjs_one (xjs_ret (xje_op L2.op_mod l_mod (xje_op op_div l_div (xje_var 0 (by rfl) (by exact Or.inl rfl) (by decide) (by decide)) (xje_op L2.op_pow l_pow xje_int xje_int)) xje_int))) xjs_nil') (xjs_cons (xjs_if (xjt_cmp (op_eqD hr.units) l_eq bin_eq (xje_var 1 (by rfl) (by exact Or.inl rfl) (by decide) (by decide)) xje_str (L2.nomark _)) (xjs_one (xjs_ret (xje_op L2.op_mod l_mod (xje_op op_div l_div (xje_var 0 (by rfl) (by exact Or.inl rfl) (by decide) (by decide)) (xje_op L2.op_pow l_pow xje_int xje_int)) xje_int))) xjs_nil') (xjs_cons (xjs_ret (xje_op L2.op_mod l_mod (xje_var 0 (by rfl) (by exact Or.inl rfl) (by decide) (by decide)) (xje_op L2.op_pow l_pow xje_int xje_int))) xjs_nil))))).out
noncomputable abbrev st_decoded : Stmt := top 17
theorem sc_decoded : L2.FnScope ["word", "name", "row"] ["word"] (L2.defScope st_decoded) := ⟨rfl, rfl, rfl, by decide +kernel, rfl, by decide +kernel, by decide +kernel⟩
theorem d_decoded {P : Program} {w : World} {K : PySem.W.Frag} {mg : Str → Option Value} {base : Heap} {f : Addr} {fd : FuncData} (Fu : L2.Fun K "decoded" "decoded" st_decoded f fd) (hm : mg "decoded" = some (.ref f))  (mg_len : mg "len" = none) (mg_tuple : mg "tuple" = none) (gl_NAMES : GlT P w K mg "NAMES" g_NAMES) (df_is_word : Df P w K mg base "is_word" 2 1 m_is_word) (df_shape_of : Df P w K mg base "shape_of" 1 1 m_shape_of) (df_part_in : Df P w K mg base "part_in" 1 2 m_part_in) (df_coded : Df P w K mg base "coded" 4 1 m_coded) : Df P w K mg base "decoded" 5 1 m_decoded := by
  have sc := sc_decoded
  refine df_of (k := 4) Fu hm sc (Fu.binds (ps := ["word"]) fun _ _ _ _ _ _ us hl => match us, hl with | [_], _ => rfl) (fun cdv A outer s H E hr => ?_)
  exact ((xjs_cons (xjs_if (xjt_bool (xjw_or (xjt_not (xjt_val (xje_call df_is_word hr (by rfl) (xja_cons (xje_var 0 (by rfl) (by exact Or.inr (Or.inl rfl)) (by decide) (by decide)) xja_nil (st1 (by rfl))) (by decide) (by rfl) (by decide) (st1 (by rfl)) (st_any (by rfl))) (tru1 (by rfl)))) (xjw_or1 (xjt_cmp L2.op_ge l_ge bin_ge (xje_op op_div l_div (xje_var 0 (by rfl) (by exact Or.inr (Or.inl rfl)) (by decide) (by decide)) (xje_op L2.op_pow l_pow xje_int xje_int)) (xje_b1 call_len l_len (by rfl) mg_len bt_len (xje_globD gl_NAMES.gl (by rfl) (by decide)) (st1 (by rfl)) (by decide) (by decide)) (L2.nomark _))))) (xjs_one (xjs_ret xje_non)) xjs_nil') (xjs_cons (xjs_asg (xje_ix (xje_globD gl_NAMES.gl (by rfl) (by decide)) (xje_op op_div l_div (xje_var 0 (by rfl) (by exact Or.inr (Or.inl rfl)) (by decide) (by decide)) (xje_op L2.op_pow l_pow xje_int xje_int)) (pix1 (by rfl))) (xjg_name 1 sc.nd (by rfl) (by exact Or.inl rfl) (by first | exact .inl rfl | exact .inr rfl)) (sws1 (by rfl)) (sto2 (by rfl)) (asn1 (by rfl))) (xjs_cons (xjs_asg (xje_t1 L2.call_tuple_of l_tuple (by rfl) mg_tuple bt_tuple (xje_op op_add l_add (xje_lst (xja_cons (xje_var 1 (by rfl) (by exact Or.inl rfl) (by decide) (by decide)) xja_nil (st1 (by rfl))) (by decide)) (xje_comp (xjf_comp ["field"] ["word"] [0] (fun _ _ h => h) (by rfl) (compOk_mk (L2.defScope st_decoded) ["word", "name", "row"] (by rfl) (by rfl) (by decide +kernel)) (xji_seq (xje_call df_shape_of hr (by rfl) (xja_cons (xje_var 1 (by rfl) (by exact Or.inl rfl) (by decide) (by decide)) xja_nil (st1 (by rfl))) (by decide) (by rfl) (by decide) (st1 (by rfl)) (st_any (by rfl)))) (low_name (by decide)) (fun cl C s H fp => by exact (xjg_name 0 (show List.Nodup (["field", "word"] : List Str) from by decide +kernel) (by rfl) (by exact Or.inl rfl) (by first | exact .inl rfl | exact .inr rfl))) (fun cl C s H fp => by exact xjcs_nil) (fun cl C s H fp => by exact (xje_call df_part_in hr (by rfl) (xja_cons (xje_var 1 (by rfl) (by first | exact Or.inl rfl | exact Or.inr (Or.inl rfl) | exact Or.inr (Or.inr rfl)) (by decide) (by decide)) (xja_cons (xje_var 0 (by rfl) (by first | exact Or.inl rfl | exact Or.inr (Or.inl rfl) | exact Or.inr (Or.inr rfl)) (by decide) (by decide)) xja_nil (st1 (by rfl))) (st1 (by rfl))) (by decide) (by rfl) (by decide) (st1 (by rfl)) (st_any (by rfl)))) (fold1 (by rfl))))) (st1 (by rfl)) (by decide) (by decide)) (xjg_name 2 sc.nd (by rfl) (by exact Or.inl rfl) (by first | exact .inl rfl | exact .inr rfl)) (sws1 (by rfl)) (sto2 (by rfl)) (asn1 (by rfl))) (xjs_cons (xjs_ret (xje_if (xjt_cmp (op_eqD hr.units) l_eq bin_eq (xje_call df_coded hr (by rfl) (xja_cons (xje_var 2 (by rfl) (by exact Or.inl rfl) (by decide) (by decide)) xja_nil (st1 (by rfl))) (by decide) (by rfl) (by decide) (st1 (by rfl)) (st_any (by rfl))) (xje_var 0 (by rfl) (by exact Or.inr (Or.inl rfl)) (by decide) (by decide)) (L2.nomark _)) (xje_var 2 (by rfl) (by exact Or.inl rfl) (by decide) (by decide)) xje_non)) xjs_nil))))).out
noncomputable abbrev st_shown_part : Stmt := top 36
theorem sc_shown_part : L2.FnScope ["field", "part"] ["field", "part"] (L2.defScope st_shown_part) := ⟨rfl, rfl, rfl, by decide +kernel, rfl, by decide +kernel, by decide +kernel⟩
theorem d_shown_part {P : Program} {w : World} {K : PySem.W.Frag} {mg : Str → Option Value} {base : Heap} {f : Addr} {fd : FuncData} (Fu : L2.Fun K "shown_part" "shown_part" st_shown_part f fd) (hm : mg "shown_part" = some (.ref f))  (mg_str : mg "str" = none) : Df P w K mg base "shown_part" 1 2 m_shown_part := by
  have sc := sc_shown_part
  refine df_of (k := 0) Fu hm sc (Fu.binds (ps := ["field", "part"]) fun _ _ _ _ _ _ us hl => match us, hl with | [_, _], _ => rfl) (fun cdv A outer s H E hr => ?_)
  exact ((xjs_one (xjs_ret (xje_if (xjt_cmp (op_eqD hr.units) l_eq bin_eq (xje_var 0 (by rfl) (by exact Or.inl rfl) (by decide) (by decide)) xje_str (L2.nomark _)) (xje_t1 L2.call_str_int l_str (by rfl) mg_str bt_str (xje_var 1 (by rfl) (by exact Or.inl rfl) (by decide) (by decide)) (st1 (by rfl)) (by decide) (by decide)) (xje_fstr xje_str (xje_var 1 (by rfl) (by exact Or.inl rfl) (by decide) (by decide))))))).out
noncomputable abbrev st_shown_word : Stmt := top 35
theorem sc_shown_word : L2.FnScope ["word", "row", "parts"] ["word"] (L2.defScope st_shown_word) := ⟨rfl, rfl, rfl, by decide +kernel, rfl, by decide +kernel, by decide +kernel⟩
theorem d_shown_word {P : Program} {w : World} {K : PySem.W.Frag} {mg : Str → Option Value} {base : Heap} {f : Addr} {fd : FuncData} (Fu : L2.Fun K "shown_word" "shown_word" st_shown_word f fd) (hm : mg "shown_word" = some (.ref f))  (mg_zip : mg "zip" = none) (df_decoded : Df P w K mg base "decoded" 5 1 m_decoded) (df_shape_of : Df P w K mg base "shape_of" 1 1 m_shape_of) (df_shown_part : Df P w K mg base "shown_part" 1 2 m_shown_part) : Df P w K mg base "shown_word" 6 1 m_shown_word := by
  have sc := sc_shown_word
  refine df_of (k := 5) Fu hm sc (Fu.binds (ps := ["word"]) fun _ _ _ _ _ _ us hl => match us, hl with | [_], _ => rfl) (fun cdv A outer s H E hr => ?_)
  exact ((xjs_cons (xjs_asg (xje_call df_decoded hr (by rfl) (xja_cons (xje_var 0 (by rfl) (by exact Or.inl rfl) (by decide) (by decide)) xja_nil (st1 (by rfl))) (by decide) (by rfl) (by decide) (st1 (by rfl)) (st_any (by rfl))) (xjg_name 1 sc.nd (by rfl) (by exact Or.inl rfl) (by first | exact .inl rfl | exact .inr rfl)) (sws1 (by rfl)) (sto2 (by rfl)) (asn1 (by rfl))) (xjs_cons (xjs_if (xjt_isN (xje_var 1 (by rfl) (by exact Or.inl rfl) (by decide) (by decide))) (xjs_one (xjs_ret (xje_fstr xje_str (xje_var 0 (by rfl) (by exact Or.inl rfl) (by decide) (by decide))))) xjs_nil') (xjs_cons (xjs_compS 2 ["field", "part"] [] [] (fun _ _ h => h) (by rfl) (compOk_mk (L2.defScope st_shown_word) ["word", "row", "parts"] (by rfl) (by rfl) (by decide +kernel)) (xji_zip (by rfl) mg_zip (xje_call df_shape_of hr (by rfl) (xja_cons (xje_ix (xje_var 1 (by rfl) (by exact Or.inl rfl) (by decide) (by decide)) xje_int (pix1 (by rfl))) xja_nil (st1 (by rfl))) (by decide) (by rfl) (by decide) (st1 (by rfl)) (st_any (by rfl))) (xje_sl (xje_var 1 (by rfl) (by exact Or.inl rfl) (by decide) (by decide)) (xjo_some xje_int) xjo_none) (st1 (by rfl)) (st1 (by rfl))) (low_tup (by decide)) (fun cl C s H fp => by exact (xjg_tup (by rfl) (xjgs_cons 0 (xjg_name 0 (show List.Nodup (["field", "part"] : List Str) from by decide +kernel) (by rfl) (by exact Or.inl rfl) (by first | exact .inl rfl | exact .inr rfl)) (xjgs_cons 1 (xjg_name 1 (show List.Nodup (["field", "part"] : List Str) from by decide +kernel) (by rfl) (by exact Or.inl rfl) (by first | exact .inl rfl | exact .inr rfl)) xjgs_nil (asn1 (by rfl))) (asn1 (by rfl))) asnL (asnF (by rfl)))) (fun cl C s H fp => by exact xjcs_nil) (fun cl C s H fp => by exact (xje_call df_shown_part hr (by rfl) (xja_cons (xje_var 0 (by rfl) (by first | exact Or.inl rfl | exact Or.inr (Or.inl rfl) | exact Or.inr (Or.inr rfl)) (by decide) (by decide)) (xja_cons (xje_var 1 (by rfl) (by first | exact Or.inl rfl | exact Or.inr (Or.inl rfl) | exact Or.inr (Or.inr rfl)) (by decide) (by decide)) xja_nil (st1 (by rfl))) (st1 (by rfl))) (by decide) (by rfl) (by decide) (st1 (by rfl)) (st_any (by rfl)))) (fold1 (by rfl)) sc.nd (by rfl) (by exact Or.inl rfl) (by exact .inl rfl) (by rfl)) (xjs_cons (xjs_ret (xje_join xje_str (xje_op op_add l_add (xje_lst (xja_cons (xje_ix (xje_var 1 (by rfl) (by exact Or.inl rfl) (by decide) (by decide)) xje_int (pix1 (by rfl))) xja_nil (st1 (by rfl))) (by decide)) (xje_var 2 (by rfl) (by exact Or.inl rfl) (by decide) (by decide))) (m1_mk base3 (by rfl) (by rfl)))) xjs_nil))))).out
noncomputable abbrev st_shown_code : Stmt := top 34
theorem sc_shown_code : L2.FnScope ["words"] ["words"] (L2.defScope st_shown_code) := ⟨rfl, rfl, rfl, by decide +kernel, rfl, by decide +kernel, by decide +kernel⟩
theorem d_shown_code {P : Program} {w : World} {K : PySem.W.Frag} {mg : Str → Option Value} {base : Heap} {f : Addr} {fd : FuncData} (Fu : L2.Fun K "shown_code" "shown_code" st_shown_code f fd) (hm : mg "shown_code" = some (.ref f))  (df_shown_word : Df P w K mg base "shown_word" 6 1 m_shown_word) : Df P w K mg base "shown_code" 7 1 m_shown_code := by
  have sc := sc_shown_code
  refine df_of (k := 6) Fu hm sc (Fu.binds (ps := ["words"]) fun _ _ _ _ _ _ us hl => match us, hl with | [_], _ => rfl) (fun cdv A outer s H E hr => ?_)
  exact ((xjs_one (xjs_ret (xje_join xje_str (xje_comp (xjf_comp ["word"] [] [] (fun _ _ h => h) (by rfl) (compOk_mk (L2.defScope st_shown_code) ["words"] (by rfl) (by rfl) (by decide +kernel)) (xji_seq (xje_var 0 (by rfl) (by exact Or.inl rfl) (by decide) (by decide))) (low_name (by decide)) (fun cl C s H fp => by exact (xjg_name 0 (show List.Nodup (["word"] : List Str) from by decide +kernel) (by rfl) (by exact Or.inl rfl) (by first | exact .inl rfl | exact .inr rfl))) (fun cl C s H fp => by exact xjcs_nil) (fun cl C s H fp => by exact (xje_call df_shown_word hr (by rfl) (xja_cons (xje_var 0 (by rfl) (by first | exact Or.inl rfl | exact Or.inr (Or.inl rfl) | exact Or.inr (Or.inr rfl)) (by decide) (by decide)) xja_nil (st1 (by rfl))) (by decide) (by rfl) (by decide) (st1 (by rfl)) (st_any (by rfl)))) (fold1 (by rfl)))) (m1_mk base3 (by rfl) (by rfl)))))).out
noncomputable abbrev st_name_in : Stmt := top 27
theorem sc_name_in : L2.FnScope ["row"] ["row"] (L2.defScope st_name_in) := ⟨rfl, rfl, rfl, by decide +kernel, rfl, by decide +kernel, by decide +kernel⟩
theorem d_name_in {P : Program} {w : World} {K : PySem.W.Frag} {mg : Str → Option Value} {base : Heap} {f : Addr} {fd : FuncData} (Fu : L2.Fun K "name_in" "name_in" st_name_in f fd) (hm : mg "name_in" = some (.ref f))  (mg_isinstance : mg "isinstance" = none) (mg_str : mg "str" = none) (gl_NAMING : GlT P w K mg "NAMING" g_NAMING) : Df P w K mg base "name_in" 1 1 m_name_in := by
  have sc := sc_name_in
  refine df_of (k := 0) Fu hm sc (Fu.binds (ps := ["row"]) fun _ _ _ _ _ _ us hl => match us, hl with | [_], _ => rfl) (fun cdv A outer s H E hr => ?_)
  exact ((xjs_one (xjs_ret (xje_if (xjt_bool (xjw_and (xjt_cmp (op_inA hr.units) l_inA bin_inA (xje_ix (xje_var 0 (by rfl) (by exact Or.inl rfl) (by decide) (by decide)) xje_int (pix1 (by rfl))) (xje_globD gl_NAMING.gl (by rfl) (by decide)) (by rfl)) (xjw_and1 (xjt_val (xje_isA .str (xje_ix (xje_var 0 (by rfl) (by exact Or.inl rfl) (by decide) (by decide)) (xje_un L2.un_neg l_neg xje_int) (pix1 (by rfl))) (by rfl) mg_isinstance (by rfl) mg_str bt_str (st1 (by rfl)) (st1 (by rfl)) (by decide) (by decide)) (tru1 (by rfl)))))) (xje_ix (xje_var 0 (by rfl) (by exact Or.inl rfl) (by decide) (by decide)) (xje_un L2.un_neg l_neg xje_int) (pix1 (by rfl))) xje_non)))).out
noncomputable abbrev st_refuse_untold : Stmt := top 26
theorem sc_refuse_untold : L2.FnScope ["rows", "places", "number", "row", "name"] ["rows", "places"] (L2.defScope st_refuse_untold) := ⟨rfl, rfl, rfl, by decide +kernel, rfl, by decide +kernel, by decide +kernel⟩
theorem d_refuse_untold {P : Program} {w : World} {K : PySem.W.Frag} {mg : Str → Option Value} {base : Heap} {f : Addr} {fd : FuncData} (Fu : L2.Fun K "refuse_untold" "refuse_untold" st_refuse_untold f fd) (hm : mg "refuse_untold" = some (.ref f))  (df_name_in : Df P w K mg base "name_in" 1 1 m_name_in) : Df P w K mg base "refuse_untold" 2 2 m_refuse_untold := by
  have sc := sc_refuse_untold
  refine df_of (k := 1) Fu hm sc (Fu.binds (ps := ["rows", "places"]) fun _ _ _ _ _ _ us hl => match us, hl with | [_, _], _ => rfl) (fun cdv A outer s H E hr => ?_)
  exact ((xjs_one (xjs_for (f := m_refuse_untold_l1) PassesOwn.never rfl (xji_seq (xje_var 0 (by rfl) (by exact Or.inl rfl) (by decide) (by decide))) (xjg_tup (by rfl) (xjgs_cons 2 (xjg_name 2 sc.nd (by rfl) (by exact Or.inl rfl) (by first | exact .inl rfl | exact .inr rfl)) (xjgs_cons 3 (xjg_name 3 sc.nd (by rfl) (by exact Or.inl rfl) (by first | exact .inl rfl | exact .inr rfl)) xjgs_nil (asn1 (by rfl))) (asn1 (by rfl))) asnL (asnF (by rfl))) (by delta m_refuse_untold_l1; exact (xjs_cons (xjs_asg (xje_call df_name_in hr (by rfl) (xja_cons (xje_var 3 (by rfl) (by exact Or.inl rfl) (by decide) (by decide)) xja_nil (st1 (by rfl))) (by decide) (by rfl) (by decide) (st1 (by rfl)) (st_any (by rfl))) (xjg_name 4 sc.nd (by rfl) (by exact Or.inl rfl) (by first | exact .inl rfl | exact .inr rfl)) (sws1 (by rfl)) (sto2 (by rfl)) (asn1 (by rfl))) (xjs_cons (xjs_if (xjt_bool (xjw_and (xjt_notN (xje_var 4 (by rfl) (by exact Or.inl rfl) (by decide) (by decide))) (xjw_and1 (xjt_cmp (op_notInD hr.units) l_notIn bin_notIn (xje_var 4 (by rfl) (by exact Or.inl rfl) (by decide) (by decide)) (xje_var 1 (by rfl) (by exact Or.inl rfl) (by decide) (by decide)) (by rfl))))) (xjs_one xjs_never) xjs_nil') xjs_nil))) (fold1 (by rfl))))).out
noncomputable abbrev st_lines_of : Stmt := top 25
theorem sc_lines_of : L2.FnScope ["text"] ["text"] (L2.defScope st_lines_of) := ⟨rfl, rfl, rfl, by decide +kernel, rfl, by decide +kernel, by decide +kernel⟩
theorem d_lines_of {P : Program} {w : World} {K : PySem.W.Frag} {mg : Str → Option Value} {base : Heap} {f : Addr} {fd : FuncData} (Fu : L2.Fun K "lines_of" "lines_of" st_lines_of f fd) (hm : mg "lines_of" = some (.ref f))   : Df P w K mg base "lines_of" 1 1 m_lines_of := by
  have sc := sc_lines_of
  refine df_of (k := 0) Fu hm sc (Fu.binds (ps := ["text"]) fun _ _ _ _ _ _ us hl => match us, hl with | [_], _ => rfl) (fun cdv A outer s H E hr => ?_)
  exact ((xjs_one (xjs_ret (xje_if (xjt_cmp (op_eqD hr.units) l_eq bin_eq (xje_var 0 (by rfl) (by exact Or.inl rfl) (by decide) (by decide)) xje_str (L2.nomark _)) (xje_lst xja_nil (by decide)) (xje_split (xje_var 0 (by rfl) (by exact Or.inl rfl) (by decide) (by decide)) xje_str (m1_mk base1 (by rfl) (by rfl))))))).out
noncomputable abbrev st_is_name : Stmt := top 30
theorem sc_is_name : L2.FnScope ["text"] ["text"] (L2.defScope st_is_name) := ⟨rfl, rfl, rfl, by decide +kernel, rfl, by decide +kernel, by decide +kernel⟩
theorem d_is_name {P : Program} {w : World} {K : PySem.W.Frag} {mg : Str → Option Value} {base : Heap} {f : Addr} {fd : FuncData} (Fu : L2.Fun K "is_name" "is_name" st_is_name f fd) (hm : mg "is_name" = some (.ref f))  (mg_all : mg "all" = none) (mg_len : mg "len" = none) (gl_LETTERS : GlD P w K mg "LETTERS" g_LETTERS) (df_shape_of : Df P w K mg base "shape_of" 1 1 m_shape_of) : Df P w K mg base "is_name" 2 1 m_is_name := by
  have sc := sc_is_name
  refine df_of (k := 1) Fu hm sc (Fu.binds (ps := ["text"]) fun _ _ _ _ _ _ us hl => match us, hl with | [_], _ => rfl) (fun cdv A outer s H E hr => ?_)
  exact ((xjs_cons (xjs_if (xjt_bool (xjw_or (xjt_not (xjt_chain L2.op_le L2.op_le l_le l_le bin_le xje_int (xje_b1 call_len l_len (by rfl) mg_len bt_len (xje_var 0 (by rfl) (by exact Or.inl rfl) (by decide) (by decide)) (st1 (by rfl)) (by decide) (by decide)) xje_int (by with_unfolding_all rfl))) (xjw_or1 (xjt_not (xjt_val (xje_b1 (call_all rfl) l_all (by rfl) mg_all bt_all (xje_comp (xjf_comp ["sign"] [] [] (fun _ _ h => h) (by rfl) (compOk_mk (L2.defScope st_is_name) ["text"] (by rfl) (by rfl) (by decide +kernel)) (xji_seq (xje_var 0 (by rfl) (by exact Or.inl rfl) (by decide) (by decide))) (low_name (by decide)) (fun cl C s H fp => by exact (xjg_name 0 (show List.Nodup (["sign"] : List Str) from by decide +kernel) (by rfl) (by exact Or.inl rfl) (by first | exact .inl rfl | exact .inr rfl))) (fun cl C s H fp => by exact xjcs_nil) (fun cl C s H fp => by exact (xje_cmp (op_inA hr.units) l_inA (xje_var 0 (by rfl) (by first | exact Or.inl rfl | exact Or.inr (Or.inl rfl) | exact Or.inr (Or.inr rfl)) (by decide) (by decide)) (xje_globD gl_LETTERS (by rfl) (by decide)) (by rfl))) (fold1 (by rfl)))) (st1 (by rfl)) (by decide) (by decide)) (tru1 (by rfl))))))) (xjs_one (xjs_ret xje_bl)) xjs_nil') (xjs_cons (xjs_ret (xje_and (xje_cmp (op_neD hr.units) l_ne (xje_var 0 (by rfl) (by exact Or.inl rfl) (by decide) (by decide)) xje_str (L2.nomark _)) (xje_one (xje_isN (xje_call df_shape_of hr (by rfl) (xja_cons (xje_var 0 (by rfl) (by exact Or.inl rfl) (by decide) (by decide)) xja_nil (st1 (by rfl))) (by decide) (by rfl) (by decide) (st1 (by rfl)) (st_any (by rfl))))))) xjs_nil))).out
noncomputable abbrev st_told_name : Stmt := top 29
theorem sc_told_name : L2.FnScope ["line"] ["line"] (L2.defScope st_told_name) := ⟨rfl, rfl, rfl, by decide +kernel, rfl, by decide +kernel, by decide +kernel⟩
theorem d_told_name {P : Program} {w : World} {K : PySem.W.Frag} {mg : Str → Option Value} {base : Heap} {f : Addr} {fd : FuncData} (Fu : L2.Fun K "told_name" "told_name" st_told_name f fd) (hm : mg "told_name" = some (.ref f))  (df_is_name : Df P w K mg base "is_name" 2 1 m_is_name) : Df P w K mg base "told_name" 3 1 m_told_name := by
  have sc := sc_told_name
  refine df_of (k := 2) Fu hm sc (Fu.binds (ps := ["line"]) fun _ _ _ _ _ _ us hl => match us, hl with | [_], _ => rfl) (fun cdv A outer s H E hr => ?_)
  exact ((xjs_cons (xjs_if (xjt_bool (xjw_and (xjt_val (xje_ends (xje_var 0 (by rfl) (by exact Or.inl rfl) (by decide) (by decide)) xje_str (m1_mk base1 (by rfl) (by rfl))) (tru1 (by rfl))) (xjw_and1 (xjt_val (xje_call df_is_name hr (by rfl) (xja_cons (xje_sl (xje_var 0 (by rfl) (by exact Or.inl rfl) (by decide) (by decide)) xjo_none (xjo_some (xje_un L2.un_neg l_neg xje_int))) xja_nil (st1 (by rfl))) (by decide) (by rfl) (by decide) (st1 (by rfl)) (st_any (by rfl))) (tru1 (by rfl)))))) (xjs_one (xjs_ret (xje_sl (xje_var 0 (by rfl) (by exact Or.inl rfl) (by decide) (by decide)) xjo_none (xjo_some (xje_un L2.un_neg l_neg xje_int))))) xjs_nil') (xjs_cons (xjs_ret xje_non) xjs_nil))).out
noncomputable abbrev st_read_number : Stmt := top 33
theorem sc_read_number : L2.FnScope ["text", "bound", "number"] ["text", "bound"] (L2.defScope st_read_number) := ⟨rfl, rfl, rfl, by decide +kernel, rfl, by decide +kernel, by decide +kernel⟩
theorem d_read_number {P : Program} {w : World} {K : PySem.W.Frag} {mg : Str → Option Value} {base : Heap} {f : Addr} {fd : FuncData} (Fu : L2.Fun K "read_number" "read_number" st_read_number f fd) (hm : mg "read_number" = some (.ref f))  (mg_all : mg "all" = none) (mg_int : mg "int" = none) (mg_len : mg "len" = none) (gl_FIGURES : GlD P w K mg "FIGURES" g_FIGURES) : Df P w K mg base "read_number" 1 2 m_read_number := by
  have sc := sc_read_number
  refine df_of (k := 0) Fu hm sc (Fu.binds (ps := ["text", "bound"]) fun _ _ _ _ _ _ us hl => match us, hl with | [_, _], _ => rfl) (fun cdv A outer s H E hr => ?_)
  exact ((xjs_cons (xjs_if (xjt_bool (xjw_or (xjt_not (xjt_chain L2.op_le L2.op_le l_le l_le bin_le xje_int (xje_b1 call_len l_len (by rfl) mg_len bt_len (xje_var 0 (by rfl) (by exact Or.inl rfl) (by decide) (by decide)) (st1 (by rfl)) (by decide) (by decide)) xje_int (by with_unfolding_all rfl))) (xjw_or1 (xjt_not (xjt_val (xje_b1 (call_all rfl) l_all (by rfl) mg_all bt_all (xje_comp (xjf_comp ["sign"] [] [] (fun _ _ h => h) (by rfl) (compOk_mk (L2.defScope st_read_number) ["text", "bound", "number"] (by rfl) (by rfl) (by decide +kernel)) (xji_seq (xje_var 0 (by rfl) (by exact Or.inl rfl) (by decide) (by decide))) (low_name (by decide)) (fun cl C s H fp => by exact (xjg_name 0 (show List.Nodup (["sign"] : List Str) from by decide +kernel) (by rfl) (by exact Or.inl rfl) (by first | exact .inl rfl | exact .inr rfl))) (fun cl C s H fp => by exact xjcs_nil) (fun cl C s H fp => by exact (xje_cmp (op_inA hr.units) l_inA (xje_var 0 (by rfl) (by first | exact Or.inl rfl | exact Or.inr (Or.inl rfl) | exact Or.inr (Or.inr rfl)) (by decide) (by decide)) (xje_globD gl_FIGURES (by rfl) (by decide)) (by rfl))) (fold1 (by rfl)))) (st1 (by rfl)) (by decide) (by decide)) (tru1 (by rfl))))))) (xjs_one (xjs_ret xje_non)) xjs_nil') (xjs_cons (xjs_if (xjt_bool (xjw_and (xjt_cmp (op_eqD hr.units) l_eq bin_eq (xje_ix (xje_var 0 (by rfl) (by exact Or.inl rfl) (by decide) (by decide)) xje_int (pix1 (by rfl))) xje_str (L2.nomark _)) (xjw_and1 (xjt_cmp L2.op_gt l_gt bin_gt (xje_b1 call_len l_len (by rfl) mg_len bt_len (xje_var 0 (by rfl) (by exact Or.inl rfl) (by decide) (by decide)) (st1 (by rfl)) (by decide) (by decide)) xje_int (L2.nomark _))))) (xjs_one (xjs_ret xje_non)) xjs_nil') (xjs_cons (xjs_asg (xje_t1 call_intA l_intA (by rfl) mg_int bt_int (xje_var 0 (by rfl) (by exact Or.inl rfl) (by decide) (by decide)) (st1 (by rfl)) (by decide) (by decide)) (xjg_name 2 sc.nd (by rfl) (by exact Or.inl rfl) (by first | exact .inl rfl | exact .inr rfl)) (sws1 (by rfl)) (sto2 (by rfl)) (asn1 (by rfl))) (xjs_cons (xjs_ret (xje_if (xjt_cmp L2.op_lt l_lt bin_lt (xje_var 2 (by rfl) (by exact Or.inl rfl) (by decide) (by decide)) (xje_var 1 (by rfl) (by exact Or.inl rfl) (by decide) (by decide)) (L2.nomark _)) (xje_var 2 (by rfl) (by exact Or.inl rfl) (by decide) (by decide)) xje_non)) xjs_nil))))).out
noncomputable abbrev st_read_part : Stmt := top 32
theorem sc_read_part : L2.FnScope ["name", "field", "text"] ["name", "field", "text"] (L2.defScope st_read_part) := ⟨rfl, rfl, rfl, by decide +kernel, rfl, by decide +kernel, by decide +kernel⟩
theorem d_read_part {P : Program} {w : World} {K : PySem.W.Frag} {mg : Str → Option Value} {base : Heap} {f : Addr} {fd : FuncData} (Fu : L2.Fun K "read_part" "read_part" st_read_part f fd) (hm : mg "read_part" = some (.ref f))  (gl_REGS : GlT P w K mg "REGS" g_REGS) (gl_NAMING : GlT P w K mg "NAMING" g_NAMING) (df_read_number : Df P w K mg base "read_number" 1 2 m_read_number) (df_is_name : Df P w K mg base "is_name" 2 1 m_is_name) (df_bound_of : Df P w K mg base "bound_of" 1 1 m_bound_of) : Df P w K mg base "read_part" 3 3 m_read_part := by
  have sc := sc_read_part
  refine df_of (k := 2) Fu hm sc (Fu.binds (ps := ["name", "field", "text"]) fun _ _ _ _ _ _ us hl => match us, hl with | [_, _, _], _ => rfl) (fun cdv A outer s H E hr => ?_)
  exact ((xjs_cons (xjs_if (xjt_cmp (op_eqD hr.units) l_eq bin_eq (xje_var 1 (by rfl) (by exact Or.inl rfl) (by decide) (by decide)) xje_str (L2.nomark _)) (xjs_one (xjs_ret (xje_call df_read_number hr (by rfl) (xja_cons (xje_var 2 (by rfl) (by exact Or.inl rfl) (by decide) (by decide)) (xja_cons (xje_op L2.op_pow l_pow xje_int xje_int) xja_nil (st1 (by rfl))) (st1 (by rfl))) (by decide) (by rfl) (by decide) (st1 (by rfl)) (st_any (by rfl))))) xjs_nil') (xjs_cons (xjs_if (xjt_cmp (op_neD hr.units) l_ne bin_ne (xje_var 1 (by rfl) (by exact Or.inl rfl) (by decide) (by decide)) xje_str (L2.nomark _)) (xjs_one (xjs_ret (xje_if (xjt_cmp (op_inA hr.units) l_inA bin_inA (xje_var 2 (by rfl) (by exact Or.inl rfl) (by decide) (by decide)) (xje_globD gl_REGS.gl (by rfl) (by decide)) (by rfl)) (xje_index gl_REGS (by rfl) (by decide) (xje_var 2 (by rfl) (by exact Or.inl rfl) (by decide) (by decide)) (m1_mk base1 (by rfl) (by rfl))) xje_non))) xjs_nil') (xjs_cons (xjs_if (xjt_bool (xjw_and (xjt_cmp (op_inA hr.units) l_inA bin_inA (xje_var 0 (by rfl) (by exact Or.inl rfl) (by decide) (by decide)) (xje_globD gl_NAMING.gl (by rfl) (by decide)) (by rfl)) (xjw_and1 (xjt_val (xje_call df_is_name hr (by rfl) (xja_cons (xje_var 2 (by rfl) (by exact Or.inl rfl) (by decide) (by decide)) xja_nil (st1 (by rfl))) (by decide) (by rfl) (by decide) (st1 (by rfl)) (st_any (by rfl))) (tru1 (by rfl)))))) (xjs_one (xjs_ret (xje_var 2 (by rfl) (by exact Or.inl rfl) (by decide) (by decide)))) xjs_nil') (xjs_cons (xjs_ret (xje_call df_read_number hr (by rfl) (xja_cons (xje_var 2 (by rfl) (by exact Or.inl rfl) (by decide) (by decide)) (xja_cons (xje_call df_bound_of hr (by rfl) (xja_cons (xje_var 1 (by rfl) (by exact Or.inl rfl) (by decide) (by decide)) xja_nil (st1 (by rfl))) (by decide) (by rfl) (by decide) (st1 (by rfl)) (st_any (by rfl))) xja_nil (st1 (by rfl))) (st1 (by rfl))) (by decide) (by rfl) (by decide) (st1 (by rfl)) (st_any (by rfl)))) xjs_nil))))).out
noncomputable abbrev st_read_row : Stmt := top 31
theorem sc_read_row : L2.FnScope ["line", "words", "name", "shape", "parts"] ["line"] (L2.defScope st_read_row) := ⟨rfl, rfl, rfl, by decide +kernel, rfl, by decide +kernel, by decide +kernel⟩
theorem d_read_row {P : Program} {w : World} {K : PySem.W.Frag} {mg : Str → Option Value} {base : Heap} {f : Addr} {fd : FuncData} (Fu : L2.Fun K "read_row" "read_row" st_read_row f fd) (hm : mg "read_row" = some (.ref f))  (mg_len : mg "len" = none) (mg_tuple : mg "tuple" = none) (mg_zip : mg "zip" = none) (df_shape_of : Df P w K mg base "shape_of" 1 1 m_shape_of) (df_read_part : Df P w K mg base "read_part" 3 3 m_read_part) : Df P w K mg base "read_row" 4 1 m_read_row := by
  have sc := sc_read_row
  refine df_of (k := 3) Fu hm sc (Fu.binds (ps := ["line"]) fun _ _ _ _ _ _ us hl => match us, hl with | [_], _ => rfl) (fun cdv A outer s H E hr => ?_)
  exact ((xjs_cons (xjs_asg (xje_split (xje_var 0 (by rfl) (by exact Or.inl rfl) (by decide) (by decide)) xje_str (m1_mk base1 (by rfl) (by rfl))) (xjg_name 1 sc.nd (by rfl) (by exact Or.inl rfl) (by first | exact .inl rfl | exact .inr rfl)) (sws1 (by rfl)) (sto2 (by rfl)) (asn1 (by rfl))) (xjs_cons (xjs_asg (xje_ix (xje_var 1 (by rfl) (by exact Or.inl rfl) (by decide) (by decide)) xje_int (pix1 (by rfl))) (xjg_name 2 sc.nd (by rfl) (by exact Or.inr rfl) (by first | exact .inl rfl | exact .inr rfl)) (sws1 (by rfl)) (sto2 (by rfl)) (asn1 (by rfl))) (xjs_cons (xjs_asg (xje_if (xjt_cmp (op_eqD hr.units) l_eq bin_eq (xje_var 2 (by rfl) (by exact Or.inr (Or.inl rfl)) (by decide) (by decide)) xje_str (L2.nomark _)) xje_str (xje_call df_shape_of hr (by rfl) (xja_cons (xje_var 2 (by rfl) (by exact Or.inr (Or.inl rfl)) (by decide) (by decide)) xja_nil (st1 (by rfl))) (by decide) (by rfl) (by decide) (st1 (by rfl)) (st_any (by rfl)))) (xjg_name 3 sc.nd (by rfl) (by exact Or.inl rfl) (by first | exact .inl rfl | exact .inr rfl)) (sws1 (by rfl)) (sto2 (by rfl)) (asn1 (by rfl))) (xjs_cons (xjs_if (xjt_bool (xjw_or (xjt_isN (xje_var 3 (by rfl) (by exact Or.inl rfl) (by decide) (by decide))) (xjw_or1 (xjt_cmp (op_neD hr.units) l_ne bin_ne (xje_b1 call_len l_len (by rfl) mg_len bt_len (xje_var 1 (by rfl) (by exact Or.inl rfl) (by decide) (by decide)) (st1 (by rfl)) (by decide) (by decide)) (xje_op op_add l_add xje_int (xje_b1 call_len l_len (by rfl) mg_len bt_len (xje_var 3 (by rfl) (by exact Or.inl rfl) (by decide) (by decide)) (st1 (by rfl)) (by decide) (by decide))) (L2.nomark _))))) (xjs_one (xjs_ret xje_non)) xjs_nil') (xjs_cons (xjs_compS 4 ["field", "part"] ["name"] [2] (fun _ _ h => h) (by rfl) (compOk_mk (L2.defScope st_read_row) ["line", "words", "name", "shape", "parts"] (by rfl) (by rfl) (by decide +kernel)) (xji_zip (by rfl) mg_zip (xje_var 3 (by rfl) (by exact Or.inl rfl) (by decide) (by decide)) (xje_sl (xje_var 1 (by rfl) (by exact Or.inl rfl) (by decide) (by decide)) (xjo_some xje_int) xjo_none) (st1 (by rfl)) (st1 (by rfl))) (low_tup (by decide)) (fun cl C s H fp => by exact (xjg_tup (by rfl) (xjgs_cons 0 (xjg_name 0 (show List.Nodup (["field", "part", "name"] : List Str) from by decide +kernel) (by rfl) (by exact Or.inl rfl) (by first | exact .inl rfl | exact .inr rfl)) (xjgs_cons 1 (xjg_name 1 (show List.Nodup (["field", "part", "name"] : List Str) from by decide +kernel) (by rfl) (by exact Or.inl rfl) (by first | exact .inl rfl | exact .inr rfl)) xjgs_nil (asn1 (by rfl))) (asn1 (by rfl))) asnL (asnF (by rfl)))) (fun cl C s H fp => by exact xjcs_nil) (fun cl C s H fp => by exact (xje_call df_read_part hr (by rfl) (xja_cons (xje_var 2 (by rfl) (by first | exact Or.inl rfl | exact Or.inr (Or.inl rfl) | exact Or.inr (Or.inr rfl)) (by decide) (by decide)) (xja_cons (xje_var 0 (by rfl) (by first | exact Or.inl rfl | exact Or.inr (Or.inl rfl) | exact Or.inr (Or.inr rfl)) (by decide) (by decide)) (xja_cons (xje_var 1 (by rfl) (by first | exact Or.inl rfl | exact Or.inr (Or.inl rfl) | exact Or.inr (Or.inr rfl)) (by decide) (by decide)) xja_nil (st1 (by rfl))) (st1 (by rfl))) (st1 (by rfl))) (by decide) (by rfl) (by decide) (st1 (by rfl)) (st_any (by rfl)))) (fold1 (by rfl)) sc.nd (by rfl) (by exact Or.inl rfl) (by exact .inl rfl) (by rfl)) (xjs_cons (xjs_ret (xje_if (xjt_cmp (op_inA hr.units) l_inA bin_inA xje_non (xje_var 4 (by rfl) (by exact Or.inl rfl) (by decide) (by decide)) (by rfl)) xje_non (xje_t1 L2.call_tuple_of l_tuple (by rfl) mg_tuple bt_tuple (xje_op op_add l_add (xje_lst (xja_cons (xje_var 2 (by rfl) (by exact Or.inr (Or.inl rfl)) (by decide) (by decide)) xja_nil (st1 (by rfl))) (by decide)) (xje_var 4 (by rfl) (by exact Or.inl rfl) (by decide) (by decide))) (st1 (by rfl)) (by decide) (by decide)))) xjs_nil))))))).out
noncomputable abbrev st_word_of : Stmt := top 28
theorem sc_word_of : L2.FnScope ["row", "places", "name"] ["row", "places"] (L2.defScope st_word_of) := ⟨rfl, rfl, rfl, by decide +kernel, rfl, by decide +kernel, by decide +kernel⟩
theorem d_word_of {P : Program} {w : World} {K : PySem.W.Frag} {mg : Str → Option Value} {base : Heap} {f : Addr} {fd : FuncData} (Fu : L2.Fun K "word_of" "word_of" st_word_of f fd) (hm : mg "word_of" = some (.ref f))  (df_name_in : Df P w K mg base "name_in" 1 1 m_name_in) (df_coded : Df P w K mg base "coded" 4 1 m_coded) : Df P w K mg base "word_of" 5 2 m_word_of := by
  have sc := sc_word_of
  refine df_of (k := 4) Fu hm sc (Fu.binds (ps := ["row", "places"]) fun _ _ _ _ _ _ us hl => match us, hl with | [_, _], _ => rfl) (fun cdv A outer s H E hr => ?_)
  exact ((xjs_cons (xjs_if (xjt_cmp (op_eqD hr.units) l_eq bin_eq (xje_ix (xje_var 0 (by rfl) (by exact Or.inl rfl) (by decide) (by decide)) xje_int (pix1 (by rfl))) xje_str (L2.nomark _)) (xjs_one (xjs_ret (xje_ix (xje_var 0 (by rfl) (by exact Or.inl rfl) (by decide) (by decide)) xje_int (pix1 (by rfl))))) xjs_nil') (xjs_cons (xjs_asg (xje_call df_name_in hr (by rfl) (xja_cons (xje_var 0 (by rfl) (by exact Or.inl rfl) (by decide) (by decide)) xja_nil (st1 (by rfl))) (by decide) (by rfl) (by decide) (st1 (by rfl)) (st_any (by rfl))) (xjg_name 2 sc.nd (by rfl) (by exact Or.inl rfl) (by first | exact .inl rfl | exact .inr rfl)) (sws1 (by rfl)) (sto2 (by rfl)) (asn1 (by rfl))) (xjs_cons (xjs_ret (xje_call df_coded hr (by rfl) (xja_cons (xje_if (xjt_isN (xje_var 2 (by rfl) (by exact Or.inl rfl) (by decide) (by decide))) (xje_var 0 (by rfl) (by exact Or.inl rfl) (by decide) (by decide)) (xje_op op_add l_add (xje_sl (xje_var 0 (by rfl) (by exact Or.inl rfl) (by decide) (by decide)) xjo_none (xjo_some (xje_un L2.un_neg l_neg xje_int))) (xje_tup (xja_cons (xje_ix (xje_var 1 (by rfl) (by exact Or.inl rfl) (by decide) (by decide)) (xje_var 2 (by rfl) (by exact Or.inl rfl) (by decide) (by decide)) (pix1 (by rfl))) xja_nil (st1 (by rfl))) (by decide)))) xja_nil (st1 (by rfl))) (by decide) (by rfl) (by decide) (st1 (by rfl)) (st_any (by rfl)))) xjs_nil)))).out
noncomputable abbrev st_read_code : Stmt := top 24
theorem sc_read_code : L2.FnScope ["text", "places", "rows", "number", "line", "name", "row"] ["text"] (L2.defScope st_read_code) := ⟨rfl, rfl, rfl, by decide +kernel, rfl, by decide +kernel, by decide +kernel⟩
theorem d_read_code {P : Program} {w : World} {K : PySem.W.Frag} {mg : Str → Option Value} {base : Heap} {f : Addr} {fd : FuncData} (Fu : L2.Fun K "read_code" "read_code" st_read_code f fd) (hm : mg "read_code" = some (.ref f))  (mg_enumerate : mg "enumerate" = none) (mg_isinstance : mg "isinstance" = none) (mg_len : mg "len" = none) (mg_str : mg "str" = none) (gl_MOST_WORDS : GlD P w K mg "MOST_WORDS" g_MOST_WORDS) (df_lines_of : Df P w K mg base "lines_of" 1 1 m_lines_of) (df_told_name : Df P w K mg base "told_name" 3 1 m_told_name) (df_read_row : Df P w K mg base "read_row" 4 1 m_read_row) (df_refuse_untold : Df P w K mg base "refuse_untold" 2 2 m_refuse_untold) (df_word_of : Df P w K mg base "word_of" 5 2 m_word_of) : Df P w K mg base "read_code" 6 1 m_read_code := by
  have sc := sc_read_code
  refine df_of (k := 5) Fu hm sc (Fu.binds (ps := ["text"]) fun _ _ _ _ _ _ us hl => match us, hl with | [_], _ => rfl) (fun cdv A outer s H E hr => ?_)
  exact ((xjs_cons (xjs_if (xjt_not (xjt_val (xje_isA .str (xje_var 0 (by rfl) (by exact Or.inl rfl) (by decide) (by decide)) (by rfl) mg_isinstance (by rfl) mg_str bt_str (st1 (by rfl)) (st1 (by rfl)) (by decide) (by decide)) (tru1 (by rfl)))) (xjs_one xjs_never) xjs_nil') (xjs_cons (xjs_asg xje_dict0 (xjg_name 1 sc.nd (by rfl) (by exact Or.inr rfl) (by first | exact .inl rfl | exact .inr rfl)) (sws1 (by rfl)) (sto2 (by rfl)) (asn1 (by rfl))) (xjs_cons (xjs_ownL 2 sc.nd (xjf_lst xja_nil (by decide)) (by rfl) (by exact Or.inl rfl) (by exact .inl rfl) (sw1 (by rfl))) (xjs_cons (xjs_for (f := m_read_code_l1) PassesOwn.never rfl (xji_enum (by rfl) mg_enumerate (xje_call df_lines_of hr (by rfl) (xja_cons (xje_var 0 (by rfl) (by exact Or.inl rfl) (by decide) (by decide)) xja_nil (st1 (by rfl))) (by decide) (by rfl) (by decide) (st1 (by rfl)) (st_any (by rfl))) (st1 (by rfl))) (xjg_tup (by rfl) (xjgs_cons 3 (xjg_name 3 sc.nd (by rfl) (by exact Or.inl rfl) (by first | exact .inl rfl | exact .inr rfl)) (xjgs_cons 4 (xjg_name 4 sc.nd (by rfl) (by exact Or.inl rfl) (by first | exact .inl rfl | exact .inr rfl)) xjgs_nil (asn1 (by rfl))) (asn1 (by rfl))) asnL (asnF (by rfl))) (by delta m_read_code_l1; exact (xjs_cons (xjs_asg (xje_call df_told_name hr (by rfl) (xja_cons (xje_var 4 (by rfl) (by exact Or.inl rfl) (by decide) (by decide)) xja_nil (st1 (by rfl))) (by decide) (by rfl) (by decide) (st1 (by rfl)) (st_any (by rfl))) (xjg_name 5 sc.nd (by rfl) (by exact Or.inl rfl) (by first | exact .inl rfl | exact .inr rfl)) (sws1 (by rfl)) (sto2 (by rfl)) (asn1 (by rfl))) (xjs_cons (xjs_asg (xje_call df_read_row hr (by rfl) (xja_cons (xje_var 4 (by rfl) (by exact Or.inl rfl) (by decide) (by decide)) xja_nil (st1 (by rfl))) (by decide) (by rfl) (by decide) (st1 (by rfl)) (st_any (by rfl))) (xjg_name 6 sc.nd (by rfl) (by exact Or.inl rfl) (by first | exact .inl rfl | exact .inr rfl)) (sws1 (by rfl)) (sto2 (by rfl)) (asn1 (by rfl))) (xjs_cons (xjs_if (xjt_bool (xjw_or (xjt_cmp (op_inA hr.units) l_inA bin_inA (xje_var 5 (by rfl) (by exact Or.inl rfl) (by decide) (by decide)) (xje_var 1 (by rfl) (by exact Or.inr (Or.inl rfl)) (by decide) (by decide)) (by rfl)) (xjw_or1 (xjt_bool (xjw_and (xjt_isN (xje_var 5 (by rfl) (by exact Or.inl rfl) (by decide) (by decide))) (xjw_and1 (xjt_isN (xje_var 6 (by rfl) (by exact Or.inl rfl) (by decide) (by decide))))))))) (xjs_one xjs_never) xjs_nil') (xjs_cons (xjs_if (xjt_isN (xje_var 5 (by rfl) (by exact Or.inl rfl) (by decide) (by decide))) (xjs_one (xjs_append 2 (xje_tup (xja_cons (xje_var 3 (by rfl) (by exact Or.inl rfl) (by decide) (by decide)) (xja_cons (xje_var 6 (by rfl) (by exact Or.inl rfl) (by decide) (by decide)) xja_nil (st1 (by rfl))) (st1 (by rfl))) (by decide)) (by rfl) (by exact Or.inl rfl) (by decide) (by decide) base1 (few1 (by rfl) (by decide)) (by rfl) (st1 (by rfl)) (sw1 (by rfl)))) (xjs_one xjs_never)) xjs_nil))))) (fold1 (by rfl))) (xjs_freeze 2 (xjs_cons (xjs_drop (xje_call df_refuse_untold hr (by rfl) (xja_cons (xje_var 2 (by rfl) (by exact Or.inl rfl) (by decide) (by decide)) (xja_cons (xje_var 1 (by rfl) (by exact Or.inr (Or.inl rfl)) (by decide) (by decide)) xja_nil (st1 (by rfl))) (st1 (by rfl))) (by decide) (by rfl) (by decide) (st1 (by rfl)) (st_any (by rfl))) (sw1 (by rfl))) (xjs_cons (xjs_if (xjt_cmp L2.op_gt l_gt bin_gt (xje_b1 call_len l_len (by rfl) mg_len bt_len (xje_var 2 (by rfl) (by exact Or.inl rfl) (by decide) (by decide)) (st1 (by rfl)) (by decide) (by decide)) (xje_globD gl_MOST_WORDS (by rfl) (by decide)) (L2.nomark _)) (xjs_one xjs_never) xjs_nil') (xjs_cons (xjs_ret (xje_comp (xjf_comp ["number", "row"] ["places"] [1] (fun _ _ h => h) (by rfl) (compOk_mk (L2.defScope st_read_code) ["text", "places", "rows", "number", "line", "name", "row"] (by rfl) (by rfl) (by decide +kernel)) (xji_seq (xje_var 2 (by rfl) (by exact Or.inl rfl) (by decide) (by decide))) (low_tup (by decide)) (fun cl C s H fp => by exact (xjg_tup (by rfl) (xjgs_cons 0 (xjg_name 0 (show List.Nodup (["number", "row", "places"] : List Str) from by decide +kernel) (by rfl) (by exact Or.inl rfl) (by first | exact .inl rfl | exact .inr rfl)) (xjgs_cons 1 (xjg_name 1 (show List.Nodup (["number", "row", "places"] : List Str) from by decide +kernel) (by rfl) (by exact Or.inl rfl) (by first | exact .inl rfl | exact .inr rfl)) xjgs_nil (asn1 (by rfl))) (asn1 (by rfl))) asnL (asnF (by rfl)))) (fun cl C s H fp => by exact xjcs_nil) (fun cl C s H fp => by exact (xje_call df_word_of hr (by rfl) (xja_cons (xje_var 1 (by rfl) (by first | exact Or.inl rfl | exact Or.inr (Or.inl rfl) | exact Or.inr (Or.inr rfl)) (by decide) (by decide)) (xja_cons (xje_var 2 (by rfl) (by first | exact Or.inl rfl | exact Or.inr (Or.inl rfl) | exact Or.inr (Or.inr rfl)) (by decide) (by decide)) xja_nil (st1 (by rfl))) (st1 (by rfl))) (by decide) (by rfl) (by decide) (st1 (by rfl)) (st_any (by rfl)))) (fold1 (by rfl))))) xjs_nil))))))))).out
noncomputable abbrev st_law_whole : Stmt := top 39
theorem sc_law_whole : L2.FnScope ["_law_found"] ["_law_found"] (L2.defScope st_law_whole) := ⟨rfl, rfl, rfl, by decide +kernel, rfl, by decide +kernel, by decide +kernel⟩
theorem d_law_whole {P : Program} {w : World} {K : PySem.W.Frag} {mg : Str → Option Value} {base : Heap} {f : Addr} {fd : FuncData} (Fu : L2.Fun K "_law_whole" "_law_whole" st_law_whole f fd) (hm : mg "_law_whole" = some (.ref f))  (mg_bool : mg "bool" = none) (mg_int : mg "int" = none) (mg_isinstance : mg "isinstance" = none) : Df P w K mg base "_law_whole" 1 1 m_law_whole := by
  have sc := sc_law_whole
  refine df_of (k := 0) Fu hm sc (Fu.binds (ps := ["_law_found"]) fun _ _ _ _ _ _ us hl => match us, hl with | [_], _ => rfl) (fun cdv A outer s H E hr => ?_)
  exact ((xjs_one (xjs_ret (xje_and (xje_isA .int (xje_var 0 (by rfl) (by exact Or.inl rfl) (by decide) (by decide)) (by rfl) mg_isinstance (by rfl) mg_int bt_int (st1 (by rfl)) (st1 (by rfl)) (by decide) (by decide)) (xje_one (xje_not (xje_isA .bool (xje_var 0 (by rfl) (by exact Or.inl rfl) (by decide) (by decide)) (by rfl) mg_isinstance (by rfl) mg_bool bt_bool (st1 (by rfl)) (st1 (by rfl)) (by decide) (by decide)))))))).out
noncomputable abbrev st_law : Stmt := top 46
theorem sc_law : L2.FnScope ["_law_script", "_law_words_here", "_law_some", "_law_text", "_law_found", "_law_k", "_law_both"] ["_law_script"] (L2.defScope st_law) := ⟨rfl, rfl, rfl, by decide +kernel, rfl, by decide +kernel, by decide +kernel⟩
theorem x_law {P : Program} {w : World} {K : PySem.W.Frag} {mg : Str → Option Value} {base : Heap} {f : Addr} {fd : FuncData} (Fu : L2.Fun K "law" "law" st_law f fd) (hm : mg "law" = some (.ref f))  (mg_isinstance : mg "isinstance" = none) (mg_len : mg "len" = none) (mg_list : mg "list" = none) (mg_range : mg "range" = none) (df_law_words : Df P w K mg base "_law_words" 3 2 m_law_words) (df_shown_code : Df P w K mg base "shown_code" 7 1 m_shown_code) (df_read_code : Df P w K mg base "read_code" 6 1 m_read_code) (df_law_whole : Df P w K mg base "_law_whole" 1 1 m_law_whole) : L2.FnOk P w K mg base L2.CX0 8 f fd ["_law_script"] (spM ⟨K, P, w⟩ m_law 1) := by
  have sc := sc_law
  refine fnok_of (k := 7) Fu sc (fun cdv A outer s H E hr => ?_)
  exact ((xjs_cons (xjs_asg (xje_call df_law_words hr (by rfl) (xja_cons (xje_var 0 (by rfl) (by exact Or.inl rfl) (by decide) (by decide)) (xja_cons xje_bl xja_nil (st1 (by rfl))) (st1 (by rfl))) (by decide) (by rfl) (by decide) (st1 (by rfl)) (st_any (by rfl))) (xjg_name 1 sc.nd (by rfl) (by exact Or.inl rfl) (by first | exact .inl rfl | exact .inr rfl)) (sws1 (by rfl)) (sto2 (by rfl)) (asn1 (by rfl))) (xjs_cons (xjs_for (f := m_law_l1) PassesOwn.never rfl (xji_seq (xje_tup (xja_cons (xje_var 1 (by rfl) (by exact Or.inl rfl) (by decide) (by decide)) (xja_cons (xje_op op_repM l_rep (xje_var 1 (by rfl) (by exact Or.inl rfl) (by decide) (by decide)) xje_int) xja_nil (st1 (by rfl))) (st1 (by rfl))) (by decide))) (xjg_name 2 sc.nd (by rfl) (by exact Or.inl rfl) (by first | exact .inl rfl | exact .inr rfl)) (by delta m_law_l1; exact (xjs_cons (xjs_asg (xje_call df_shown_code hr (by rfl) (xja_cons (xje_var 2 (by rfl) (by exact Or.inl rfl) (by decide) (by decide)) xja_nil (st1 (by rfl))) (by decide) (by rfl) (by decide) (st1 (by rfl)) (st_any (by rfl))) (xjg_name 3 sc.nd (by rfl) (by exact Or.inl rfl) (by first | exact .inl rfl | exact .inr rfl)) (sws1 (by rfl)) (sto2 (by rfl)) (asn1 (by rfl))) (xjs_cons (xjs_asg (xje_call df_read_code hr (by rfl) (xja_cons (xje_var 3 (by rfl) (by exact Or.inl rfl) (by decide) (by decide)) xja_nil (st1 (by rfl))) (by decide) (by rfl) (by decide) (st1 (by rfl)) (st_any (by rfl))) (xjg_name 4 sc.nd (by rfl) (by exact Or.inl rfl) (by first | exact .inl rfl | exact .inr rfl)) (sws1 (by rfl)) (sto2 (by rfl)) (asn1 (by rfl))) (xjs_cons (xjs_if (xjt_bool (xjw_or (xjt_not (xjt_val (xje_isA .list (xje_var 4 (by rfl) (by exact Or.inl rfl) (by decide) (by decide)) (by rfl) mg_isinstance (by rfl) mg_list bt_list (st1 (by rfl)) (st1 (by rfl)) (by decide) (by decide)) (tru1 (by rfl)))) (xjw_or (xjt_cmp (op_neD hr.units) l_ne bin_ne (xje_var 4 (by rfl) (by exact Or.inl rfl) (by decide) (by decide)) (xje_var 2 (by rfl) (by exact Or.inl rfl) (by decide) (by decide)) (L2.nomark _)) (xjw_or1 (xjt_cmp (op_neD hr.units) l_ne bin_ne (xje_call df_shown_code hr (by rfl) (xja_cons (xje_var 4 (by rfl) (by exact Or.inl rfl) (by decide) (by decide)) xja_nil (st1 (by rfl))) (by decide) (by rfl) (by decide) (st1 (by rfl)) (st_any (by rfl))) (xje_var 3 (by rfl) (by exact Or.inl rfl) (by decide) (by decide)) (L2.nomark _)))))) (xjs_one (xjs_ret xje_bl)) xjs_nil') (xjs_cons (xjs_if (xjt_cmp (op_neD hr.units) l_ne bin_ne (xje_comp (xjf_comp ["_law_word"] [] [] (fun _ _ h => h) (by rfl) (compOk_mk (L2.defScope st_law) ["_law_script", "_law_words_here", "_law_some", "_law_text", "_law_found", "_law_k", "_law_both"] (by rfl) (by rfl) (by decide +kernel)) (xji_seq (xje_var 4 (by rfl) (by exact Or.inl rfl) (by decide) (by decide))) (low_name (by decide)) (fun cl C s H fp => by exact (xjg_name 0 (show List.Nodup (["_law_word"] : List Str) from by decide +kernel) (by rfl) (by exact Or.inl rfl) (by first | exact .inl rfl | exact .inr rfl))) (fun cl C s H fp => by exact (xjcs_cons (xjt_not (xjt_val (xje_call df_law_whole hr (by rfl) (xja_cons (xje_var 0 (by rfl) (by first | exact Or.inl rfl | exact Or.inr (Or.inl rfl) | exact Or.inr (Or.inr rfl)) (by decide) (by decide)) xja_nil (st1 (by rfl))) (by decide) (by rfl) (by decide) (st1 (by rfl)) (st_any (by rfl))) (tru1 (by rfl)))) xjcs_nil)) (fun cl C s H fp => by exact (xje_var 0 (by rfl) (by first | exact Or.inl rfl | exact Or.inr (Or.inl rfl) | exact Or.inr (Or.inr rfl)) (by decide) (by decide))) (fold1 (by rfl)))) (xje_lst xja_nil (by decide)) (L2.nomark _)) (xjs_one (xjs_ret xje_bl)) xjs_nil') xjs_nil))))) (fold1 (by rfl))) (xjs_cons (xjs_for (f := m_law_l2) PassesOwn.never rfl (xji_rng1 (by rfl) mg_range (xje_b1 call_len l_len (by rfl) mg_len bt_len (xje_var 1 (by rfl) (by exact Or.inl rfl) (by decide) (by decide)) (st1 (by rfl)) (by decide) (by decide)) (st1 (by rfl))) (xjg_name 5 sc.nd (by rfl) (by exact Or.inl rfl) (by first | exact .inl rfl | exact .inr rfl)) (by delta m_law_l2; exact (xjs_cons (xjs_if (xjt_cmp (op_neD hr.units) l_ne bin_ne (xje_call df_read_code hr (by rfl) (xja_cons (xje_call df_shown_code hr (by rfl) (xja_cons (xje_sl (xje_var 1 (by rfl) (by exact Or.inl rfl) (by decide) (by decide)) (xjo_some (xje_var 5 (by rfl) (by exact Or.inl rfl) (by decide) (by decide))) (xjo_some (xje_op op_add l_add (xje_var 5 (by rfl) (by exact Or.inl rfl) (by decide) (by decide)) xje_int))) xja_nil (st1 (by rfl))) (by decide) (by rfl) (by decide) (st1 (by rfl)) (st_any (by rfl))) xja_nil (st1 (by rfl))) (by decide) (by rfl) (by decide) (st1 (by rfl)) (st_any (by rfl))) (xje_sl (xje_var 1 (by rfl) (by exact Or.inl rfl) (by decide) (by decide)) (xjo_some (xje_var 5 (by rfl) (by exact Or.inl rfl) (by decide) (by decide))) (xjo_some (xje_op op_add l_add (xje_var 5 (by rfl) (by exact Or.inl rfl) (by decide) (by decide)) xje_int))) (L2.nomark _)) (xjs_one (xjs_ret xje_bl)) xjs_nil') (xjs_cons (xjs_asg (xje_lst (xja_cons (xje_call df_shown_code hr (by rfl) (xja_cons (xje_sl (xje_var 1 (by rfl) (by exact Or.inl rfl) (by decide) (by decide)) xjo_none (xjo_some (xje_var 5 (by rfl) (by exact Or.inl rfl) (by decide) (by decide)))) xja_nil (st1 (by rfl))) (by decide) (by rfl) (by decide) (st1 (by rfl)) (st_any (by rfl))) (xja_cons (xje_call df_shown_code hr (by rfl) (xja_cons (xje_sl (xje_var 1 (by rfl) (by exact Or.inl rfl) (by decide) (by decide)) (xjo_some (xje_var 5 (by rfl) (by exact Or.inl rfl) (by decide) (by decide))) xjo_none) xja_nil (st1 (by rfl))) (by decide) (by rfl) (by decide) (st1 (by rfl)) (st_any (by rfl))) xja_nil (st1 (by rfl))) (st1 (by rfl))) (by decide)) (xjg_name 6 sc.nd (by rfl) (by exact Or.inl rfl) (by first | exact .inl rfl | exact .inr rfl)) (sws1 (by rfl)) (sto2 (by rfl)) (asn1 (by rfl))) (xjs_cons (xjs_if (xjt_cmp (op_neD hr.units) l_ne bin_ne (xje_call df_read_code hr (by rfl) (xja_cons (xje_join xje_str (xje_comp (xjf_comp ["_law_text"] [] [] (fun _ _ h => h) (by rfl) (compOk_mk (L2.defScope st_law) ["_law_script", "_law_words_here", "_law_some", "_law_text", "_law_found", "_law_k", "_law_both"] (by rfl) (by rfl) (by decide +kernel)) (xji_seq (xje_var 6 (by rfl) (by exact Or.inl rfl) (by decide) (by decide))) (low_name (by decide)) (fun cl C s H fp => by exact (xjg_name 0 (show List.Nodup (["_law_text"] : List Str) from by decide +kernel) (by rfl) (by exact Or.inl rfl) (by first | exact .inl rfl | exact .inr rfl))) (fun cl C s H fp => by exact (xjcs_cons (xjt_cmp (op_neD hr.units) l_ne bin_ne (xje_var 0 (by rfl) (by first | exact Or.inl rfl | exact Or.inr (Or.inl rfl) | exact Or.inr (Or.inr rfl)) (by decide) (by decide)) xje_str (L2.nomark _)) xjcs_nil)) (fun cl C s H fp => by exact (xje_var 0 (by rfl) (by first | exact Or.inl rfl | exact Or.inr (Or.inl rfl) | exact Or.inr (Or.inr rfl)) (by decide) (by decide))) (fold1 (by rfl)))) (m1_mk base3 (by rfl) (by rfl))) xja_nil (st1 (by rfl))) (by decide) (by rfl) (by decide) (st1 (by rfl)) (st_any (by rfl))) (xje_var 1 (by rfl) (by exact Or.inl rfl) (by decide) (by decide)) (L2.nomark _)) (xjs_one (xjs_ret xje_bl)) xjs_nil') xjs_nil)))) (fold1 (by rfl))) (xjs_cons (xjs_ret (xje_cmp (op_eqD hr.units) l_eq (xje_call df_read_code hr (by rfl) (xja_cons (xje_call df_shown_code hr (by rfl) (xja_cons (xje_lst xja_nil (by decide)) xja_nil (st1 (by rfl))) (by decide) (by rfl) (by decide) (st1 (by rfl)) (st_any (by rfl))) xja_nil (st1 (by rfl))) (by decide) (by rfl) (by decide) (st1 (by rfl)) (st_any (by rfl))) (xje_lst xja_nil (by decide)) (L2.nomark _))) xjs_nil))))).out
theorem all_mk {w : World} {K : PySem.W.Frag} {h : Heap} {mg : Str → Option Value} {fa f0 f1 f2 f3 f4 f5 f6 f7 f8 f9 f10 f11 f12 f13 f14 f15 f16 f17 f18 f19 f20 f21 f22 f23 f24 f25 f26 f27 f28 f29 : Addr} (X : K.In h) (G : h.Ns mainGlobals mg) (hfa : mg "law" = some (.ref fa))
    {od0 an0 od1 an1 od2 an2 od3 an3 od4 an4 od5 an5 od6 an6 od7 an7 od8 an8 od9 an9 od10 an10 od11 an11 od12 an12 od13 an13 od14 an14 od15 an15 od16 an16 od17 an17 od18 an18 od19 an19 od20 an20 od21 an21 od22 an22 od23 an23 od24 an24 od25 an25 od26 an26 od27 an27 od28 an28 od29 an29 : Option Addr} {sl0 sl1 sl2 sl3 sl4 sl5 sl6 sl7 sl8 sl9 sl10 sl11 sl12 sl13 sl14 sl15 sl16 sl17 sl18 sl19 sl20 sl21 sl22 sl23 sl24 sl25 sl26 sl27 sl28 sl29 : Array (Option Value)} {oc0 kV0 dc0 pm0 cd0 ct0 oc1 kV1 dc1 pm1 cd1 ct1 oc2 kV2 dc2 pm2 cd2 ct2 oc3 kV3 dc3 pm3 cd3 ct3 oc4 kV4 dc4 pm4 cd4 ct4 oc5 kV5 dc5 pm5 cd5 ct5 oc6 kV6 dc6 pm6 cd6 ct6 oc7 kV7 dc7 pm7 cd7 ct7 oc8 kV8 dc8 pm8 cd8 ct8 oc9 kV9 dc9 pm9 cd9 ct9 oc10 kV10 dc10 pm10 cd10 ct10 oc11 kV11 dc11 pm11 cd11 ct11 oc12 kV12 dc12 pm12 cd12 ct12 oc13 kV13 dc13 pm13 cd13 ct13 oc14 kV14 dc14 pm14 cd14 ct14 oc15 kV15 dc15 pm15 cd15 ct15 oc16 kV16 dc16 pm16 cd16 ct16 oc17 kV17 dc17 pm17 cd17 ct17 oc18 kV18 dc18 pm18 cd18 ct18 oc19 kV19 dc19 pm19 cd19 ct19 oc20 kV20 dc20 pm20 cd20 ct20 oc21 kV21 dc21 pm21 cd21 ct21 oc22 kV22 dc22 pm22 cd22 ct22 oc23 kV23 dc23 pm23 cd23 ct23 oc24 kV24 dc24 pm24 cd24 ct24 oc25 kV25 dc25 pm25 cd25 ct25 oc26 kV26 dc26 pm26 cd26 ct26 oc27 kV27 dc27 pm27 cd27 ct27 oc28 kV28 dc28 pm28 cd28 ct28 oc29 kV29 dc29 pm29 cd29 ct29 : Value}
    (a0 : PySem.W.nsIn K mainGlobals "_law_draws" = some (some (.ref f0))) (l0 : K.lookup f0 = some ⟨oc0, od0, .func (PySem.W.fnOf "_law_draws" "_law_draws" (L2.defArgs st_law_draws) (L2.defBody st_law_draws) (L2.defScope st_law_draws) .none kV0 dc0 pm0 an0 cd0 ct0), sl0⟩) (c0 : PySem.W.codeIn K cd0 "_law_draws" = true) (k0 : PySem.W.keepIn K (.ref f0) = true)
    (a1 : PySem.W.nsIn K mainGlobals "_law_forms" = some (some (.ref f1))) (l1 : K.lookup f1 = some ⟨oc1, od1, .func (PySem.W.fnOf "_law_forms" "_law_forms" (L2.defArgs st_law_forms) (L2.defBody st_law_forms) (L2.defScope st_law_forms) .none kV1 dc1 pm1 an1 cd1 ct1), sl1⟩) (c1 : PySem.W.codeIn K cd1 "_law_forms" = true) (k1 : PySem.W.keepIn K (.ref f1) = true)
    (a2 : PySem.W.nsIn K mainGlobals "_law_coded" = some (some (.ref f2))) (l2 : K.lookup f2 = some ⟨oc2, od2, .func (PySem.W.fnOf "_law_coded" "_law_coded" (L2.defArgs st_law_coded) (L2.defBody st_law_coded) (L2.defScope st_law_coded) .none kV2 dc2 pm2 an2 cd2 ct2), sl2⟩) (c2 : PySem.W.codeIn K cd2 "_law_coded" = true) (k2 : PySem.W.keepIn K (.ref f2) = true)
    (a3 : PySem.W.nsIn K mainGlobals "_law_row" = some (some (.ref f3))) (l3 : K.lookup f3 = some ⟨oc3, od3, .func (PySem.W.fnOf "_law_row" "_law_row" (L2.defArgs st_law_row) (L2.defBody st_law_row) (L2.defScope st_law_row) .none kV3 dc3 pm3 an3 cd3 ct3), sl3⟩) (c3 : PySem.W.codeIn K cd3 "_law_row" = true) (k3 : PySem.W.keepIn K (.ref f3) = true)
    (a4 : PySem.W.nsIn K mainGlobals "_law_words" = some (some (.ref f4))) (l4 : K.lookup f4 = some ⟨oc4, od4, .func (PySem.W.fnOf "_law_words" "_law_words" (L2.defArgs st_law_words) (L2.defBody st_law_words) (L2.defScope st_law_words) .none kV4 dc4 pm4 an4 cd4 ct4), sl4⟩) (c4 : PySem.W.codeIn K cd4 "_law_words" = true) (k4 : PySem.W.keepIn K (.ref f4) = true)
    (a5 : PySem.W.nsIn K mainGlobals "is_whole" = some (some (.ref f5))) (l5 : K.lookup f5 = some ⟨oc5, od5, .func (PySem.W.fnOf "is_whole" "is_whole" (L2.defArgs st_is_whole) (L2.defBody st_is_whole) (L2.defScope st_is_whole) .none kV5 dc5 pm5 an5 cd5 ct5), sl5⟩) (c5 : PySem.W.codeIn K cd5 "is_whole" = true) (k5 : PySem.W.keepIn K (.ref f5) = true)
    (a6 : PySem.W.nsIn K mainGlobals "is_word" = some (some (.ref f6))) (l6 : K.lookup f6 = some ⟨oc6, od6, .func (PySem.W.fnOf "is_word" "is_word" (L2.defArgs st_is_word) (L2.defBody st_is_word) (L2.defScope st_is_word) .none kV6 dc6 pm6 an6 cd6 ct6), sl6⟩) (c6 : PySem.W.codeIn K cd6 "is_word" = true) (k6 : PySem.W.keepIn K (.ref f6) = true)
    (a7 : PySem.W.nsIn K mainGlobals "shape_of" = some (some (.ref f7))) (l7 : K.lookup f7 = some ⟨oc7, od7, .func (PySem.W.fnOf "shape_of" "shape_of" (L2.defArgs st_shape_of) (L2.defBody st_shape_of) (L2.defScope st_shape_of) .none kV7 dc7 pm7 an7 cd7 ct7), sl7⟩) (c7 : PySem.W.codeIn K cd7 "shape_of" = true) (k7 : PySem.W.keepIn K (.ref f7) = true)
    (a8 : PySem.W.nsIn K mainGlobals "bound_of" = some (some (.ref f8))) (l8 : K.lookup f8 = some ⟨oc8, od8, .func (PySem.W.fnOf "bound_of" "bound_of" (L2.defArgs st_bound_of) (L2.defBody st_bound_of) (L2.defScope st_bound_of) .none kV8 dc8 pm8 an8 cd8 ct8), sl8⟩) (c8 : PySem.W.codeIn K cd8 "bound_of" = true) (k8 : PySem.W.keepIn K (.ref f8) = true)
    (a9 : PySem.W.nsIn K mainGlobals "is_part" = some (some (.ref f9))) (l9 : K.lookup f9 = some ⟨oc9, od9, .func (PySem.W.fnOf "is_part" "is_part" (L2.defArgs st_is_part) (L2.defBody st_is_part) (L2.defScope st_is_part) .none kV9 dc9 pm9 an9 cd9 ct9), sl9⟩) (c9 : PySem.W.codeIn K cd9 "is_part" = true) (k9 : PySem.W.keepIn K (.ref f9) = true)
    (a10 : PySem.W.nsIn K mainGlobals "is_row" = some (some (.ref f10))) (l10 : K.lookup f10 = some ⟨oc10, od10, .func (PySem.W.fnOf "is_row" "is_row" (L2.defArgs st_is_row) (L2.defBody st_is_row) (L2.defScope st_is_row) .none kV10 dc10 pm10 an10 cd10 ct10), sl10⟩) (c10 : PySem.W.codeIn K cd10 "is_row" = true) (k10 : PySem.W.keepIn K (.ref f10) = true)
    (a11 : PySem.W.nsIn K mainGlobals "part_of" = some (some (.ref f11))) (l11 : K.lookup f11 = some ⟨oc11, od11, .func (PySem.W.fnOf "part_of" "part_of" (L2.defArgs st_part_of) (L2.defBody st_part_of) (L2.defScope st_part_of) .none kV11 dc11 pm11 an11 cd11 ct11), sl11⟩) (c11 : PySem.W.codeIn K cd11 "part_of" = true) (k11 : PySem.W.keepIn K (.ref f11) = true)
    (a12 : PySem.W.nsIn K mainGlobals "coded" = some (some (.ref f12))) (l12 : K.lookup f12 = some ⟨oc12, od12, .func (PySem.W.fnOf "coded" "coded" (L2.defArgs st_coded) (L2.defBody st_coded) (L2.defScope st_coded) .none kV12 dc12 pm12 an12 cd12 ct12), sl12⟩) (c12 : PySem.W.codeIn K cd12 "coded" = true) (k12 : PySem.W.keepIn K (.ref f12) = true)
    (a13 : PySem.W.nsIn K mainGlobals "part_in" = some (some (.ref f13))) (l13 : K.lookup f13 = some ⟨oc13, od13, .func (PySem.W.fnOf "part_in" "part_in" (L2.defArgs st_part_in) (L2.defBody st_part_in) (L2.defScope st_part_in) .none kV13 dc13 pm13 an13 cd13 ct13), sl13⟩) (c13 : PySem.W.codeIn K cd13 "part_in" = true) (k13 : PySem.W.keepIn K (.ref f13) = true)
    (a14 : PySem.W.nsIn K mainGlobals "decoded" = some (some (.ref f14))) (l14 : K.lookup f14 = some ⟨oc14, od14, .func (PySem.W.fnOf "decoded" "decoded" (L2.defArgs st_decoded) (L2.defBody st_decoded) (L2.defScope st_decoded) .none kV14 dc14 pm14 an14 cd14 ct14), sl14⟩) (c14 : PySem.W.codeIn K cd14 "decoded" = true) (k14 : PySem.W.keepIn K (.ref f14) = true)
    (a15 : PySem.W.nsIn K mainGlobals "shown_part" = some (some (.ref f15))) (l15 : K.lookup f15 = some ⟨oc15, od15, .func (PySem.W.fnOf "shown_part" "shown_part" (L2.defArgs st_shown_part) (L2.defBody st_shown_part) (L2.defScope st_shown_part) .none kV15 dc15 pm15 an15 cd15 ct15), sl15⟩) (c15 : PySem.W.codeIn K cd15 "shown_part" = true) (k15 : PySem.W.keepIn K (.ref f15) = true)
    (a16 : PySem.W.nsIn K mainGlobals "shown_word" = some (some (.ref f16))) (l16 : K.lookup f16 = some ⟨oc16, od16, .func (PySem.W.fnOf "shown_word" "shown_word" (L2.defArgs st_shown_word) (L2.defBody st_shown_word) (L2.defScope st_shown_word) .none kV16 dc16 pm16 an16 cd16 ct16), sl16⟩) (c16 : PySem.W.codeIn K cd16 "shown_word" = true) (k16 : PySem.W.keepIn K (.ref f16) = true)
    (a17 : PySem.W.nsIn K mainGlobals "shown_code" = some (some (.ref f17))) (l17 : K.lookup f17 = some ⟨oc17, od17, .func (PySem.W.fnOf "shown_code" "shown_code" (L2.defArgs st_shown_code) (L2.defBody st_shown_code) (L2.defScope st_shown_code) .none kV17 dc17 pm17 an17 cd17 ct17), sl17⟩) (c17 : PySem.W.codeIn K cd17 "shown_code" = true) (k17 : PySem.W.keepIn K (.ref f17) = true)
    (a18 : PySem.W.nsIn K mainGlobals "name_in" = some (some (.ref f18))) (l18 : K.lookup f18 = some ⟨oc18, od18, .func (PySem.W.fnOf "name_in" "name_in" (L2.defArgs st_name_in) (L2.defBody st_name_in) (L2.defScope st_name_in) .none kV18 dc18 pm18 an18 cd18 ct18), sl18⟩) (c18 : PySem.W.codeIn K cd18 "name_in" = true) (k18 : PySem.W.keepIn K (.ref f18) = true)
    (a19 : PySem.W.nsIn K mainGlobals "refuse_untold" = some (some (.ref f19))) (l19 : K.lookup f19 = some ⟨oc19, od19, .func (PySem.W.fnOf "refuse_untold" "refuse_untold" (L2.defArgs st_refuse_untold) (L2.defBody st_refuse_untold) (L2.defScope st_refuse_untold) .none kV19 dc19 pm19 an19 cd19 ct19), sl19⟩) (c19 : PySem.W.codeIn K cd19 "refuse_untold" = true) (k19 : PySem.W.keepIn K (.ref f19) = true)
    (a20 : PySem.W.nsIn K mainGlobals "lines_of" = some (some (.ref f20))) (l20 : K.lookup f20 = some ⟨oc20, od20, .func (PySem.W.fnOf "lines_of" "lines_of" (L2.defArgs st_lines_of) (L2.defBody st_lines_of) (L2.defScope st_lines_of) .none kV20 dc20 pm20 an20 cd20 ct20), sl20⟩) (c20 : PySem.W.codeIn K cd20 "lines_of" = true) (k20 : PySem.W.keepIn K (.ref f20) = true)
    (a21 : PySem.W.nsIn K mainGlobals "is_name" = some (some (.ref f21))) (l21 : K.lookup f21 = some ⟨oc21, od21, .func (PySem.W.fnOf "is_name" "is_name" (L2.defArgs st_is_name) (L2.defBody st_is_name) (L2.defScope st_is_name) .none kV21 dc21 pm21 an21 cd21 ct21), sl21⟩) (c21 : PySem.W.codeIn K cd21 "is_name" = true) (k21 : PySem.W.keepIn K (.ref f21) = true)
    (a22 : PySem.W.nsIn K mainGlobals "told_name" = some (some (.ref f22))) (l22 : K.lookup f22 = some ⟨oc22, od22, .func (PySem.W.fnOf "told_name" "told_name" (L2.defArgs st_told_name) (L2.defBody st_told_name) (L2.defScope st_told_name) .none kV22 dc22 pm22 an22 cd22 ct22), sl22⟩) (c22 : PySem.W.codeIn K cd22 "told_name" = true) (k22 : PySem.W.keepIn K (.ref f22) = true)
    (a23 : PySem.W.nsIn K mainGlobals "read_number" = some (some (.ref f23))) (l23 : K.lookup f23 = some ⟨oc23, od23, .func (PySem.W.fnOf "read_number" "read_number" (L2.defArgs st_read_number) (L2.defBody st_read_number) (L2.defScope st_read_number) .none kV23 dc23 pm23 an23 cd23 ct23), sl23⟩) (c23 : PySem.W.codeIn K cd23 "read_number" = true) (k23 : PySem.W.keepIn K (.ref f23) = true)
    (a24 : PySem.W.nsIn K mainGlobals "read_part" = some (some (.ref f24))) (l24 : K.lookup f24 = some ⟨oc24, od24, .func (PySem.W.fnOf "read_part" "read_part" (L2.defArgs st_read_part) (L2.defBody st_read_part) (L2.defScope st_read_part) .none kV24 dc24 pm24 an24 cd24 ct24), sl24⟩) (c24 : PySem.W.codeIn K cd24 "read_part" = true) (k24 : PySem.W.keepIn K (.ref f24) = true)
    (a25 : PySem.W.nsIn K mainGlobals "read_row" = some (some (.ref f25))) (l25 : K.lookup f25 = some ⟨oc25, od25, .func (PySem.W.fnOf "read_row" "read_row" (L2.defArgs st_read_row) (L2.defBody st_read_row) (L2.defScope st_read_row) .none kV25 dc25 pm25 an25 cd25 ct25), sl25⟩) (c25 : PySem.W.codeIn K cd25 "read_row" = true) (k25 : PySem.W.keepIn K (.ref f25) = true)
    (a26 : PySem.W.nsIn K mainGlobals "word_of" = some (some (.ref f26))) (l26 : K.lookup f26 = some ⟨oc26, od26, .func (PySem.W.fnOf "word_of" "word_of" (L2.defArgs st_word_of) (L2.defBody st_word_of) (L2.defScope st_word_of) .none kV26 dc26 pm26 an26 cd26 ct26), sl26⟩) (c26 : PySem.W.codeIn K cd26 "word_of" = true) (k26 : PySem.W.keepIn K (.ref f26) = true)
    (a27 : PySem.W.nsIn K mainGlobals "read_code" = some (some (.ref f27))) (l27 : K.lookup f27 = some ⟨oc27, od27, .func (PySem.W.fnOf "read_code" "read_code" (L2.defArgs st_read_code) (L2.defBody st_read_code) (L2.defScope st_read_code) .none kV27 dc27 pm27 an27 cd27 ct27), sl27⟩) (c27 : PySem.W.codeIn K cd27 "read_code" = true) (k27 : PySem.W.keepIn K (.ref f27) = true)
    (a28 : PySem.W.nsIn K mainGlobals "_law_whole" = some (some (.ref f28))) (l28 : K.lookup f28 = some ⟨oc28, od28, .func (PySem.W.fnOf "_law_whole" "_law_whole" (L2.defArgs st_law_whole) (L2.defBody st_law_whole) (L2.defScope st_law_whole) .none kV28 dc28 pm28 an28 cd28 ct28), sl28⟩) (c28 : PySem.W.codeIn K cd28 "_law_whole" = true) (k28 : PySem.W.keepIn K (.ref f28) = true)
    (a29 : PySem.W.nsIn K mainGlobals "law" = some (some (.ref f29))) (l29 : K.lookup f29 = some ⟨oc29, od29, .func (PySem.W.fnOf "law" "law" (L2.defArgs st_law) (L2.defBody st_law) (L2.defScope st_law) .none kV29 dc29 pm29 an29 cd29 ct29), sl29⟩) (c29 : PySem.W.codeIn K cd29 "law" = true) (k29 : PySem.W.keepIn K (.ref f29) = true)
    (z_all : PySem.W.nsIn K mainGlobals "all" = some none)
    (z_bool : PySem.W.nsIn K mainGlobals "bool" = some none)
    (z_enumerate : PySem.W.nsIn K mainGlobals "enumerate" = some none)
    (z_int : PySem.W.nsIn K mainGlobals "int" = some none)
    (z_isinstance : PySem.W.nsIn K mainGlobals "isinstance" = some none)
    (z_len : PySem.W.nsIn K mainGlobals "len" = some none)
    (z_list : PySem.W.nsIn K mainGlobals "list" = some none)
    (z_min : PySem.W.nsIn K mainGlobals "min" = some none)
    (z_range : PySem.W.nsIn K mainGlobals "range" = some none)
    (z_str : PySem.W.nsIn K mainGlobals "str" = some none)
    (z_tuple : PySem.W.nsIn K mainGlobals "tuple" = some none)
    (z_zip : PySem.W.nsIn K mainGlobals "zip" = some none)
    (gl_SHAPES : GlD PySem.Challenge.pw_underfloor_k10_whole_there_and_back w K mg "SHAPES" g_SHAPES)
    (gl_NAMES : GlT PySem.Challenge.pw_underfloor_k10_whole_there_and_back w K mg "NAMES" g_NAMES)
    (gl_NAMING : GlT PySem.Challenge.pw_underfloor_k10_whole_there_and_back w K mg "NAMING" g_NAMING)
    (gl_LETTERS : GlD PySem.Challenge.pw_underfloor_k10_whole_there_and_back w K mg "LETTERS" g_LETTERS)
    (gl_FIGURES : GlD PySem.Challenge.pw_underfloor_k10_whole_there_and_back w K mg "FIGURES" g_FIGURES)
    (gl_REGS : GlT PySem.Challenge.pw_underfloor_k10_whole_there_and_back w K mg "REGS" g_REGS)
    (gl_MOST_WORDS : GlD PySem.Challenge.pw_underfloor_k10_whole_there_and_back w K mg "MOST_WORDS" g_MOST_WORDS) :
    ∃ fd : FuncData, (∀ (s : Shared) (v : Value), BindsTo s fd ⟨[v], []⟩ [("_law_script", v)]) ∧ ∀ base : Heap, K.In base → base.Ns mainGlobals mg → L2.FnOk PySem.Challenge.pw_underfloor_k10_whole_there_and_back w K mg base L2.CX0 8 fa fd ["_law_script"] (spM ⟨K, PySem.Challenge.pw_underfloor_k10_whole_there_and_back, w⟩ m_law 1) := by
  have e := hfa.symm.trans (PySem.W.mg_of X G a29)
  cases e
  have mg_all := PySem.W.mg_none_of X G z_all
  have mg_bool := PySem.W.mg_none_of X G z_bool
  have mg_enumerate := PySem.W.mg_none_of X G z_enumerate
  have mg_int := PySem.W.mg_none_of X G z_int
  have mg_isinstance := PySem.W.mg_none_of X G z_isinstance
  have mg_len := PySem.W.mg_none_of X G z_len
  have mg_list := PySem.W.mg_none_of X G z_list
  have mg_min := PySem.W.mg_none_of X G z_min
  have mg_range := PySem.W.mg_none_of X G z_range
  have mg_str := PySem.W.mg_none_of X G z_str
  have mg_tuple := PySem.W.mg_none_of X G z_tuple
  have mg_zip := PySem.W.mg_none_of X G z_zip
  refine ⟨PySem.W.fnOf "law" "law" (L2.defArgs st_law) (L2.defBody st_law) (L2.defScope st_law) .none kV29 dc29 pm29 an29 cd29 ct29, fun s v => .of_eq rfl, fun base _ _ => ?_⟩
  have df_law_draws := d_law_draws (P := PySem.Challenge.pw_underfloor_k10_whole_there_and_back) (w := w) (base := base) (L2.fun_mk (st := st_law_draws) l0 c0 k0) (PySem.W.mg_of X G a0) mg_range
  have df_law_forms := d_law_forms (P := PySem.Challenge.pw_underfloor_k10_whole_there_and_back) (w := w) (base := base) (L2.fun_mk (st := st_law_forms) l1 c1 k1) (PySem.W.mg_of X G a1)
  have df_law_coded := d_law_coded (P := PySem.Challenge.pw_underfloor_k10_whole_there_and_back) (w := w) (base := base) (L2.fun_mk (st := st_law_coded) l2 c2 k2) (PySem.W.mg_of X G a2) mg_len mg_range df_law_forms
  have df_law_row := d_law_row (P := PySem.Challenge.pw_underfloor_k10_whole_there_and_back) (w := w) (base := base) (L2.fun_mk (st := st_law_row) l3 c3 k3) (PySem.W.mg_of X G a3) mg_int mg_len mg_range mg_tuple df_law_forms
  have df_law_words := d_law_words (P := PySem.Challenge.pw_underfloor_k10_whole_there_and_back) (w := w) (base := base) (L2.fun_mk (st := st_law_words) l4 c4 k4) (PySem.W.mg_of X G a4) mg_len mg_min mg_range df_law_draws df_law_row df_law_coded
  have df_is_whole := d_is_whole (P := PySem.Challenge.pw_underfloor_k10_whole_there_and_back) (w := w) (base := base) (L2.fun_mk (st := st_is_whole) l5 c5 k5) (PySem.W.mg_of X G a5) mg_bool mg_int mg_isinstance
  have df_is_word := d_is_word (P := PySem.Challenge.pw_underfloor_k10_whole_there_and_back) (w := w) (base := base) (L2.fun_mk (st := st_is_word) l6 c6 k6) (PySem.W.mg_of X G a6) df_is_whole
  have df_shape_of := d_shape_of (P := PySem.Challenge.pw_underfloor_k10_whole_there_and_back) (w := w) (base := base) (L2.fun_mk (st := st_shape_of) l7 c7 k7) (PySem.W.mg_of X G a7) gl_SHAPES
  have df_bound_of := d_bound_of (P := PySem.Challenge.pw_underfloor_k10_whole_there_and_back) (w := w) (base := base) (L2.fun_mk (st := st_bound_of) l8 c8 k8) (PySem.W.mg_of X G a8)
  have df_is_part := d_is_part (P := PySem.Challenge.pw_underfloor_k10_whole_there_and_back) (w := w) (base := base) (L2.fun_mk (st := st_is_part) l9 c9 k9) (PySem.W.mg_of X G a9) df_is_whole df_bound_of
  have df_is_row := d_is_row (P := PySem.Challenge.pw_underfloor_k10_whole_there_and_back) (w := w) (base := base) (L2.fun_mk (st := st_is_row) l10 c10 k10) (PySem.W.mg_of X G a10) mg_all mg_isinstance mg_len mg_str mg_tuple mg_zip df_shape_of df_is_part
  have df_part_of := d_part_of (P := PySem.Challenge.pw_underfloor_k10_whole_there_and_back) (w := w) (base := base) (L2.fun_mk (st := st_part_of) l11 c11 k11) (PySem.W.mg_of X G a11) df_shape_of
  have df_coded := d_coded (P := PySem.Challenge.pw_underfloor_k10_whole_there_and_back) (w := w) (base := base) (L2.fun_mk (st := st_coded) l12 c12 k12) (PySem.W.mg_of X G a12) gl_NAMES df_is_row df_part_of
  have df_part_in := d_part_in (P := PySem.Challenge.pw_underfloor_k10_whole_there_and_back) (w := w) (base := base) (L2.fun_mk (st := st_part_in) l13 c13 k13) (PySem.W.mg_of X G a13)
  have df_decoded := d_decoded (P := PySem.Challenge.pw_underfloor_k10_whole_there_and_back) (w := w) (base := base) (L2.fun_mk (st := st_decoded) l14 c14 k14) (PySem.W.mg_of X G a14) mg_len mg_tuple gl_NAMES df_is_word df_shape_of df_part_in df_coded
  have df_shown_part := d_shown_part (P := PySem.Challenge.pw_underfloor_k10_whole_there_and_back) (w := w) (base := base) (L2.fun_mk (st := st_shown_part) l15 c15 k15) (PySem.W.mg_of X G a15) mg_str
  have df_shown_word := d_shown_word (P := PySem.Challenge.pw_underfloor_k10_whole_there_and_back) (w := w) (base := base) (L2.fun_mk (st := st_shown_word) l16 c16 k16) (PySem.W.mg_of X G a16) mg_zip df_decoded df_shape_of df_shown_part
  have df_shown_code := d_shown_code (P := PySem.Challenge.pw_underfloor_k10_whole_there_and_back) (w := w) (base := base) (L2.fun_mk (st := st_shown_code) l17 c17 k17) (PySem.W.mg_of X G a17) df_shown_word
  have df_name_in := d_name_in (P := PySem.Challenge.pw_underfloor_k10_whole_there_and_back) (w := w) (base := base) (L2.fun_mk (st := st_name_in) l18 c18 k18) (PySem.W.mg_of X G a18) mg_isinstance mg_str gl_NAMING
  have df_refuse_untold := d_refuse_untold (P := PySem.Challenge.pw_underfloor_k10_whole_there_and_back) (w := w) (base := base) (L2.fun_mk (st := st_refuse_untold) l19 c19 k19) (PySem.W.mg_of X G a19) df_name_in
  have df_lines_of := d_lines_of (P := PySem.Challenge.pw_underfloor_k10_whole_there_and_back) (w := w) (base := base) (L2.fun_mk (st := st_lines_of) l20 c20 k20) (PySem.W.mg_of X G a20)
  have df_is_name := d_is_name (P := PySem.Challenge.pw_underfloor_k10_whole_there_and_back) (w := w) (base := base) (L2.fun_mk (st := st_is_name) l21 c21 k21) (PySem.W.mg_of X G a21) mg_all mg_len gl_LETTERS df_shape_of
  have df_told_name := d_told_name (P := PySem.Challenge.pw_underfloor_k10_whole_there_and_back) (w := w) (base := base) (L2.fun_mk (st := st_told_name) l22 c22 k22) (PySem.W.mg_of X G a22) df_is_name
  have df_read_number := d_read_number (P := PySem.Challenge.pw_underfloor_k10_whole_there_and_back) (w := w) (base := base) (L2.fun_mk (st := st_read_number) l23 c23 k23) (PySem.W.mg_of X G a23) mg_all mg_int mg_len gl_FIGURES
  have df_read_part := d_read_part (P := PySem.Challenge.pw_underfloor_k10_whole_there_and_back) (w := w) (base := base) (L2.fun_mk (st := st_read_part) l24 c24 k24) (PySem.W.mg_of X G a24) gl_REGS gl_NAMING df_read_number df_is_name df_bound_of
  have df_read_row := d_read_row (P := PySem.Challenge.pw_underfloor_k10_whole_there_and_back) (w := w) (base := base) (L2.fun_mk (st := st_read_row) l25 c25 k25) (PySem.W.mg_of X G a25) mg_len mg_tuple mg_zip df_shape_of df_read_part
  have df_word_of := d_word_of (P := PySem.Challenge.pw_underfloor_k10_whole_there_and_back) (w := w) (base := base) (L2.fun_mk (st := st_word_of) l26 c26 k26) (PySem.W.mg_of X G a26) df_name_in df_coded
  have df_read_code := d_read_code (P := PySem.Challenge.pw_underfloor_k10_whole_there_and_back) (w := w) (base := base) (L2.fun_mk (st := st_read_code) l27 c27 k27) (PySem.W.mg_of X G a27) mg_enumerate mg_isinstance mg_len mg_str gl_MOST_WORDS df_lines_of df_told_name df_read_row df_refuse_untold df_word_of
  have df_law_whole := d_law_whole (P := PySem.Challenge.pw_underfloor_k10_whole_there_and_back) (w := w) (base := base) (L2.fun_mk (st := st_law_whole) l28 c28 k28) (PySem.W.mg_of X G a28) mg_bool mg_int mg_isinstance
  have df_law := x_law (P := PySem.Challenge.pw_underfloor_k10_whole_there_and_back) (w := w) (base := base) (L2.fun_mk (st := st_law) l29 c29 k29) (PySem.W.mg_of X G a29) mg_isinstance mg_len mg_list mg_range df_law_words df_shown_code df_read_code df_law_whole
  exact df_law
end K10
end PL
set_option linter.all false
set_option maxRecDepth 1000
set_option Elab.async false
namespace PL
open PySem
theorem forL_ix {tg : Tgt} {body : Sm} (P : Nat → En → Prop) : ∀ {ds : List D} (n : Nat), (∀ i d, ds[i]? = some d → ∀ ρ, P (n + i) ρ → ∃ ρ1, tg d ρ = .ok ρ1 ∧ ∃ ρ2, body ρ1 = .ok (.next ρ2) ∧ P (n + i + 1) ρ2) →
    ∀ {ρ : En}, P n ρ → ∃ ρ', forL tg body ds ρ = .ok (.next ρ') ∧ P (n + ds.length) ρ'
  | [], n, _, ρ, h => ⟨ρ, rfl, h⟩
  | d :: ds, n, hs, ρ, h => by
    obtain ⟨ρ1, e1, ρ2, e2, h2⟩ := hs 0 d rfl ρ h
    obtain ⟨ρ', e, h'⟩ := forL_ix (ds := ds) P (n + 1) (fun i d hd ρ hp => by
      have := hs (i + 1) d (by simpa using hd) ρ (by rw [show n + (i + 1) = n + 1 + i by omega]; exact hp)
      rw [show n + 1 + i + 1 = n + (i + 1) + 1 by omega]; exact this) h2
    refine ⟨ρ', by simp [forL, e1, e2, e], ?_⟩
    rw [List.length_cons, show n + (ds.length + 1) = n + 1 + ds.length by omega]; exact h'
theorem rangeL_get {a b : Int} {i : Nat} {d : D} (h : (rangeL a b)[i]? = some d) : d = .int (a + i) ∧ (i : Int) < b - a := by
  unfold rangeL at h
  rw [List.getElem?_map] at h
  cases e : (List.range (b - a).toNat)[i]? with
  | none => rw [e] at h; cases h
  | some k =>
    rw [e] at h
    obtain ⟨hlt, hk⟩ := List.getElem?_eq_some_iff.mp e
    simp at hk hlt h
    subst hk
    exact ⟨h.symm, by omega⟩
theorem rangeL_len (a b : Int) : (rangeL a b).length = (b - a).toNat := by simp [rangeL]
theorem rangeL_mem {a b : Int} {d : D} (h : d ∈ rangeL a b) : ∃ k : Int, d = .int k ∧ a ≤ k ∧ k < b := by
  unfold rangeL at h
  obtain ⟨k, hk, e⟩ := List.mem_map.mp h
  have := List.mem_range.mp hk
  exact ⟨a + k, e.symm, by omega, by omega⟩
theorem atI_nat {α : Type} {xs : List α} {j : Nat} (h : j < xs.length) : atI xs (j : Int) = some xs[j] := by
  unfold atI ixN
  rw [if_pos (by omega), if_pos (by omega)]
  simp [h]
theorem atI_int {α : Type} {xs : List α} {i : Int} (h0 : 0 ≤ i) (h : i < xs.length) : atI xs i = some (xs[i.toNat]'(by omega)) := by
  unfold atI ixN
  rw [if_pos h0, if_pos h]
  have : i.toNat < xs.length := by omega
  simp [this]
theorem atI_ints {xs : List Int} {i : Int} (h0 : 0 ≤ i) (h : i < xs.length) : ∃ x, x ∈ xs ∧ atI (xs.map D.int) i = some (.int x) := by
  refine ⟨xs[i.toNat]'(by omega), List.getElem_mem _, ?_⟩
  rw [atI_int h0 (by simpa using h)]
  simp
theorem inR_of {i : Int} (h1 : -1000000 < i) (h2 : i < 1000000) : inR i = true := by
  unfold inR
  rw [decide_eq_true (show -4611686018427387904 ≤ i by omega), decide_eq_true (show i < 4611686018427387904 by omega)]; rfl
theorem small_of {i : Int} (h1 : 0 ≤ i) (h2 : i < 18446744073709551616) : small i = true := by
  unfold small
  rw [decide_eq_true (show -18446744073709551616 < i by omega), decide_eq_true h2]; rfl
theorem atI_two {α : Type} {a b : α} {i : Int} (h : i = 0 ∨ i = 1) : atI [a, b] i = some (if i = 0 then a else b) := by
  rcases h with h | h <;> subst h <;> rfl
theorem sIf_t {c : Tst} {a b : Sm} {ρ : En} (h : c ρ = .ok true) : sIf c a b ρ = a ρ := by simp [h]
theorem sIf_f {c : Tst} {a b : Sm} {ρ : En} (h : c ρ = .ok false) : sIf c a b ρ = b ρ := by simp [h]
theorem eIf_t {c : Tst} {a b : Ex} {ρ : En} (h : c ρ = .ok true) : eIf c a b ρ = a ρ := by simp [h]
theorem eIf_f {c : Tst} {a b : Ex} {ρ : En} (h : c ρ = .ok false) : eIf c a b ρ = b ρ := by simp [h]
theorem blk {a : Sm} {r : List Sm} {ρ ρ' : En} (h : a ρ = .ok (.next ρ')) : sBlk (a :: r) ρ = sBlk r ρ' := by
  show (a ρ).bind _ = _
  rw [h]; rfl
theorem blk_ret {a : Sm} {r : List Sm} {ρ : En} {d : D} (h : a ρ = .ok (.ret d)) : sBlk (a :: r) ρ = .ok (.ret d) := by
  show (a ρ).bind _ = _
  rw [h]; rfl
theorem blk_nil {ρ : En} : sBlk [] ρ = .ok (.next ρ) := rfl
theorem sIf_nil {c : Tst} {a : Sm} {ρ : En} (h : c ρ = .ok false) : sIf c a sNil ρ = .ok (.next ρ) := by simp [h]
theorem fn_ret {n : Nat} {b : Sm} {ds : List D} {d : D} (h : b (ds.map .sh ++ List.replicate (n - ds.length) .un) = .ok (.ret d)) : fn n b ds = .ok d := by
  unfold fn; rw [h]; rfl
theorem iRng1_ok {a : Ex} {ρ : En} {L : Int} (h : a ρ = .ok (.int L)) (h2 : inR L = true) : iRng1 a ρ = .ok (rangeL 0 L) := by
  simp [h, h2]
theorem iRng2_ok {a b : Ex} {ρ : En} {I L : Int} (h : a ρ = .ok (.int I)) (h' : b ρ = .ok (.int L)) (h1 : inR I = true) (h2 : inR L = true) : iRng2 a b ρ = .ok (rangeL I L) := by
  simp [h, h', h1, h2]
end PL
set_option linter.all false
set_option maxRecDepth 2000
set_option Elab.async false
set_option maxHeartbeats 400000
namespace PL
namespace K10
open PySem
theorem d16 : okDiv 16 = true := by decide
theorem d32 : okDiv 4294967296 = true := by decide
theorem pw18 : okPow 18 = true := by decide
theorem pw30 : okPow 30 = true := by decide
theorem in6 : inR 6 = true := by decide
noncomputable def Words (xs : List Int) : Prop := ∀ x ∈ xs, 0 ≤ x ∧ x < 4294967296
theorem Words.snoc {xs : List Int} {x : Int} (h : Words xs) (h0 : 0 ≤ x) (h1 : x < 4294967296) : Words (xs ++ [x]) := by
  intro y hy
  rcases List.mem_append.mp hy with h' | h'
  · exact h y h'
  · rw [List.mem_singleton.mp h']; exact ⟨h0, h1⟩
theorem p1030 : (10 : Int) ^ 30 = 1000000000000000000000000000000 := by decide
theorem p1018 : (10 : Int) ^ 18 = 1000000000000000000 := by decide
theorem drawn_next (dr i : Int) : ∃ z : Int, (dr + i * i + 1) * 69621 % 2147483647 = z ∧ 0 ≤ z ∧ z < 4294967296 ∧ small z = true ∧ (z % 2 = 0 ∨ z % 2 = 1) := by
  have h0 : 0 ≤ (dr + i * i + 1) * 69621 % 2147483647 := Int.emod_nonneg _ (by decide)
  have h1 : (dr + i * i + 1) * 69621 % 2147483647 < 2147483647 := Int.emod_lt_of_pos _ (by decide)
  generalize (dr + i * i + 1) * 69621 % 2147483647 = z at h0 h1
  exact ⟨z, rfl, h0, Int.lt_trans h1 (by decide), small_of h0 (Int.lt_trans h1 (by decide)), by omega⟩
theorem draws_step (c k dg dr : Int) (f : Bool) (xs : List Int) (i : Int) (hi0 : 0 ≤ i) (hi : i < 6) (hl : xs.length < 16777216) :
    ∃ dg' dr' x : Int, m_law_draws_l1 [.sh (.int c), .sh (.int k), .sh (.bl f), .ol (xs.map .int), .sh (.int dg), .sh (.int dr), .sh (.int i)]
      = .ok (.next [.sh (.int c), .sh (.int k), .sh (.bl f), .ol ((xs ++ [x]).map .int), .sh (.int dg'), .sh (.int dr'), .sh (.int i)]) ∧ 0 ≤ x ∧ x < 4294967296 := by
  have s10 : small 10 = true := by decide
  by_cases hc : f = true ∧ 1000000000000000000 ≤ c ∧ 4294967296 ≤ dg
  · obtain ⟨hf, hc1, hc2⟩ := hc
    refine ⟨dg / 4294967296, dr, dg % 4294967296, ?_, Int.emod_nonneg _ (by decide), Int.emod_lt_of_pos _ (by decide)⟩
    rw [m_law_draws_l1, sIf_t]
    · simp [hl, d32]
    · simp [hf, p1018, hc1, hc2, s10, pw18]
  · obtain ⟨z, hz, hd0, hd1, hsz, h2⟩ := drawn_next dr i
    have hsi : small i = true := small_of hi0 (Int.lt_trans hi (by decide))
    have s6 : small 69621 = true := by decide
    refine ⟨dg, z, if z % 2 = 0 then z else z * z % 4294967296, ?_, ?_, ?_⟩
    · rw [m_law_draws_l1, sIf_f]
      · simp [hl, hsi, s6, hz, hsz, atI_two h2, apply_ite D.int]
      · cases f <;> simp [p1018, s10, pw18] at hc ⊢
        exact hc
    · split
      · exact hd0
      · exact Int.emod_nonneg _ (by decide)
    · split
      · exact hd1
      · exact Int.emod_lt_of_pos _ (by decide)
theorem draws_ok (c k : Int) (f : Bool) (hk : 0 ≤ k) (hk2 : k ≤ 1000) : ∃ xs : List Int, m_law_draws [.int c, .int k, .bl f] = .ok (.lst (xs.map .int)) ∧ xs.length = 6 ∧ Words xs := by
  have hkk : 0 ≤ 7919 * k * k ∧ 7919 * k * k ≤ 7919000000 := by
    have h1 : 0 ≤ k * k := Int.mul_nonneg hk hk
    have h2 : k * k ≤ 1000 * 1000 := Int.mul_le_mul hk2 hk2 hk (by omega)
    rw [Int.mul_assoc]; omega
  have hs0 : small k = true := small_of (by omega) (by omega)
  have hs1 : small (7919 * k) = true := small_of (by omega) (by omega)
  have hs2 : small (48271 + 7919 * k * k) = true := small_of (by omega) (by omega)
  obtain ⟨ρ', eL, xs, dg, dr, s6, rfl, hl, hw⟩ := forL_ix (tg := gName 6) (body := m_law_draws_l1)
      (fun n ρ => ∃ (xs : List Int) (dg dr : Int) (s6 : Slot), ρ = [.sh (.int c), .sh (.int k), .sh (.bl f), .ol (xs.map .int), .sh (.int dg), .sh (.int dr), s6] ∧ xs.length = n ∧ Words xs)
      (ds := rangeL 0 6) 0 (by
        intro i d hd ρ hp
        obtain ⟨xs, dg, dr, s6, rfl, hlen, hw⟩ := hp
        obtain ⟨rfl, hi⟩ := rangeL_get hd
        obtain ⟨dg', dr', x, e, h0, h1⟩ := draws_step c k dg dr f xs (0 + i) (by omega) (by omega) (by omega)
        refine ⟨_, rfl, _, e, xs ++ [x], dg', dr', _, rfl, by simp [hlen], hw.snoc h0 h1⟩)
      (ρ := [.sh (.int c), .sh (.int k), .sh (.bl f), .ol [], .sh (.int (c / 16)), .sh (.int ((c / 16 % 1000000000000000000000000000000 + 1) * (48271 + 7919 * k * k) % 2147483629)), .un])
      ⟨[], _, _, _, rfl, rfl, (by intro x hx; cases hx)⟩
  refine ⟨xs, ?_, hl, hw⟩
  have s1 : small 10 = true := by decide
  have s2 : small 7919 = true := by decide
  simp [m_law_draws, p1030, s1, s2, hs0, hs1, hs2, d16, pw30, in6, eL]
noncomputable abbrev Sx (x : String) : Str := Str.ofString x
noncomputable def formT : List (Str × Str) := [(Sx "put", Sx "an"), (Sx "high", Sx "an"), (Sx "copy", Sx "ab"), (Sx "add", Sx "abc"), (Sx "less", Sx "abc"), (Sx "times", Sx "abc"), (Sx "cut", Sx "abc"), (Sx "rest", Sx "abc"), (Sx "under", Sx "abc"), (Sx "same", Sx "abc"),
  (Sx "load", Sx "abn"), (Sx "store", Sx "abn"), (Sx "jump", Sx "n"), (Sx "if", Sx "an"), (Sx "call", Sx "")]
noncomputable def formD (p : Str × Str) : D := .tup [.str p.1, .str p.2]
theorem forms_ok : m_law_forms [] = .ok (.lst (formT.map formD)) := by rfl
noncomputable def most (c : Nat) : Int := if c = 110 then 65536 else 8
theorem most_pos (c : Nat) : 0 < most c ∧ most c ≤ 65536 := by unfold most; split <;> decide
theorem one_eq (c d : Nat) : decide ((⟨#[c]⟩ : Str) = ⟨#[d]⟩) = decide (c = d) := by
  by_cases h : c = d
  · subst h; simp
  · have : ¬ (⟨#[c]⟩ : Str) = ⟨#[d]⟩ := by intro e; injection e with e; simp at e; exact h e
    rw [decide_eq_false this, decide_eq_false h]
theorem St_n : Str.ofString "n" = ⟨#[110]⟩ := by rfl
theorem most_ix (c : Nat) : atI [D.int 8, D.int 65536] (if c = 110 then 1 else 0) = some (.int (most c)) := by
  unfold most
  by_cases h : c = 110 <;> simp [h] <;> rfl
theorem d5 : okDiv 5 = true := by decide
theorem row_step {w k x4 x5 xk : Int} {xs ps : List Int} {n f : Str} {s6 s7 : Slot} {c : Nat} (hf : f.length ≤ 16777216) (hc : atI f.cps.toList k = some c)
    (hk : atI (xs.map D.int) k = some (.int xk)) (h4 : atI (xs.map D.int) 4 = some (.int x4)) (h5 : atI (xs.map D.int) 5 = some (.int x5)) (hl : ps.length < 16777216) :
    ∃ (p : Int) (t6 t7 : Slot), m_law_row_l1 [.sh (.int w), .sh (.lst (xs.map .int)), .sh (.str n), .sh (.str f), .ol (ps.map .int), .sh (.int k), s6, s7]
      = .ok (.next [.sh (.int w), .sh (.lst (xs.map .int)), .sh (.str n), .sh (.str f), .ol ((ps ++ [p]).map .int), .sh (.int k), t6, t7]) ∧ 0 ≤ p ∧ p < most c := by
  have hm := most_pos c
  have q1 : (sAsg (gName 6) (e2 oIx (eLst [eC (.int 8), eC (.int 65536)]) (e1 oInt (e2 oEq (e2 oIx (eVar 3) (eVar 5)) (eC (S "n"))))))
      [.sh (.int w), .sh (.lst (xs.map .int)), .sh (.str n), .sh (.str f), .ol (ps.map .int), .sh (.int k), s6, s7]
      = .ok (.next [.sh (.int w), .sh (.lst (xs.map .int)), .sh (.str n), .sh (.str f), .ol (ps.map .int), .sh (.int k), .sh (.int (most c)), s7]) := by
    simp [hf, hc, S, St_n, -Str.mk.injEq, one_eq, most_ix]
  have q2 : (sAsg (gName 7) (e2 oMod (e2 oIx (eVar 1) (eVar 5)) (eVar 6)))
      [.sh (.int w), .sh (.lst (xs.map .int)), .sh (.str n), .sh (.str f), .ol (ps.map .int), .sh (.int k), .sh (.int (most c)), s7]
      = .ok (.next [.sh (.int w), .sh (.lst (xs.map .int)), .sh (.str n), .sh (.str f), .ol (ps.map .int), .sh (.int k), .sh (.int (most c)), .sh (.int (xk % most c))]) := by
    simp [hk, hm.1]
  have q3 : ∃ p : Int, (sIf (tAnd (tV (e2 oEq (e2 oMod (e2 oIx (eVar 1) (eC (.int 4))) (eC (.int 5))) (eC (.int 1)))) (tV (e2 oEq (eVar 5) (e2 oMod (e2 oIx (eVar 1) (eC (.int 5))) (eC (.int 3)))))) (sAsg (gName 7) (e2 oIx (eLst [eC (.int 0), e2 oSub (eVar 6) (eC (.int 1))]) (e2 oMod (e2 oDiv (e2 oIx (eVar 1) (eC (.int 4))) (eC (.int 5))) (eC (.int 2))))) (sNil))
      [.sh (.int w), .sh (.lst (xs.map .int)), .sh (.str n), .sh (.str f), .ol (ps.map .int), .sh (.int k), .sh (.int (most c)), .sh (.int (xk % most c))]
      = .ok (.next [.sh (.int w), .sh (.lst (xs.map .int)), .sh (.str n), .sh (.str f), .ol (ps.map .int), .sh (.int k), .sh (.int (most c)), .sh (.int p)]) ∧ 0 ≤ p ∧ p < most c := by
    by_cases h : x4 % 5 = 1 ∧ k = x5 % 3
    · have h2 : x4 / 5 % 2 = 0 ∨ x4 / 5 % 2 = 1 := by omega
      refine ⟨if x4 / 5 % 2 = 0 then 0 else most c - 1, ?_, ?_, ?_⟩
      · rw [sIf_t]
        · simp [h4, atI_two h2, apply_ite D.int, d5]
        · simp [h4, h5, h.1, h.2]
      · split <;> omega
      · split <;> omega
    · refine ⟨xk % most c, ?_, Int.emod_nonneg _ (by omega), Int.emod_lt_of_pos _ hm.1⟩
      rw [sIf_nil]
      simp [h4, h5]
      by_cases h1 : x4 % 5 = 1
      · simp [h1] at h ⊢; exact h
      · simp [h1]
  obtain ⟨p, q3, hp0, hp1⟩ := q3
  refine ⟨p, .sh (.int (most c)), .sh (.int p), ?_, hp0, hp1⟩
  rw [m_law_row_l1, blk q1, blk q2, blk q3, blk (ρ' := [.sh (.int w), .sh (.lst (xs.map .int)), .sh (.str n), .sh (.str f), .ol ((ps ++ [p]).map .int), .sh (.int k), .sh (.int (most c)), .sh (.int p)]), blk_nil]
  simp [hl]
noncomputable def Good : List Nat → List Int → Prop
  | [], [] => True
  | c :: cs, p :: ps => (0 ≤ p ∧ p < most c) ∧ Good cs ps
  | _, _ => False
theorem Good.snoc : ∀ {cs : List Nat} {ps : List Int} {c : Nat} {p : Int}, Good cs ps → 0 ≤ p → p < most c → Good (cs ++ [c]) (ps ++ [p])
  | [], [], _, _, _, h0, h1 => ⟨⟨h0, h1⟩, trivial⟩
  | c :: cs, p :: ps, _, _, h, h0, h1 => ⟨h.1, Good.snoc h.2 h0 h1⟩
  | [], _ :: _, _, _, h, _, _ => h.elim
  | _ :: _, [], _, _, h, _, _ => h.elim
theorem Good.length : ∀ {cs : List Nat} {ps : List Int}, Good cs ps → ps.length = cs.length
  | [], [], _ => rfl
  | _ :: _, _ :: _, h => by simp [Good.length h.2]
  | [], _ :: _, h => h.elim
  | _ :: _, [], h => h.elim
theorem formT_small {n f : Str} (h : (n, f) ∈ formT) : f.length ≤ 3 ∧ n.length ≤ 5 := by
  have : ∀ p ∈ formT, p.2.length ≤ 3 ∧ p.1.length ≤ 5 := by decide
  exact this _ h
theorem row_ok {w : Int} {xs : List Int} {n f : Str} (hn : atI formT w = some (n, f)) (hm : (n, f) ∈ formT) (hl : xs.length = 6) :
    ∃ ps : List Int, m_law_row [.int w, .lst (xs.map .int)] = .ok (.tup (.str n :: ps.map .int)) ∧ Good f.cps.toList ps := by
  obtain ⟨hf, _⟩ := formT_small hm
  have h4 := atI_ints (xs := xs) (i := 4) (by decide) (by omega)
  have h5 := atI_ints (xs := xs) (i := 5) (by decide) (by omega)
  obtain ⟨x4, _, h4⟩ := h4
  obtain ⟨x5, _, h5⟩ := h5
  obtain ⟨ρ', eL, ps, s5, s6, s7, rfl, hg⟩ := forL_ix (tg := gName 5) (body := m_law_row_l1)
    (fun i ρ => ∃ (ps : List Int) (s5 s6 s7 : Slot), ρ = [.sh (.int w), .sh (.lst (xs.map .int)), .sh (.str n), .sh (.str f), .ol (ps.map .int), s5, s6, s7] ∧ Good (f.cps.toList.take i) ps)
    (ds := rangeL 0 f.length) 0 (by
      intro i d hd ρ hp
      obtain ⟨ps, s5, s6, s7, rfl, hg⟩ := hp
      obtain ⟨rfl, hi⟩ := rangeL_get hd
      have hil : i < f.cps.toList.length := by simp; unfold Str.length at hi; omega
      have hi3 : i < 3 := by omega
      obtain ⟨xk, _, hk⟩ := atI_ints (xs := xs) (i := 0 + (i : Int)) (by omega) (by omega)
      have hc : atI f.cps.toList (0 + (i : Int)) = some f.cps.toList[i] := by rw [Int.zero_add]; exact atI_nat hil
      have hpl := hg.length
      rw [List.length_take] at hpl
      obtain ⟨p, t6, t7, e, h0, h1⟩ := row_step (w := w) (n := n) (s6 := s6) (s7 := s7) (ps := ps) (by omega) hc hk h4 h5 (by omega)
      refine ⟨_, rfl, _, e, ps ++ [p], _, t6, t7, rfl, ?_⟩
      rw [Nat.zero_add] at hg ⊢
      rw [List.take_succ_eq_append_getElem hil]
      exact hg.snoc h0 h1)
    (ρ := [.sh (.int w), .sh (.lst (xs.map .int)), .sh (.str n), .sh (.str f), .ol [], .un, .un, .un]) ⟨[], _, _, _, rfl, by simp [Good]⟩
  refine ⟨ps, ?_, ?_⟩
  · have hpl := hg.length
    have hz : ps.length ≤ 3 := by rw [hpl, List.length_take]; unfold Str.length at hf; simp at hf ⊢; omega
    have hfs : atI (formT.map formD) w = some (.tup [.str n, .str f]) := by
      unfold atI at hn ⊢
      rw [List.length_map]
      cases e : ixN formT.length w with
      | none => rw [e] at hn; cases hn
      | some j => rw [e] at hn; simp only [Option.bind_some] at hn ⊢; rw [List.getElem?_map, hn]; rfl
    have hf2 : f.length ≤ 16777216 := by omega
    have hf3 : inR ((f.length : Nat) : Int) = true := inR_of (by omega) (by omega)
    have hz2 : ps.length < 16777216 := by omega
    have hz3 : 1 + ps.length ≤ 16777216 := by omega
    have a1 : (sAsg (gTup [2, 3]) (e2 oIx (eCall m_law_forms []) (eVar 0))) [.sh (.int w), .sh (.lst (xs.map .int)), .un, .un, .un, .un, .un, .un]
        = .ok (.next [.sh (.int w), .sh (.lst (xs.map .int)), .sh (.str n), .sh (.str f), .un, .un, .un, .un]) := by simp [forms_ok, hfs]
    have a3 : (sFor (iRng1 (e1 oLen (eVar 3))) (gName 5) m_law_row_l1) [.sh (.int w), .sh (.lst (xs.map .int)), .sh (.str n), .sh (.str f), .ol [], .un, .un, .un]
        = .ok (.next [.sh (.int w), .sh (.lst (xs.map .int)), .sh (.str n), .sh (.str f), .ol (ps.map .int), s5, s6, s7]) := by
      rw [← eL]
      have z : (iRng1 (e1 oLen (eVar 3))) [.sh (.int w), .sh (.lst (xs.map .int)), .sh (.str n), .sh (.str f), .ol [], .un, .un, .un] = .ok (rangeL 0 f.length) := by
        exact iRng1_ok (by simp [hf2]) hf3
      simp only [sFor, z, R.bind_ok]
    have a5 : (sRet (e1 oTuple (e2 oAdd (eLst [eVar 2]) (eVar 4)))) [.sh (.int w), .sh (.lst (xs.map .int)), .sh (.str n), .sh (.str f), .sh (.lst (ps.map .int)), s5, s6, s7]
        = .ok (.ret (.tup (.str n :: ps.map .int))) := by
      have z : [D.str n].length + (ps.map D.int).length ≤ szL := by simp; omega
      simp only [sRet, e1, e2, eLst, eList, eVar, List.getElem?_cons_succ, List.getElem?_cons_zero, R.bind_ok, oAdd, z, if_true, oTuple, List.cons_append, List.nil_append]
    rw [m_law_row]
    refine fn_ret ?_
    show sBlk _ [.sh (.int w), .sh (.lst (xs.map .int)), .un, .un, .un, .un, .un, .un] = _
    rw [blk a1, blk (ρ' := [.sh (.int w), .sh (.lst (xs.map .int)), .sh (.str n), .sh (.str f), .ol [], .un, .un, .un]) rfl, blk a3, blk (ρ' := [.sh (.int w), .sh (.lst (xs.map .int)), .sh (.str n), .sh (.str f), .sh (.lst (ps.map .int)), s5, s6, s7]) rfl, blk_ret a5]
  · have : (0 + (rangeL 0 (f.length : Int)).length) = f.cps.toList.length := by rw [rangeL_len]; unfold Str.length; simp
    rw [this, List.take_length] at hg
    exact hg
noncomputable def partB (c : Nat) : D → Bool
  | .int i => decide (0 ≤ i) && decide (i < most c)
  | _ => false
noncomputable def partsB : List Nat → List D → Bool
  | [], [] => true
  | c :: cs, p :: ps => partB c p && partsB cs ps
  | _, _ => false
noncomputable def shapeIn (n : Str) : List (Str × Str) → Option Str
  | [] => none
  | p :: r => if p.1 = n then some p.2 else shapeIn n r
noncomputable def isRowB : D → Bool
  | .tup (.str n :: ps) => match shapeIn n formT with
    | some f => partsB f.cps.toList ps
    | none => false
  | _ => false
noncomputable def nx : D → Bool
  | .exn _ _ _ => false
  | _ => true
noncomputable def nr : D → Bool
  | .exn _ _ _ => false
  | .tup xs => xs.all nx
  | _ => true
theorem whole_ok (d : D) (hd : nx d = true := by rfl) : m_is_whole [d] = .ok (.bl (match d with | .int _ => true | _ => false)) := by
  cases d <;> first | rfl | cases hd
theorem lwhole_ok (d : D) (hd : nx d = true := by rfl) : m_law_whole [d] = .ok (.bl (match d with | .int _ => true | _ => false)) := by
  cases d <;> first | rfl | cases hd
theorem bound_ok (c : Nat) : m_bound_of [.str ⟨#[c]⟩] = .ok (.int (most c)) := by
  have s2 : small 2 = true := by decide
  have p16 : okPow 16 = true := by decide
  unfold most
  by_cases h : c = 110 <;> simp [m_bound_of, S, St_n, -Str.mk.injEq, one_eq, h, s2, p16]
theorem part_ok (c : Nat) (p : D) (hd : nx p = true) : m_is_part [.str ⟨#[c]⟩, p] = .ok (.bl (partB c p)) := by
  cases p with
  | int i =>
    simp [m_is_part, whole_ok _ hd, bound_ok, partB]
    by_cases h : 0 ≤ i <;> simp [h]
  | exn _ _ _ => cases hd
  | _ => simp [m_is_part, whole_ok _ hd, partB]
theorem comp_parts : ∀ (cs : List Nat) (ps : List D), cs.length = ps.length → ps.all nx = true →
    ∃ bs : List D, compL (gTup [0, 1]) [] (eCall m_is_part [eVar 0, eVar 1]) [.un, .un] (zipD (cs.map fun c => .str ⟨#[c]⟩) ps) = .ok bs ∧ allB bs = .ok (.bl (partsB cs ps))
  | [], [], _, _ => ⟨[], rfl, rfl⟩
  | c :: cs, p :: ps, h, hp => by
    have hp2 : nx p = true ∧ ps.all nx = true := by simpa using hp
    obtain ⟨bs, e1, e2⟩ := comp_parts cs ps (by simpa using h) hp2.2
    refine ⟨.bl (partB c p) :: bs, ?_, ?_⟩
    · simp [compL, compL.allT, part_ok c p hp2.1, e1]
    · simp only [allB, partsB]
      cases partB c p <;> simp [e2]
  | [], _ :: _, h, _ => by simp at h
  | _ :: _, [], h, _ => by simp at h
theorem partsB_len : ∀ {cs : List Nat} {ps : List D}, cs.length ≠ ps.length → partsB cs ps = false
  | [], [], h => absurd rfl h
  | c :: cs, p :: ps, h => by simp only [partsB]; rw [partsB_len (by simpa using h), Bool.and_false]
  | [], _ :: _, _ => rfl
  | _ :: _, [], _ => rfl
theorem find_shape (n : Str) : ∀ l : List (Str × Str), findK (.inr n) (l.map fun p => .inr p.1) (l.map fun p => .str p.2) = (shapeIn n l).map .str
  | [] => rfl
  | p :: r => by
    simp only [List.map_cons, findK, shapeIn]
    by_cases h : p.1 = n
    · simp [h]
    · have : ¬ (Sum.inr p.1 : Ky) = Sum.inr n := fun e => h (Sum.inr.inj e)
      rw [if_neg this, if_neg h, find_shape n r]
theorem shapes_eq : g_SHAPES = .dct (formT.map fun p => .inr p.1) (formT.map fun p => .str p.2) := by rfl
theorem shape_ok (n : Str) : m_shape_of [.str n] = .ok (match shapeIn n formT with | some f => .str f | none => .non) := by
  have h := find_shape n formT
  rw [m_shape_of, shapes_eq]
  simp only [fn, sRet, e2, eC, eVar, R.bind_ok, List.map_cons, List.map_nil, List.cons_append, List.getElem?_cons_zero, oGet, keyOf, h]
  cases shapeIn n formT <;> rfl
theorem shape_small {n f : Str} (h : shapeIn n formT = some f) : f.length ≤ 3 := by
  have key : ∀ l : List (Str × Str), (∀ p ∈ l, p.2.length ≤ 3) → shapeIn n l = some f → f.length ≤ 3 := by
    intro l
    induction l with
    | nil => intro _ h; cases h
    | cons p r ih =>
      intro hl h
      simp only [shapeIn] at h
      split at h
      · cases h; exact hl p (List.mem_cons_self ..)
      · exact ih (fun q hq => hl q (List.mem_cons_of_mem _ hq)) h
  exact key formT (by decide) h
theorem atI_zero {α : Type} (x : α) (xs : List α) : atI (x :: xs) 0 = some x := atI_nat (xs := x :: xs) (j := 0) (by simp)
theorem sIx_pos {n d : Nat} {v : Int} (h : 0 ≤ v) : sIx n d (some v) = min v.toNat n := if_neg (by omega)
theorem cut_tail (xs : List D) (x : D) : cut (x :: xs) (some 1) none = xs := by
  have h1 : sIx (xs.length + 1) 0 (some 1) = 1 := by rw [sIx_pos (by decide)]; simp
  unfold cut
  simp [h1, sIx]
theorem tail_part (xs : List D) (x : D) : ¬ (sIx (x :: xs).length 0 (some 1) = 0 ∧ sIx (x :: xs).length (x :: xs).length none = (x :: xs).length) := by
  have h1 : sIx (xs.length + 1) 0 (some 1) = 1 := by rw [sIx_pos (by decide)]; simp
  rw [List.length_cons, h1]; rintro ⟨h, _⟩; cases h
theorem is_row_ok (d : D) (hd : nr d = true) : m_is_row [d] = .ok (.bl (isRowB d)) := by
  cases d with
  | tup xs =>
    cases xs with
    | nil => rfl
    | cons x ps =>
      have hl : ((ps.length : Int) + 1 == 0) = false := by rw [beq_eq_false_iff_ne]; omega
      have a0 := atI_zero x ps
      have hx : nx x = true ∧ ps.all nx = true := by have : List.all (x :: ps) nx = true := hd; simpa using this
      have c1 : (tOr (tNot (tV (e1 (oIsA .tuple) (eVar 0)))) (tOr (tV (e2 oEq (e1 oLen (eVar 0)) (eC (.int 0)))) (tNot (tV (e1 (oIsA .str) (e2 oIx (eVar 0) (eC (.int 0)))))))) [.sh (.tup (x :: ps)), .un] = .ok (match x with | .str _ => false | _ => true) := by
        cases x <;> first | (have := hx.1; cases this; done) | simp [atI_zero, hl]
      cases x with
      | str n =>
        have c2 : (sAsg (gName 1) (eCall m_shape_of [e2 oIx (eVar 0) (eC (.int 0))])) [.sh (.tup (.str n :: ps)), .un] = .ok (.next [.sh (.tup (.str n :: ps)), .sh (match shapeIn n formT with | some f => .str f | none => .non)]) := by
          simp [a0, shape_ok]
        rw [m_is_row]
        refine fn_ret ?_
        show sBlk _ [.sh (.tup (.str n :: ps)), .un] = _
        rw [blk (ρ' := [.sh (.tup (.str n :: ps)), .un]) (sIf_nil c1), blk c2]
        simp only [isRowB]
        cases hs : shapeIn n formT with
        | none => rw [blk_ret]; simp
        | some f =>
          have hf := shape_small hs
          have hf2 : f.length ≤ szL := by show _ ≤ 16777216; omega
          by_cases hlen : ps.length = f.length
          · obtain ⟨bs, e1, e2⟩ := comp_parts f.cps.toList ps (by rw [hlen]; unfold Str.length; simp) hx.2
            rw [blk (ρ' := [.sh (.tup (.str n :: ps)), .sh (.str f)]), blk_ret (d := .bl (partsB f.cps.toList ps))]
            · have ht := tail_part ps (.str n)
              simp only [sRet, PL.e1, eComp, iZip, eVar, List.getElem?_cons_succ, List.getElem?_cons_zero, R.bind_ok, eSl, eOpt, eC, oSl]
              rw [if_neg ht, cut_tail]
              simp only [R.bind_ok, items, frees, List.map_nil, List.append_nil, List.replicate]
              have hz : (zipD (f.cps.toList.map fun c => D.str ⟨#[c]⟩) ps).length ≤ szL := by rw [zipD_len, hlen]; exact Nat.le_trans (Nat.min_le_right _ _) hf2
              rw [if_pos hz, e1]
              simp [e2]
            · rw [sIf_nil]
              have : ((ps.length : Int) + 1 == 1 + (f.length : Int)) = true := by rw [hlen]; simp; omega
              simp [hf2, this]
          · rw [blk_ret (d := .bl false)]
            · show _ = R.ok (Fl.ret (D.bl (partsB f.cps.toList ps)))
              rw [partsB_len]
              intro e; apply hlen; rw [← e]; unfold Str.length; simp
            · have : ((ps.length : Int) + 1 == 1 + (f.length : Int)) = false := by rw [beq_eq_false_iff_ne]; omega
              rw [sIf_t]
              · rfl
              · simp [hf2, this]
      | exn _ _ _ => have := hx.1; cases this
      | _ =>
        rw [m_is_row]
        refine fn_ret ?_
        show sBlk _ [.sh (.tup (_ :: ps)), .un] = _
        exact blk_ret (by rw [sIf_t c1]; rfl)
  | exn _ _ _ => cases hd
  | _ => rfl
end K10
end PL
set_option linter.all false
set_option maxRecDepth 2000
set_option Elab.async false
set_option maxHeartbeats 400000
namespace PL
namespace K10
open PySem
noncomputable def unitOf (c : Nat) : Int := if c = 97 then 4194304 else if c = 98 then 524288 else if c = 99 then 65536 else 1
noncomputable def Letter (c : Nat) : Prop := c = 97 ∨ c = 98 ∨ c = 99 ∨ c = 110
noncomputable def val : List Nat → List Int → Int
  | c :: cs, p :: ps => p * unitOf c + val cs ps
  | _, _ => 0
theorem val_snoc : ∀ {cs : List Nat} {ps : List Int} (c : Nat) (p : Int), cs.length = ps.length → val (cs ++ [c]) (ps ++ [p]) = val cs ps + p * unitOf c
  | [], [], c, p, _ => by simp [val]
  | a :: cs, b :: ps, c, p, h => by
    simp only [List.cons_append, val]
    rw [val_snoc c p (by simpa using h)]; omega
  | [], b :: ps, _, _, h => by simp at h
  | a :: cs, [], _, _, h => by simp at h
theorem small_unit (c : Nat) : small (unitOf c) = true := by unfold unitOf; split; decide; split; decide; split <;> decide
theorem letters {n f : Str} (h : (n, f) ∈ formT) : ∀ c ∈ f.cps.toList, Letter c := by
  have : ∀ p ∈ formT, ∀ c ∈ p.2.cps.toList, c = 97 ∨ c = 98 ∨ c = 99 ∨ c = 110 := by decide +kernel
  exact this _ h
noncomputable def unitE : Ex := eDict [(.inr (Str.ofString "a")), (.inr (Str.ofString "b")), (.inr (Str.ofString "c")), (.inr (Str.ofString "n"))] [eC (.int 4194304), eC (.int 524288), eC (.int 65536), eC (.int 1)]
theorem unit_ix {c : Nat} (h : Letter c) : oIx (.dct [(.inr (Str.ofString "a")), (.inr (Str.ofString "b")), (.inr (Str.ofString "c")), (.inr (Str.ofString "n"))] [.int 4194304, .int 524288, .int 65536, .int 1]) (.str ⟨#[c]⟩) = .ok (.int (unitOf c)) := by
  rcases h with rfl | rfl | rfl | rfl <;> rfl
theorem unit_val (ρ : En) : unitE ρ = .ok (.dct [(.inr (Str.ofString "a")), (.inr (Str.ofString "b")), (.inr (Str.ofString "c")), (.inr (Str.ofString "n"))] [.int 4194304, .int 524288, .int 65536, .int 1]) := rfl
theorem lc_step {f : Str} {x y : D} {ps : List D} {k i v p : Int} {c : Nat} (hf : f.length ≤ 16777216) (hc : atI f.cps.toList i = some c) (hl : Letter c) (hp : atI (x :: ps) (i + 1) = some (.int p)) :
    m_law_coded_l1 [.sh (.tup (x :: ps)), .sh (.int k), .sh y, .sh (.str f), .sh (.int v), .sh (.int i)] = .ok (.next [.sh (.tup (x :: ps)), .sh (.int k), .sh y, .sh (.str f), .sh (.int (v + p * unitOf c)), .sh (.int i)]) := by
  have hu := unit_ix hl
  have h1 : (e2 oIx unitE (e2 oIx (eVar 3) (eVar 5))) [.sh (.tup (x :: ps)), .sh (.int k), .sh y, .sh (.str f), .sh (.int v), .sh (.int i)] = .ok (.int (unitOf c)) := by
    have h2 : (e2 oIx (eVar 3) (eVar 5)) [.sh (.tup (x :: ps)), .sh (.int k), .sh y, .sh (.str f), .sh (.int v), .sh (.int i)] = .ok (.str ⟨#[c]⟩) := by simp [hf, hc]
    show (unitE _).bind _ = _
    rw [unit_val, R.bind_ok]
    show ((e2 oIx (eVar 3) (eVar 5)) _).bind _ = _
    rw [h2, R.bind_ok, hu]
  have h3 : (e2 oIx (eVar 0) (e2 oAdd (eVar 5) (eC (.int 1)))) [.sh (.tup (x :: ps)), .sh (.int k), .sh y, .sh (.str f), .sh (.int v), .sh (.int i)] = .ok (.int p) := by simp [hp]
  have hs : (small p || small (unitOf c)) = true := by rw [small_unit]; simp
  show (sAsg (gName 4) (e2 oAdd (eVar 4) (e2 oMul (e2 oIx (eVar 0) (e2 oAdd (eVar 5) (eC (.int 1)))) (e2 oIx unitE (e2 oIx (eVar 3) (eVar 5)))))) _ = _
  have h4 : (e2 oMul (e2 oIx (eVar 0) (e2 oAdd (eVar 5) (eC (.int 1)))) (e2 oIx unitE (e2 oIx (eVar 3) (eVar 5)))) [.sh (.tup (x :: ps)), .sh (.int k), .sh y, .sh (.str f), .sh (.int v), .sh (.int i)] = .ok (.int (p * unitOf c)) := by
    show ((e2 oIx (eVar 0) (e2 oAdd (eVar 5) (eC (.int 1)))) _).bind _ = _
    rw [h3, R.bind_ok]
    show ((e2 oIx unitE (e2 oIx (eVar 3) (eVar 5))) _).bind _ = _
    rw [h1, R.bind_ok]
    show (if _ then _ else _) = _
    rw [if_pos hs]
  show ((e2 oAdd (eVar 4) (e2 oMul (e2 oIx (eVar 0) (e2 oAdd (eVar 5) (eC (.int 1)))) (e2 oIx unitE (e2 oIx (eVar 3) (eVar 5))))) _).bind _ = _
  have h5 : (e2 oAdd (eVar 4) (e2 oMul (e2 oIx (eVar 0) (e2 oAdd (eVar 5) (eC (.int 1)))) (e2 oIx unitE (e2 oIx (eVar 3) (eVar 5))))) [.sh (.tup (x :: ps)), .sh (.int k), .sh y, .sh (.str f), .sh (.int v), .sh (.int i)] = .ok (.int (v + p * unitOf c)) := by
    show (.ok (.int v) : R D).bind _ = _
    rw [R.bind_ok]
    show ((e2 oMul (e2 oIx (eVar 0) (e2 oAdd (eVar 5) (eC (.int 1)))) (e2 oIx unitE (e2 oIx (eVar 3) (eVar 5)))) _).bind _ = _
    rw [h4, R.bind_ok]; rfl
  rw [h5, R.bind_ok]; rfl
theorem forL_ret {tg : Tgt} {body : Sm} (P : En → Prop) {ds1 ds2 : List D} {d r : D} {ρ : En} (h1 : ∀ d ∈ ds1, ∀ ρ, P ρ → ∃ ρ1, tg d ρ = .ok ρ1 ∧ ∃ ρ2, body ρ1 = .ok (.next ρ2) ∧ P ρ2) (h2 : ∀ ρ, P ρ → ∃ ρ1, tg d ρ = .ok ρ1 ∧ body ρ1 = .ok (.ret r)) (h : P ρ) :
    forL tg body (ds1 ++ d :: ds2) ρ = .ok (.ret r) := by
  induction ds1 generalizing ρ with
  | nil =>
    obtain ⟨ρ1, e1, e2⟩ := h2 ρ h
    simp [forL, e1, e2]
  | cons a ds ih =>
    obtain ⟨ρ1, e1, ρ2, e2, h3⟩ := h1 a List.mem_cons_self ρ h
    have e : forL tg body (a :: ds ++ d :: ds2) ρ = forL tg body (ds ++ d :: ds2) ρ2 := by simp [forL, e1, e2]
    rw [e]
    exact ih (fun d hd => h1 d (List.mem_cons_of_mem _ hd)) h3
theorem names_nodup : (formT.map (·.1)).Nodup := by decide +kernel
theorem rangeL_split {j n : Nat} (h : j < n) : rangeL 0 (n : Int) = rangeL 0 (j : Int) ++ .int (j : Int) :: rangeL ((j : Int) + 1) (n : Int) := by
  apply List.ext_getElem?
  intro i
  have g : ∀ (a b : Int) (i : Nat), (rangeL a b)[i]? = if (i : Int) < b - a then some (.int (a + i)) else none := fun a b i => by
    split
    · rename_i hi
      have hl : i < (rangeL a b).length := by rw [rangeL_len]; omega
      rw [List.getElem?_eq_getElem hl]
      exact congrArg some (rangeL_get (List.getElem?_eq_getElem hl)).1
    · rename_i hi
      rw [List.getElem?_eq_none]; rw [rangeL_len]; omega
  rw [g]
  by_cases h1 : i < j
  · rw [List.getElem?_append_left (by rw [rangeL_len]; omega), g, if_pos (by omega), if_pos (by omega)]
  · rw [List.getElem?_append_right (by rw [rangeL_len]; omega), rangeL_len]
    by_cases h2 : i = j
    · subst h2; rw [if_pos (by omega)]; simp
    · have : i - ((j : Int) - 0).toNat = (i - j - 1) + 1 := by omega
      rw [this, List.getElem?_cons_succ, g]
      by_cases h3 : i < n
      · rw [if_pos (by omega), if_pos (by omega)]; congr 2; omega
      · rw [if_neg (by omega), if_neg (by omega)]
theorem forms_at {i : Nat} {n f : Str} (h : formT[i]? = some (n, f)) : atI (formT.map formD) (i : Int) = some (.tup [.str n, .str f]) := by
  obtain ⟨hi, e⟩ := List.getElem?_eq_some_iff.mp h
  rw [atI_nat (by simpa using hi)]
  simp [e, formD]
theorem mul_ok {i u : Int} (h : small u = true) : oMul (.int i) (.int u) = .ok (.int (i * u)) := by
  show (if _ then _ else _) = _
  rw [if_pos]; rw [h]; simp
theorem e_two {o : D → D → R D} {a b : Ex} {ρ : En} {x y d : D} (ha : a ρ = .ok x) (hb : b ρ = .ok y) (h : o x y = .ok d) : e2 o a b ρ = .ok d := by
  show (a ρ).bind _ = _
  rw [ha, R.bind_ok]
  show (b ρ).bind _ = _
  rw [hb, R.bind_ok, h]
theorem e_mul {a b : Ex} {ρ : En} {i u : Int} (ha : a ρ = .ok (.int i)) (hb : b ρ = .ok (.int u)) (h : small u = true) : e2 oMul a b ρ = .ok (.int (i * u)) := e_two ha hb (mul_ok h)
theorem e_add {a b : Ex} {ρ : En} {i u : Int} (ha : a ρ = .ok (.int i)) (hb : b ρ = .ok (.int u)) : e2 oAdd a b ρ = .ok (.int (i + u)) := e_two ha hb rfl
theorem e_div {a b : Ex} {ρ : En} {i u : Int} (ha : a ρ = .ok (.int i)) (hb : b ρ = .ok (.int u)) (h : okDiv u = true) : e2 oDiv a b ρ = .ok (.int (i / u)) := e_two ha hb (if_pos h)
theorem e_mod {a b : Ex} {ρ : En} {i u : Int} (ha : a ρ = .ok (.int i)) (hb : b ρ = .ok (.int u)) (h : 0 < u) : e2 oMod a b ρ = .ok (.int (i % u)) := e_two ha hb (if_pos h)
theorem s_asg {i : Nat} {a : Ex} {ρ : En} {d : D} (h : a ρ = .ok d) : sAsg (gName i) a ρ = (gName i d ρ).bind fun ρ' => .ok (.next ρ') := by
  show (a ρ).bind _ = _
  rw [h, R.bind_ok]
theorem lc_inner {n f : Str} (hm : (n, f) ∈ formT) {ps : List Int} (hl : ps.length = f.cps.toList.length) (k v : Int) (y : D) (s5 : Slot) : ∃ t5, forL (gName 5) m_law_coded_l1 (rangeL 0 f.length) [.sh (.tup (.str n :: ps.map .int)), .sh (.int k), .sh y, .sh (.str f), .sh (.int v), s5] = .ok (.next [.sh (.tup (.str n :: ps.map .int)), .sh (.int k), .sh y, .sh (.str f), .sh (.int (v + val f.cps.toList ps)), t5]) := by
  obtain ⟨hf3, hn5⟩ := formT_small hm
  have hf2 : f.length ≤ 16777216 := by omega
  have hfl : f.length = f.cps.toList.length := by unfold Str.length; simp
  generalize hT : D.tup (.str n :: ps.map .int) = T
  obtain ⟨ρ', eL, t5, rfl⟩ := forL_ix (tg := gName 5) (body := m_law_coded_l1)
    (fun i ρ => ∃ t5, ρ = [.sh T, .sh (.int k), .sh y, .sh (.str f), .sh (.int (v + val (f.cps.toList.take i) (ps.take i))), t5])
    (ds := rangeL 0 f.length) 0 (by
      rintro i d hd ρ ⟨t5, rfl⟩
      obtain ⟨rfl, hi⟩ := rangeL_get hd
      have hil : i < f.cps.toList.length := by omega
      have hip : i < ps.length := by omega
      have hc : atI f.cps.toList (0 + (i : Int)) = some f.cps.toList[i] := by rw [Int.zero_add]; exact atI_nat hil
      have hp : atI (.str n :: ps.map D.int) (0 + (i : Int) + 1) = some (.int ps[i]) := by
        have : (0 + (i : Int) + 1) = ((i + 1 : Nat) : Int) := by omega
        rw [this, atI_nat (by simp; omega)]
        simp
      refine ⟨_, rfl, _, by rw [← hT]; exact lc_step hf2 hc (letters hm _ (List.getElem_mem _)) hp, .sh (.int (0 + (i : Int))), ?_⟩
      rw [hT, Nat.zero_add, List.take_succ_eq_append_getElem hil, List.take_succ_eq_append_getElem hip, val_snoc _ _ (by rw [List.length_take, List.length_take]; omega)]
      rw [Int.add_assoc])
    (ρ := [.sh T, .sh (.int k), .sh y, .sh (.str f), .sh (.int (v)), s5]) ⟨s5, by simp [val]⟩
  have hlen : (0 + (rangeL 0 (f.length : Int)).length) = f.cps.toList.length := by rw [rangeL_len]; omega
  rw [hlen, List.take_length, ← hl, List.take_length] at eL
  exact ⟨t5, eL⟩
theorem law_coded_ok {j : Nat} {n f : Str} (hj : formT[j]? = some (n, f)) {ps : List Int} (hl : ps.length = f.cps.toList.length) : m_law_coded [.tup (.str n :: ps.map .int)] = .ok (.int (j * 33554432 + val f.cps.toList ps)) := by
  obtain ⟨hj15, _⟩ := List.getElem?_eq_some_iff.mp hj
  have hj15 : j < 15 := hj15
  have hm : (n, f) ∈ formT := List.mem_of_getElem? hj
  obtain ⟨hf3, hn5⟩ := formT_small hm
  have hf2 : f.length ≤ 16777216 := by omega
  have hfl : f.length = f.cps.toList.length := by unfold Str.length; simp
  have a0 := atI_zero (.str n) (ps.map D.int)
  generalize hT : D.tup (.str n :: ps.map .int) = T
  generalize hb : (j : Int) * 33554432 = b
  have one : ∀ (i : Nat) (n' f' : Str) (s2 s3 s4 s5 : Slot), formT[i]? = some (n', f') → (sAsg (gTup [2, 3]) (e2 oIx (eCall m_law_forms []) (eVar 1))) [.sh T, .sh (.int i), s2, s3, s4, s5] = .ok (.next [.sh T, .sh (.int i), .sh (.str n'), .sh (.str f'), s4, s5]) := by
    intro i n' f' s2 s3 s4 s5 h
    simp [forms_ok, forms_at h]
  have cond : ∀ (i : Nat) (n' f' : Str) (s4 s5 : Slot), (tV (e2 oEq (e2 oIx (eVar 0) (eC (.int 0))) (eVar 2))) [.sh T, .sh (.int i), .sh (.str n'), .sh (.str f'), s4, s5] = .ok (decide (n = n')) := by
    intro i n' f' s4 s5
    rw [← hT]
    simp only [tV, e2, eVar, eC, List.getElem?_cons_succ, List.getElem?_cons_zero, R.bind_ok, oIx, oIxQ, a0, oEq, eqOk_str_str, if_true, truth, eqD]
  have L : forL (gName 1) m_law_coded_l2 (rangeL 0 ((15 : Nat) : Int)) [.sh T, .un, .un, .un, .un, .un] = .ok (.ret (.int (b + val f.cps.toList ps))) := by
    rw [rangeL_split hj15]
    refine forL_ret (fun ρ => ∃ s1 s2 s3 s4 s5, ρ = [.sh T, s1, s2, s3, s4, s5]) ?_ ?_ ⟨_, _, _, _, _, rfl⟩
    · rintro d hd ρ ⟨s1, s2, s3, s4, s5, rfl⟩
      obtain ⟨k, rfl, hk0, hk1⟩ := rangeL_mem hd
      obtain ⟨i, rfl⟩ := Int.eq_ofNat_of_zero_le hk0
      have hi : i < j := by omega
      have hi15 : i < formT.length := by show i < 15; omega
      have hg : formT[i]? = some (formT[i].1, formT[i].2) := List.getElem?_eq_getElem hi15
      refine ⟨_, rfl, [.sh T, .sh (.int i), .sh (.str formT[i].1), .sh (.str formT[i].2), s4, s5], ?_, _, _, _, _, _, rfl⟩
      have hne : n ≠ formT[i].1 := by
        intro e
        have h1 : (formT.map (·.1))[i]? = some n := by rw [List.getElem?_map, hg, e]; rfl
        have h2 : (formT.map (·.1))[j]? = some n := by rw [List.getElem?_map, hj]; rfl
        obtain ⟨l1, e1⟩ := List.getElem?_eq_some_iff.mp h1
        obtain ⟨l2, e2⟩ := List.getElem?_eq_some_iff.mp h2
        exact List.pairwise_iff_getElem.mp names_nodup i j l1 l2 hi (e1.trans e2.symm)
      show m_law_coded_l2 [.sh T, .sh (.int i), s2, s3, s4, s5] = _
      rw [m_law_coded_l2, blk (one i _ _ s2 s3 s4 s5 hg), blk (sIf_nil (by rw [cond, decide_eq_false hne])), blk_nil]
    · rintro ρ ⟨s1, s2, s3, s4, s5, rfl⟩
      refine ⟨_, rfl, ?_⟩
      show m_law_coded_l2 [.sh T, .sh (.int j), s2, s3, s4, s5] = _
      rw [m_law_coded_l2, blk (one j _ _ s2 s3 s4 s5 hj)]
      refine blk_ret ?_
      rw [sIf_t (by rw [cond, decide_eq_true rfl])]
      have q1 : (sAsg (gName 4) (e2 oMul (eVar 1) (eC (.int 33554432)))) [.sh T, .sh (.int j), .sh (.str n), .sh (.str f), s4, s5] = .ok (.next [.sh T, .sh (.int j), .sh (.str n), .sh (.str f), .sh (.int (b)), s5]) := by
        have e : (e2 oMul (eVar 1) (eC (.int 33554432))) [.sh T, .sh (.int j), .sh (.str n), .sh (.str f), s4, s5] = .ok (.int b) := by
          rw [← hb]; exact e_mul rfl rfl (by decide)
        simp only [sAsg, e, R.bind_ok]
        rfl
      rw [blk q1]
      have z : (iRng1 (e1 oLen (eVar 3))) [.sh T, .sh (.int j), .sh (.str n), .sh (.str f), .sh (.int (b)), s5] = .ok (rangeL 0 f.length) := iRng1_ok (by simp [hf2]) (inR_of (by omega) (by omega))
      obtain ⟨t5, eL⟩ := lc_inner hm hl (j : Int) (b) (.str n) s5
      rw [hT] at eL
      rw [blk (by simp only [sFor, z, R.bind_ok]; exact eL)]
      rfl
  rw [m_law_coded]
  refine fn_ret ?_
  show sBlk _ [.sh T, .un, .un, .un, .un, .un] = _
  have z : (iRng1 (eC (.int 15))) [.sh T, .un, .un, .un, .un, .un] = .ok (rangeL 0 ((15 : Nat) : Int)) := iRng1_ok rfl (by decide)
  exact blk_ret (by simp only [sFor, z, R.bind_ok]; exact L)
end K10
end PL
set_option linter.all false
set_option maxRecDepth 2000
set_option Elab.async false
set_option maxHeartbeats 400000
namespace PL
namespace K10
open PySem
noncomputable def pt (w : Int) (c : Nat) : Int := w / unitOf c % most c
noncomputable def chD (c : Nat) : D := .str ⟨#[c]⟩
noncomputable def vOf (j : Nat) (cs : List Nat) (w : Int) : Int := j * 33554432 + val cs (cs.map (pt w))
noncomputable def rowOf (n : Str) (cs : List Nat) (w : Int) : D := .tup (.str n :: (cs.map (pt w)).map .int)
end K10
end PL
set_option linter.all false
set_option maxRecDepth 2000
set_option Elab.async false
set_option maxHeartbeats 400000
namespace PL
namespace K10
open PySem
theorem pw32 : okPow 32 = true := by decide
theorem sm2 : small 2 = true := by decide
theorem p32 : (2 : Int) ^ 32 = 4294967296 := by decide
theorem word_int {n : Int} (h0 : 0 ≤ n) (h1 : n < 4294967296) : m_is_word [.int n] = .ok (.bl true) := by
  have e : m_is_word [.int n] = .ok (.bl (decide (0 ≤ n) && decide (n < 4294967296))) := by
    simp [m_is_word, whole_ok (.int n) rfl, pw32, sm2, p32]
    by_cases h : 0 ≤ n <;> simp [h]
  rw [e, decide_eq_true h0, decide_eq_true h1]; rfl
theorem part_in_ok {w : Int} {c : Nat} (h : Letter c) : m_part_in [.int w, chD c] = .ok (.int (pt w c)) := by
  rcases h with rfl | rfl | rfl | rfl
  · rfl
  · rfl
  · rfl
  · have e : m_part_in [.int w, chD 110] = .ok (.int (w % 65536)) := rfl
    have z : pt w 110 = w % 65536 := by
      show w / 1 % 65536 = _
      rw [Int.ediv_one]
    rw [e, z]
theorem shape_of_form {n f : Str} (h : (n, f) ∈ formT) : m_shape_of [.str n] = .ok (.str f) := by
  have : ∀ p ∈ formT, shapeIn p.1 formT = some p.2 := by decide +kernel
  rw [shape_ok, this _ h]
theorem comp_in {w : Int} : ∀ (cs : List Nat), (∀ c ∈ cs, Letter c) → compL (gName 0) [] (eCall m_part_in [eVar 1, eVar 0]) [.un, .sh (.int w)] (cs.map chD) = .ok ((cs.map (pt w)).map .int)
  | [], _ => rfl
  | c :: cs, h => by
    have ih := comp_in (w := w) cs fun d hd => h d (List.mem_cons_of_mem _ hd)
    have e := part_in_ok (w := w) (h c List.mem_cons_self)
    simp only [List.map_cons, compL, compL.allT, gName, R.bind_ok, if_true, List.set_cons_zero]
    show ((m_part_in [.int w, chD c]).bind _) = _
    rw [e, R.bind_ok, ih]; rfl
noncomputable def posV (c : Nat) : Nat → List Nat → Int
  | _, [] => -1
  | k, a :: cs => if a = c then (k : Int) else posV c (k + 1) cs
noncomputable def partV (c : Nat) : List Nat → List Int → Int
  | a :: cs, p :: ps => if a = c then p else partV c cs ps
  | _, _ => 0
theorem pos_spec {c : Nat} : ∀ {cs : List Nat} {ps : List Int} {k : Nat}, cs.length = ps.length → (posV c k cs = -1 ∧ partV c cs ps = 0) ∨ ∃ i : Nat, posV c k cs = ((k + i : Nat) : Int) ∧ ps[i]? = some (partV c cs ps)
  | [], [], k, _ => .inl ⟨rfl, rfl⟩
  | a :: cs, p :: ps, k, h => by
    by_cases ha : a = c
    · exact .inr ⟨0, by simp [posV, ha], by simp [partV, ha]⟩
    · rcases pos_spec (c := c) (k := k + 1) (cs := cs) (ps := ps) (by simpa using h) with ⟨h1, h2⟩ | ⟨i, h1, h2⟩
      · exact .inl ⟨by simp [posV, ha, h1], by simp [partV, ha, h2]⟩
      · exact .inr ⟨i + 1, by simp only [posV, ha, if_false, h1]; congr 1; omega, by simpa [partV, ha] using h2⟩
  | [], _ :: _, _, h => by simp at h
  | _ :: _, [], _, h => by simp at h
theorem finds {n f : Str} (h : (n, f) ∈ formT) {c : Nat} (hc : Letter c) : Txt.find f ⟨#[c]⟩ = posV c 0 f.cps.toList := by
  have : ∀ p ∈ formT, ∀ c ∈ [97, 98, 99, 110], Txt.find p.2 ⟨#[c]⟩ = posV c 0 p.2.cps.toList := by decide +kernel
  exact this _ h c (by rcases hc with rfl | rfl | rfl | rfl <;> simp)
theorem ix_tup {xs : List D} {i : Int} {d : D} (h : atI xs i = some d) : oIx (.tup xs) (.int i) = .ok d := by simp [h]
theorem part_of_ok {n f : Str} (h : (n, f) ∈ formT) {c : Nat} (hc : Letter c) {ps : List Int} (hl : f.cps.toList.length = ps.length) : m_part_of [.tup (.str n :: ps.map .int), chD c] = .ok (.int (partV c f.cps.toList ps)) := by
  have a0 := atI_zero (.str n) (ps.map D.int)
  generalize hT : D.tup (.str n :: ps.map .int) = T
  have h0 : (eCall m_shape_of [e2 oIx (eVar 0) (eC (.int 0))]) [.sh T, .sh (chD c), .un] = .ok (.str f) := by
    have e : (e2 oIx (eVar 0) (eC (.int 0))) [.sh T, .sh (chD c), .un] = .ok (.str n) := by rw [← hT]; exact e_two rfl rfl (ix_tup a0)
    show (eList [e2 oIx (eVar 0) (eC (.int 0))] _).bind _ = _
    have e' : eList [e2 oIx (eVar 0) (eC (.int 0))] [.sh T, .sh (chD c), .un] = .ok [.str n] := by
      show ((e2 oIx (eVar 0) (eC (.int 0))) _).bind _ = _
      rw [e]; rfl
    rw [e', R.bind_ok, shape_of_form h]
  have h1 : (sAsg (gName 2) (e2 oFindT (eCall m_shape_of [e2 oIx (eVar 0) (eC (.int 0))]) (eVar 1))) [.sh T, .sh (chD c), .un] = .ok (.next [.sh T, .sh (chD c), .sh (.int (posV c 0 f.cps.toList))]) := by
    rw [s_asg (e_two (d := .int (posV c 0 f.cps.toList)) h0 rfl (by rw [← finds h hc]; rfl))]; rfl
  rw [m_part_of]
  refine fn_ret ?_
  show sBlk _ [.sh T, .sh (chD c), .un] = _
  rw [blk h1]
  refine blk_ret ?_
  rcases pos_spec (c := c) (k := 0) hl with ⟨g1, g2⟩ | ⟨i, g1, g2⟩
  · rw [g1, g2]; rfl
  · rw [g1, Nat.zero_add]
    have c1 : (tV (e2 oLt (eVar 2) (eC (.int 0)))) [.sh T, .sh (chD c), .sh (.int (i : Int))] = .ok false := by
      show (.ok (decide ((i : Int) < 0)) : R Bool) = _
      rw [decide_eq_false (by omega)]
    have c2 : (e2 oIx (eVar 0) (e2 oAdd (eC (.int 1)) (eVar 2))) [.sh T, .sh (chD c), .sh (.int (i : Int))] = .ok (.int (partV c f.cps.toList ps)) := by
      obtain ⟨hi, ei⟩ := List.getElem?_eq_some_iff.mp g2
      have ha : atI (.str n :: ps.map D.int) (1 + (i : Int)) = some (.int (partV c f.cps.toList ps)) := by
        have : (1 + (i : Int)) = ((i + 1 : Nat) : Int) := by omega
        rw [this, atI_nat (by simp; omega)]
        simp [ei]
      rw [← hT]
      exact e_two rfl (e_add rfl rfl) (ix_tup ha)
    show ((eIf _ _ _) _).bind _ = _
    rw [eIf_f c1, c2]; rfl
theorem sum_parts {n f : Str} (h : (n, f) ∈ formT) {ps : List Int} (hl : f.cps.toList.length = ps.length) (b : Int) :
    b + partV 97 f.cps.toList ps * 4194304 + partV 98 f.cps.toList ps * 524288 + (partV 99 f.cps.toList ps * 65536) + partV 110 f.cps.toList ps = b + val f.cps.toList ps := by
  have : ∀ p ∈ formT, p.2.cps.toList = [97, 110] ∨ p.2.cps.toList = [97, 98] ∨ p.2.cps.toList = [97, 98, 99] ∨ p.2.cps.toList = [97, 98, 110] ∨ p.2.cps.toList = [110] ∨ p.2.cps.toList = [] := by decide +kernel
  have h := this _ h
  simp only at h
  rcases h with h | h | h | h | h | h <;> rw [h] at hl ⊢
  · match ps, hl with
    | [a, b], _ => simp [partV, val, unitOf]; omega
  · match ps, hl with
    | [a, b], _ => simp [partV, val, unitOf]; omega
  · match ps, hl with
    | [a, b, c], _ => simp [partV, val, unitOf]; omega
  · match ps, hl with
    | [a, b, c], _ => simp [partV, val, unitOf]; omega
  · match ps, hl with
    | [a], _ => simp [partV, val, unitOf]
  · match ps, hl with
    | [], _ => simp [partV, val]
theorem index_names : ∀ (l : List (Str × Str)) (k j : Nat) (n f : Str), (l.map (·.1)).Nodup → l[j]? = some (n, f) → indexD (.str n) k (l.map fun p => .str p.1) = .ok (.int ((k + j : Nat) : Int))
  | [], _, _, _, _, _, h => by simp at h
  | p :: l, k, 0, n, f, _, h => by
    simp at h; subst h
    simp [indexD]
  | p :: l, k, j + 1, n, f, hn, h => by
    rw [List.map_cons, List.nodup_cons] at hn
    have hne : ¬ p.1 = n := fun e => hn.1 (by rw [e]; exact List.mem_map.mpr ⟨(n, f), List.mem_of_getElem? (by simpa using h), rfl⟩)
    have ih := index_names l (k + 1) j n f hn.2 (by simpa using h)
    simp only [List.map_cons, indexD, eqD, decide_eq_true_eq, hne, if_false]
    rw [ih]; congr 3; omega
theorem names_eq : g_NAMES = .tup (formT.map fun p => .str p.1) := by rfl
end K10
end PL
set_option linter.all false
set_option maxRecDepth 2000
set_option Elab.async false
set_option maxHeartbeats 400000
namespace PL
namespace K10
open PySem
theorem Good.parts : ∀ {cs : List Nat} {ps : List Int}, Good cs ps → partsB cs (ps.map .int) = true
  | [], [], _ => rfl
  | c :: cs, p :: ps, h => by
    simp only [List.map_cons, partsB, partB]
    rw [decide_eq_true h.1.1, decide_eq_true h.1.2, Good.parts h.2]; rfl
  | [], _ :: _, h => h.elim
  | _ :: _, [], h => h.elim
theorem good_pt (w : Int) : ∀ cs : List Nat, Good cs (cs.map (pt w))
  | [] => True.intro
  | c :: cs => ⟨⟨Int.emod_nonneg _ (by have := (most_pos c).1; omega), Int.emod_lt_of_pos _ (most_pos c).1⟩, good_pt w cs⟩
theorem e_call1 {f : List D → R D} {a : Ex} {ρ : En} {x d : D} (ha : a ρ = .ok x) (h : f [x] = .ok d) : eCall f [a] ρ = .ok d := by
  show (eList [a] ρ).bind f = _
  have : eList [a] ρ = .ok [x] := by show (a ρ).bind _ = _; rw [ha]; rfl
  rw [this, R.bind_ok, h]
theorem e_call2 {f : List D → R D} {a b : Ex} {ρ : En} {x y d : D} (ha : a ρ = .ok x) (hb : b ρ = .ok y) (h : f [x, y] = .ok d) : eCall f [a, b] ρ = .ok d := by
  show (eList [a, b] ρ).bind f = _
  have : eList [a, b] ρ = .ok [x, y] := by
    show (a ρ).bind _ = _
    rw [ha, R.bind_ok]
    show ((b ρ).bind _).bind _ = _
    rw [hb]; rfl
  rw [this, R.bind_ok, h]
theorem t_v {a : Ex} {ρ : En} {b : Bool} (ha : a ρ = .ok (.bl b)) : tV a ρ = .ok b := by
  show (a ρ).bind _ = _
  rw [ha]; rfl
theorem t_not {t : Tst} {ρ : En} {b : Bool} (h : t ρ = .ok b) : tNot t ρ = .ok (!b) := by
  show (t ρ).bind _ = _
  rw [h]; rfl
theorem t_or {t u : Tst} {ρ : En} {b c : Bool} (h : t ρ = .ok b) (h' : u ρ = .ok c) : tOr t u ρ = .ok (b || c) := by
  show (t ρ).bind _ = _
  rw [h, R.bind_ok]
  cases b
  · exact h'
  · rfl
theorem s_ret {a : Ex} {ρ : En} {d : D} (h : a ρ = .ok d) : sRet a ρ = .ok (.ret d) := by
  show (a ρ).bind _ = _
  rw [h]; rfl
theorem nr_row (n : Str) (ps : List Int) : nr (.tup (.str n :: ps.map .int)) = true := by
  show (nx (.str n) && List.all (ps.map D.int) nx) = true
  rw [List.all_map, show nx (.str n) = true from rfl, Bool.true_and, List.all_eq_true]; exact fun _ _ => rfl
theorem coded_ok {j : Nat} {n f : Str} (hj : formT[j]? = some (n, f)) {ps : List Int} (hg : Good f.cps.toList ps) : m_coded [.tup (.str n :: ps.map .int)] = .ok (.int (j * 33554432 + val f.cps.toList ps)) := by
  have hm : (n, f) ∈ formT := List.mem_of_getElem? hj
  have hl : f.cps.toList.length = ps.length := hg.length.symm
  have hr : m_is_row [.tup (.str n :: ps.map .int)] = .ok (.bl true) := by
    have : ∀ p ∈ formT, shapeIn p.1 formT = some p.2 := by decide +kernel
    rw [is_row_ok _ (nr_row n ps)]
    have e : isRowB (.tup (.str n :: ps.map .int)) = (match shapeIn n formT with | some f => partsB f.cps.toList (ps.map .int) | none => false) := rfl
    rw [e, this _ hm]
    show R.ok (D.bl (partsB f.cps.toList (ps.map .int))) = _
    rw [hg.parts]
  have ha := part_of_ok hm (c := 97) (.inl rfl) hl
  have hb := part_of_ok hm (c := 98) (.inr (.inl rfl)) hl
  have hc := part_of_ok hm (c := 99) (.inr (.inr (.inl rfl))) hl
  have hn := part_of_ok hm (c := 110) (.inr (.inr (.inr rfl))) hl
  have a0 := atI_zero (.str n) (ps.map D.int)
  have hi : oIndexT g_NAMES (.str n) = .ok (.int j) := by
    rw [names_eq]
    show (if flat (.str n) = true ∧ (formT.map fun p => D.str p.1).all flat = true then indexD (.str n) 0 (formT.map fun p => D.str p.1) else R.bad) = _
    rw [if_pos ⟨rfl, by rfl⟩, index_names formT 0 j n f names_nodup hj, Nat.zero_add]
  generalize hT : D.tup (.str n :: ps.map .int) = T at *
  have h0 : (e2 oIx (eVar 0) (eC (.int 0))) [.sh T, .un] = .ok (.str n) := by rw [← hT]; exact e_two rfl rfl (ix_tup a0)
  rw [← sum_parts hm hl]
  generalize hb0 : (j : Int) * 33554432 = b
  rw [m_coded]
  refine fn_ret ?_
  show sBlk _ [.sh T, .un] = _
  rw [blk (ρ' := [.sh T, .un]) (sIf_nil (t_not (t_v (e_call1 rfl hr))))]
  rw [blk (ρ' := [.sh T, .sh (.int b)]) (by
    rw [s_asg (d := .int b) (by rw [← hb0]; exact e_mul (e_two rfl h0 hi) (show (e2 oPow (eC (.int 2)) (eC (.int 25))) _ = .ok (.int 33554432) from rfl) (by decide))]; rfl)]
  rw [blk (ρ' := [.sh T, .sh (.int (b + partV 97 f.cps.toList ps * 4194304 + partV 98 f.cps.toList ps * 524288))]) (by
    rw [s_asg (e_add (e_add (i := b) rfl (e_mul (e_call2 (y := chD 97) rfl rfl ha) (show (e2 oPow (eC (.int 2)) (eC (.int 22))) _ = .ok (.int 4194304) from rfl) (by decide))) (e_mul (e_call2 (y := chD 98) rfl rfl hb) (show (e2 oPow (eC (.int 2)) (eC (.int 19))) _ = .ok (.int 524288) from rfl) (by decide)))]; rfl)]
  exact blk_ret (s_ret (e_add (e_add rfl (e_mul (e_call2 (y := chD 99) rfl rfl hc) (show (e2 oPow (eC (.int 2)) (eC (.int 16))) _ = .ok (.int 65536) from rfl) (by decide))) (e_call2 (y := chD 110) rfl rfl hn)))
theorem dec_cond {w : Int} (h0 : 0 ≤ w) (h1 : w < 4294967296) : (tOr (tNot (tV (eCall m_is_word [eVar 0]))) (tV (e2 oGe (e2 oDiv (eVar 0) (e2 oPow (eC (.int 2)) (eC (.int 25)))) (e1 oLen (eC g_NAMES))))) [.sh (.int w), .un, .un] = .ok (decide (15 ≤ w / 33554432)) := by
  have e := t_or (t_not (t_v (e_call1 (f := m_is_word) (a := eVar 0) (ρ := [.sh (.int w), .un, .un]) rfl (word_int h0 h1)))) (t_v (e_two (o := oGe) (e_div (a := eVar 0) (b := e2 oPow (eC (.int 2)) (eC (.int 25))) (u := 33554432) rfl rfl (by decide)) (show (e1 oLen (eC g_NAMES)) [.sh (.int w), .un, .un] = .ok (.int 15) from rfl) rfl))
  exact e
theorem decoded_big {w : Int} (h0 : 0 ≤ w) (h1 : w < 4294967296) (h : 14 < w / 33554432) : m_decoded [.int w] = .ok .non := by
  rw [m_decoded]
  refine fn_ret ?_
  show sBlk _ [.sh (.int w), .un, .un] = _
  refine blk_ret ?_
  rw [sIf_t (by rw [dec_cond h0 h1, decide_eq_true (by omega)])]
  rfl
theorem decoded_ok {w : Int} {j : Nat} {n f : Str} (h0 : 0 ≤ w) (h1 : w < 4294967296) (hj : formT[j]? = some (n, f)) (hk : w / 33554432 = j) : m_decoded [.int w] = .ok (if vOf j f.cps.toList w = w then rowOf n f.cps.toList w else .non) := by
  obtain ⟨hj15, _⟩ := List.getElem?_eq_some_iff.mp hj
  have hj15 : j < 15 := hj15
  have hm : (n, f) ∈ formT := List.mem_of_getElem? hj
  obtain ⟨hf3, hn5⟩ := formT_small hm
  have hf2 : f.length ≤ 16777216 := by omega
  have hfl : f.length = f.cps.toList.length := by unfold Str.length; simp
  have hc := coded_ok hj (good_pt w f.cps.toList)
  have hn : atI (formT.map fun p => D.str p.1) (j : Int) = some (.str n) := by
    obtain ⟨hi, e⟩ := List.getElem?_eq_some_iff.mp hj
    rw [atI_nat (by simpa using hi)]
    simp [e]
  rw [m_decoded]
  refine fn_ret ?_
  show sBlk _ [.sh (.int w), .un, .un] = _
  rw [blk (ρ' := [.sh (.int w), .un, .un]) (sIf_nil (by rw [dec_cond h0 h1, decide_eq_false (by omega)]))]
  have q1 : (e2 oIx (eC g_NAMES) (e2 oDiv (eVar 0) (e2 oPow (eC (.int 2)) (eC (.int 25))))) [.sh (.int w), .un, .un] = .ok (.str n) := by
    rw [names_eq]
    exact e_two rfl (e_div (u := 33554432) rfl rfl (by decide)) (by rw [hk]; exact ix_tup hn)
  rw [blk (ρ' := [.sh (.int w), .sh (.str n), .un]) (by rw [s_asg q1]; rfl)]
  have q2 : (eComp (iSeq (eCall m_shape_of [eVar 1])) 1 [0] (gName 0) [] (eCall m_part_in [eVar 1, eVar 0])) [.sh (.int w), .sh (.str n), .un] = .ok (.lst ((f.cps.toList.map (pt w)).map .int)) := by
    have z : (iSeq (eCall m_shape_of [eVar 1])) [.sh (.int w), .sh (.str n), .un] = .ok (f.cps.toList.map chD) := by
      show ((eCall m_shape_of [eVar 1]) _).bind _ = _
      rw [e_call1 (x := .str n) rfl (shape_of_form hm), R.bind_ok]
      simp [items, hf2, chD]
    have hz : (f.cps.toList.map chD).length ≤ szL := by show _ ≤ 16777216; rw [List.length_map]; omega
    have e := comp_in (w := w) f.cps.toList (letters hm)
    show ((iSeq (eCall m_shape_of [eVar 1])) _).bind _ = _
    rw [z, R.bind_ok, if_pos hz]
    show (compL (gName 0) [] (eCall m_part_in [eVar 1, eVar 0]) [.un, .sh (.int w)] _).bind _ = _
    rw [e]; rfl
  have q3 : (e1 oTuple (e2 oAdd (eLst [eVar 1]) (eComp (iSeq (eCall m_shape_of [eVar 1])) 1 [0] (gName 0) [] (eCall m_part_in [eVar 1, eVar 0])))) [.sh (.int w), .sh (.str n), .un] = .ok (rowOf n f.cps.toList w) := by
    have z : [D.str n].length + ((f.cps.toList.map (pt w)).map D.int).length ≤ szL := by show 1 + _ ≤ 16777216; rw [List.length_map, List.length_map]; omega
    have e := e_two (o := oAdd) (a := eLst [eVar 1]) (x := .lst [.str n]) (d := .lst (.str n :: (f.cps.toList.map (pt w)).map .int)) rfl q2 (by show (if _ then _ else _) = _; rw [if_pos z]; rfl)
    show ((e2 oAdd _ _) _).bind _ = _
    rw [e]; rfl
  rw [blk (ρ' := [.sh (.int w), .sh (.str n), .sh (rowOf n f.cps.toList w)]) (by rw [s_asg q3]; rfl)]
  have c : (tV (e2 oEq (eCall m_coded [eVar 2]) (eVar 0))) [.sh (.int w), .sh (.str n), .sh (rowOf n f.cps.toList w)] = .ok (decide (vOf j f.cps.toList w = w)) := by
    refine t_v (e_two (x := .int (vOf j f.cps.toList w)) (y := .int w) (e_call1 rfl hc) rfl ?_)
    unfold oEq
    rw [eqOk_int_int, if_pos rfl]
    rfl
  refine blk_ret (s_ret ?_)
  by_cases hv : vOf j f.cps.toList w = w
  · rw [if_pos hv, eIf_t (by rw [c, decide_eq_true hv])]; rfl
  · rw [if_neg hv, eIf_f (by rw [c, decide_eq_false hv])]; rfl
end K10
end PL
set_option linter.all false
set_option maxRecDepth 2000
set_option Elab.async false
set_option maxHeartbeats 400000
namespace PL
namespace K10
open PySem
theorem eqDs_ints : ∀ ws : List Int, eqDs (ws.map D.int) (ws.map D.int) = true
  | [] => rfl
  | w :: ws => by show ((w == w) && eqDs (ws.map D.int) (ws.map D.int)) = true; rw [eqDs_ints ws, beq_self_eq_true]; rfl
theorem lays_ints : ∀ ws : List Int, lays (ws.map D.int) = true
  | [] => rfl
  | w :: ws => by show (true && lays (ws.map D.int)) = true; rw [lays_ints ws]; rfl
theorem deps_ints : ∀ ws : List Int, deps (ws.map D.int) = 0
  | [] => rfl
  | w :: ws => by show max 0 (deps (ws.map D.int)) = 0; rw [deps_ints ws]; rfl
theorem val_bound {n f : Str} (h : (n, f) ∈ formT) {ps : List Int} (hg : Good f.cps.toList ps) : 0 ≤ val f.cps.toList ps ∧ val f.cps.toList ps < 33554432 := by
  have : ∀ p ∈ formT, p.2.cps.toList = [97, 110] ∨ p.2.cps.toList = [97, 98] ∨ p.2.cps.toList = [97, 98, 99] ∨ p.2.cps.toList = [97, 98, 110] ∨ p.2.cps.toList = [110] ∨ p.2.cps.toList = [] := by decide +kernel
  have h := this _ h
  simp only at h
  have hl := hg.length
  rcases h with h | h | h | h | h | h <;> rw [h] at hl hg ⊢
  · match ps, hl, hg with
    | [a, b], _, hg => simp [Good, most] at hg; simp [val, unitOf]; omega
  · match ps, hl, hg with
    | [a, b], _, hg => simp [Good, most] at hg; simp [val, unitOf]; omega
  · match ps, hl, hg with
    | [a, b, c], _, hg => simp [Good, most] at hg; simp [val, unitOf]; omega
  · match ps, hl, hg with
    | [a, b, c], _, hg => simp [Good, most] at hg; simp [val, unitOf]; omega
  · match ps, hl, hg with
    | [a], _, hg => simp [Good, most] at hg; simp [val, unitOf]; omega
  · match ps, hl, hg with
    | [], _, hg => simp [val]
theorem drawn_row (w : Int) (h0 : 0 ≤ w) (h1 : w < 15) {xs : List Int} (hl : xs.length = 6) :
    ∃ (j : Nat) (n f : Str) (ps : List Int), formT[j]? = some (n, f) ∧ m_law_row [.int w, .lst (xs.map .int)] = .ok (.tup (.str n :: ps.map .int)) ∧ Good f.cps.toList ps := by
  have ha := atI_int (xs := formT) h0 (by simpa [formT] using h1)
  have hg : formT[w.toNat]? = some (formT[w.toNat]'(by simp [formT]; omega)) := List.getElem?_eq_getElem _
  have hm : formT[w.toNat]'(by simp [formT]; omega) ∈ formT := List.getElem_mem _
  generalize formT[w.toNat]'(by simp [formT]; omega) = p at ha hm hg
  obtain ⟨n, f⟩ := p
  obtain ⟨ps, e, g⟩ := row_ok ha hm hl
  exact ⟨w.toNat, n, f, ps, hg, e, g⟩
end K10
end PL
set_option linter.all false
set_option maxRecDepth 2000
set_option Elab.async false
namespace PL
open PySem
noncomputable def decS (i : Int) : Str := Str.ofString (toString i)
theorem dec_cps {n : Nat} : (decS (n : Int)).cps.toList = (Nat.toDigits 10 n).map Char.toNat := by
  unfold decS
  rw [Str.ofString_eq_toList]
  show ((toString (n : Int)).toList.map Char.toNat).toArray.toList = _
  rw [List.toList_toArray]
  congr 1
  show (Int.repr (n : Int)).toList = _
  exact Nat.toList_repr
theorem dec_len {i : Int} (h0 : 0 ≤ i) (h1 : i < 10000000000) : (decS i).length ≤ 10 := by
  obtain ⟨n, rfl⟩ := Int.eq_ofNat_of_zero_le h0
  have hl : (decS (n : Int)).length = (decS (n : Int)).cps.toList.length := by unfold Str.length; simp
  rw [hl, dec_cps, List.length_map]
  exact (Nat.length_toDigits_le_iff (by decide) (by decide)).mpr (by omega)
theorem empty_app (x : Str) : Str.empty ++ x = x := by
  obtain ⟨a⟩ := x
  show Str.mk (#[] ++ a) = _
  simp
theorem sum_le {zs : List Str} {b : Nat} : (∀ z ∈ zs, z.length ≤ b) → (zs.map (·.length)).sum ≤ zs.length * b := by
  induction zs with
  | nil => intro _; simp
  | cons z zs ih =>
    intro h
    have h1 := h z List.mem_cons_self
    have h2 := ih fun y hy => h y (List.mem_cons_of_mem _ hy)
    simp only [List.map_cons, List.sum_cons, List.length_cons, Nat.succ_mul]
    omega
theorem joinOk_of {sep : Str} {zs : List Str} {b : Nat} (h : ∀ z ∈ zs, z.length ≤ b) (hb : zs.length * b + zs.length * sep.length ≤ 16777216) : JoinOk sep zs = true := by
  unfold JoinOk
  rw [StrLaws.joinTotal]
  have := sum_le h
  unfold Builtin.Str.tooLong
  rw [show (Bool.not (decide ((zs.map (·.length)).sum + zs.length * sep.length > sizeLine))) = !false from ?_]
  · rfl
  · congr 1
    rw [decide_eq_false_iff_not, sizeLine_eq]
    omega
theorem join_len {sep : Str} {zs : List Str} {b : Nat} (h : ∀ z ∈ zs, z.length ≤ b) : (Txt.join sep zs).length ≤ zs.length * b + zs.length * sep.length := by
  show (Builtin.Str.glued sep zs).length ≤ _
  rw [StrLaws.glued_eq_join]
  have := StrLaws.join_length_le sep zs
  have := sum_le h
  omega
theorem strsOf_map : ∀ zs : List Str, strsOf (zs.map D.str) = some zs
  | [] => rfl
  | z :: zs => by rw [List.map_cons, strsOf, strsOf_map zs]; rfl
theorem joinT {sep : Str} {zs : List Str} (h : JoinOk sep zs = true) : oJoinT (.str sep) (.lst (zs.map .str)) = .ok (.str (Txt.join sep zs)) := by
  show (match strsOf (zs.map D.str) with | some zs => if JoinOk sep zs = true then R.ok (D.str (Txt.join sep zs)) else R.bad | none => R.bad) = _
  rw [strsOf_map]
  exact if_pos h
theorem fmt_ok {pre : Str} {a : Ex} {ρ : En} {i : Int} (h0 : 0 ≤ i) (h1 : i < 10000000000) (hp : pre.length ≤ 1000) (ha : a ρ = .ok (.int i)) : eFmt pre a ρ = .ok (.str (pre ++ decS i)) := by
  show (a ρ).bind _ = _
  rw [ha, R.bind_ok]
  have hl := dec_len h0 h1
  have e : Str.empty ++ pre = pre := empty_app pre
  have e2 : (pre ++ Str.ofString (toString i)).length ≤ sizeLine := by
    rw [Str.length_append, sizeLine_eq]
    show pre.length + (decS i).length ≤ _
    omega
  rw [e]
  refine (if_pos ⟨log_small h0 (Int.lt_trans h1 (by decide)), by rw [sizeLine_eq]; omega, e2⟩).trans rfl
theorem str_ok {i : Int} (h0 : 0 ≤ i) (h1 : i < 10000000000) : oStr (.int i) = .ok (.str (decS i)) := by
  show (if 0 ≤ i ∧ i < 10 ^ 100 then _ else _) = _
  exact if_pos ⟨h0, Int.lt_trans h1 (by decide)⟩
theorem add_str {x y : Str} (h : x.length + y.length ≤ 16777216) : oAdd (.str x) (.str y) = .ok (.str (x ++ y)) := if_pos h
theorem compL_map {α : Type} {tg : Tgt} {el : Ex} {ρ : En} (u : α → D) (v : α → D) : ∀ {xs : List α}, (∀ x ∈ xs, ∃ ρ1, tg (u x) ρ = .ok ρ1 ∧ el ρ1 = .ok (v x)) → compL tg [] el ρ (xs.map u) = .ok (xs.map v)
  | [], _ => rfl
  | x :: xs, h => by
    obtain ⟨ρ1, e1, e2⟩ := h x List.mem_cons_self
    rw [List.map_cons, compL, e1, R.bind_ok]
    show (R.ok true).bind _ = _
    rw [R.bind_ok, if_pos rfl, e2, R.bind_ok, compL_map u v (fun y hy => h y (List.mem_cons_of_mem _ hy))]
    rfl
theorem eComp_ok {it : Itr} {n : Nat} {fv : List Nat} {tg : Tgt} {cs : List Tst} {el : Ex} {ρ : En} {ds ys : List D} (hi : it ρ = .ok ds) (hl : ds.length ≤ 16777216) (hc : compL tg cs el (List.replicate n .un ++ frees ρ fv) ds = .ok ys) : eComp it n fv tg cs el ρ = .ok (.lst ys) := by
  show (it ρ).bind _ = _
  rw [hi, R.bind_ok, if_pos hl, hc]; rfl
end PL
set_option linter.all false
set_option maxRecDepth 2000
set_option Elab.async false
set_option maxHeartbeats 400000
namespace PL
namespace K10
open PySem
noncomputable def partS (c : Nat) (p : Int) : Str := if c = 110 then decS p else Sx "r" ++ decS p
theorem pt_pos (w : Int) (c : Nat) : 0 ≤ pt w c ∧ pt w c < 65536 := by
  have := most_pos c
  unfold pt
  constructor
  · exact Int.emod_nonneg _ (by omega)
  · have := Int.emod_lt_of_pos (w / unitOf c) this.1; omega
theorem partS_len (c : Nat) {p : Int} (h0 : 0 ≤ p) (h1 : p < 10000000000) : (partS c p).length ≤ 11 := by
  have := dec_len h0 h1
  unfold partS
  split
  · omega
  · rw [Str.length_append]
    have : (Sx "r").length = 1 := by decide
    omega
theorem shown_part_ok {c : Nat} {p : Int} (h0 : 0 ≤ p) (h1 : p < 65536) : m_shown_part [chD c, .int p] = .ok (.str (partS c p)) := by
  rw [m_shown_part]
  refine fn_ret (s_ret ?_)
  show eIf _ _ _ [.sh (chD c), .sh (.int p)] = _
  have ct : (tV (e2 oEq (eVar 0) (eC (S "n")))) [.sh (chD c), .sh (.int p)] = .ok (decide (c = 110)) := by
    refine t_v (e_two (x := chD c) (y := S "n") rfl rfl ?_)
    unfold oEq chD S
    rw [eqOk_str_str, if_pos rfl, St_n]
    show R.ok (D.bl (decide ((⟨#[c]⟩ : Str) = ⟨#[110]⟩))) = _
    rw [one_eq]
  by_cases h : c = 110
  · rw [eIf_t (by rw [ct, decide_eq_true h])]
    show ((eVar 1) _).bind _ = _
    rw [show (eVar 1) [.sh (chD c), .sh (.int p)] = .ok (.int p) from rfl, R.bind_ok, str_ok h0 (by omega)]
    unfold partS; rw [if_pos h]
  · rw [eIf_f (by rw [ct, decide_eq_false h]), fmt_ok h0 (by omega) (by decide) rfl]
    unfold partS; rw [if_neg h]
theorem zip_parts (w : Int) : ∀ cs : List Nat, zipD (cs.map chD) ((cs.map (pt w)).map .int) = cs.map fun c => .tup [chD c, .int (pt w c)]
  | [] => rfl
  | c :: cs => by simp only [List.map_cons, zipD, zip_parts w cs]
noncomputable def rowS (n : Str) (cs : List Nat) (w : Int) : List Str := n :: cs.map fun c => partS c (pt w c)
theorem rowS_len {n f : Str} (hm : (n, f) ∈ formT) (w : Int) : (∀ z ∈ rowS n f.cps.toList w, z.length ≤ 11) ∧ (rowS n f.cps.toList w).length ≤ 4 := by
  obtain ⟨hf3, hn5⟩ := formT_small hm
  have hfl : f.length = f.cps.toList.length := by unfold Str.length; simp
  refine ⟨fun z hz => ?_, by unfold rowS; simp at hfl ⊢; omega⟩
  rcases List.mem_cons.mp hz with rfl | hz
  · omega
  · obtain ⟨c, _, rfl⟩ := List.mem_map.mp hz
    have := pt_pos w c
    exact partS_len c this.1 (by omega)
theorem sp_len : (Sx " ").length = 1 := by decide
theorem row_join {n f : Str} (hm : (n, f) ∈ formT) (w : Int) : oJoinT (S " ") (.lst ((rowS n f.cps.toList w).map .str)) = .ok (.str (Txt.join (Sx " ") (rowS n f.cps.toList w))) ∧ (Txt.join (Sx " ") (rowS n f.cps.toList w)).length ≤ 60 := by
  obtain ⟨h1, h2⟩ := rowS_len hm w
  have h3 := join_len (sep := Sx " ") h1
  rw [sp_len] at h3
  refine ⟨joinT (joinOk_of (b := 11) h1 (by rw [sp_len]; omega)), by omega⟩
theorem e_lst1 {a : Ex} {ρ : En} {x : D} (h : a ρ = .ok x) : eLst [a] ρ = .ok (.lst [x]) := by
  simp [h]
theorem ix_str0 {n : Str} {xs : List D} : oIx (.tup (.str n :: xs)) (.int 0) = .ok (.str n) := ix_tup (atI_zero _ _)
theorem comp_shown {n f : Str} (hm : (n, f) ∈ formT) (w : Int) (s0 : Slot) : (eComp (iZip (eCall m_shape_of [e2 oIx (eVar 1) (eC (.int 0))]) (eSl (eVar 1) (some (eC (.int 1))) none)) 2 [] (gTup [0, 1]) [] (eCall m_shown_part [eVar 0, eVar 1])) [s0, .sh (rowOf n f.cps.toList w), .un]
    = .ok (.lst ((f.cps.toList.map fun c => partS c (pt w c)).map .str)) := by
  obtain ⟨hf3, hn5⟩ := formT_small hm
  have hf2 : f.length ≤ 16777216 := by omega
  have hfl : f.length = f.cps.toList.length := by unfold Str.length; simp
  rw [List.map_map]
  refine eComp_ok (ds := f.cps.toList.map fun c => .tup [chD c, .int (pt w c)]) ?_ (by rw [List.length_map]; omega) ?_
  · show ((eCall m_shape_of _) _).bind _ = _
    rw [e_call1 (x := .str n) (e_two (x := rowOf n f.cps.toList w) (y := .int 0) rfl rfl ix_str0) (shape_of_form hm), R.bind_ok]
    have e2 : (eSl (eVar 1) (some (eC (.int 1))) none) [s0, .sh (rowOf n f.cps.toList w), .un] = .ok (.tup ((f.cps.toList.map (pt w)).map .int)) := by
      have e0 : oSl (some 1) none (rowOf n f.cps.toList w) = .ok (.tup ((f.cps.toList.map (pt w)).map .int)) := by
        unfold rowOf oSl
        dsimp only
        rw [if_neg (tail_part _ _), cut_tail]
      exact e0
    rw [e2, R.bind_ok]
    have e3 : items (.str f) = .ok (f.cps.toList.map chD) := rfl
    rw [e3, R.bind_ok]
    show R.ok (zipD _ _) = _
    rw [zip_parts]
  · refine compL_map (fun c => .tup [chD c, .int (pt w c)]) (fun c => D.str (partS c (pt w c))) fun c hc => ⟨[.sh (chD c), .sh (.int (pt w c))], rfl, ?_⟩
    have := pt_pos w c
    exact e_call2 rfl rfl (shown_part_ok this.1 this.2)
theorem shown_row {w : Int} {n f : Str} (hm : (n, f) ∈ formT) (hd : m_decoded [.int w] = .ok (rowOf n f.cps.toList w)) : m_shown_word [.int w] = .ok (.str (Txt.join (Sx " ") (rowS n f.cps.toList w))) := by
  obtain ⟨hf3, hn5⟩ := formT_small hm
  have hfl : f.length = f.cps.toList.length := by unfold Str.length; simp
  rw [m_shown_word]
  refine fn_ret ?_
  show sBlk _ [.sh (.int w), .un, .un] = _
  rw [blk (ρ' := [.sh (.int w), .sh (rowOf n f.cps.toList w), .un]) (by rw [s_asg (e_call1 rfl hd)]; rfl)]
  rw [blk (ρ' := [.sh (.int w), .sh (rowOf n f.cps.toList w), .un]) (sIf_nil rfl)]
  rw [blk (ρ' := [.sh (.int w), .sh (rowOf n f.cps.toList w), .sh (.lst ((f.cps.toList.map fun c => partS c (pt w c)).map .str))]) (by rw [s_asg (comp_shown hm w _)]; rfl)]
  refine blk_ret (s_ret (e_two rfl (e_two (o := oAdd) (x := .lst [.str n]) (d := .lst ((rowS n f.cps.toList w).map .str)) ?_ rfl ?_) (row_join hm w).1))
  · exact e_lst1 (e_two (x := rowOf n f.cps.toList w) (y := .int 0) rfl rfl ix_str0)
  · show (if _ then _ else _) = _
    rw [if_pos (by show 1 + _ ≤ 16777216; rw [List.length_map, List.length_map]; omega)]
    rfl
noncomputable def wordS (w : Int) : Str := Sx "word " ++ decS w
theorem shown_non {w : Int} (h0 : 0 ≤ w) (h1 : w < 4294967296) (hd : m_decoded [.int w] = .ok .non) : m_shown_word [.int w] = .ok (.str (wordS w)) := by
  rw [m_shown_word]
  refine fn_ret ?_
  show sBlk _ [.sh (.int w), .un, .un] = _
  rw [blk (ρ' := [.sh (.int w), .sh .non, .un]) (by rw [s_asg (e_call1 rfl hd)]; rfl)]
  refine blk_ret ?_
  rw [sIf_t rfl]
  exact s_ret (fmt_ok h0 (by omega) (by decide) rfl)
theorem wordS_len {w : Int} (h0 : 0 ≤ w) (h1 : w < 4294967296) : (wordS w).length ≤ 60 := by
  unfold wordS
  rw [Str.length_append]
  have := dec_len h0 (show w < 10000000000 by omega)
  have : (Sx "word ").length = 5 := by decide
  omega
end K10
end PL
set_option linter.all false
set_option maxRecDepth 2000
set_option Elab.async false
namespace PL
open PySem
namespace G
theorem e_two {o : D → D → R D} {a b : Ex} {ρ : En} {x y d : D} (ha : a ρ = .ok x) (hb : b ρ = .ok y) (h : o x y = .ok d) : e2 o a b ρ = .ok d := by
  show (a ρ).bind _ = _
  rw [ha, R.bind_ok]
  show (b ρ).bind _ = _
  rw [hb, R.bind_ok, h]
theorem e_call1 {f : List D → R D} {a : Ex} {ρ : En} {x d : D} (ha : a ρ = .ok x) (h : f [x] = .ok d) : eCall f [a] ρ = .ok d := by
  simp only [eCall, eList, ha, R.bind_ok]; exact h
theorem e_call2 {f : List D → R D} {a b : Ex} {ρ : En} {x y d : D} (ha : a ρ = .ok x) (hb : b ρ = .ok y) (h : f [x, y] = .ok d) : eCall f [a, b] ρ = .ok d := by
  simp only [eCall, eList, ha, hb, R.bind_ok]; exact h
theorem e_call3 {f : List D → R D} {a b c : Ex} {ρ : En} {x y z d : D} (ha : a ρ = .ok x) (hb : b ρ = .ok y) (hc : c ρ = .ok z) (h : f [x, y, z] = .ok d) : eCall f [a, b, c] ρ = .ok d := by
  simp only [eCall, eList, ha, hb, hc, R.bind_ok]; exact h
theorem e_add {a b : Ex} {ρ : En} {i u : Int} (ha : a ρ = .ok (.int i)) (hb : b ρ = .ok (.int u)) : e2 oAdd a b ρ = .ok (.int (i + u)) := e_two ha hb rfl
theorem e_tup2 {a b : Ex} {ρ : En} {x y : D} (h : a ρ = .ok x) (h2 : b ρ = .ok y) : eTup [a, b] ρ = .ok (.tup [x, y]) := by
  simp only [eTup, eList, h, h2, R.bind_ok]
theorem t_and {t u : Tst} {ρ : En} {b c : Bool} (h : t ρ = .ok b) (h' : u ρ = .ok c) : tAnd t u ρ = .ok (b && c) := by
  simp only [tAnd, h, R.bind_ok]
  cases b
  · rfl
  · rw [if_pos rfl, h']; rfl
theorem t_and_f {t u : Tst} {ρ : En} (h : t ρ = .ok false) : tAnd t u ρ = .ok false := by
  simp only [tAnd, h, R.bind_ok]; rfl
theorem s_asg {i : Nat} {a : Ex} {ρ : En} {d : D} (h : a ρ = .ok d) : sAsg (gName i) a ρ = .ok (.next (ρ.set i (.sh d))) := by
  simp only [sAsg, h, R.bind_ok, gName]
theorem s_app {i : Nat} {a : Ex} {ρ : En} {d : D} {xs : List D} (h : a ρ = .ok d) (hi : ρ[i]? = some (.ol xs)) (hl : xs.length < 16777216) : sAppend i a ρ = .ok (.next (ρ.set i (.ol (xs ++ [d])))) := by
  simp only [sAppend, h, R.bind_ok, hi]
  exact if_pos hl
theorem lt_int (i j : Int) : oLt (.int i) (.int j) = .ok (.bl (decide (i < j))) := rfl
theorem sIx_pos {n d : Nat} {v : Int} (h : 0 ≤ v) : sIx n d (some v) = min v.toNat n := if_neg (by omega)
theorem cut_to {α : Type} (xs : List α) {v : Int} (h : 0 ≤ v) : cut xs none (some v) = xs.take v.toNat := by
  unfold cut
  rw [sIx_pos h]
  show ((xs.drop 0).take _) = _
  rw [List.drop_zero]
  show xs.take (min v.toNat xs.length - 0) = _
  rw [Nat.sub_zero]
  by_cases hl : v.toNat ≤ xs.length
  · rw [Nat.min_eq_left hl]
  · rw [Nat.min_eq_right (by omega), List.take_length, List.take_of_length_le (by omega)]
theorem cut_from {α : Type} (xs : List α) {v : Int} (h : 0 ≤ v) : cut xs (some v) none = xs.drop v.toNat := by
  unfold cut
  rw [sIx_pos h]
  show (xs.drop (min v.toNat xs.length)).take (xs.length - min v.toNat xs.length) = _
  by_cases hl : v.toNat ≤ xs.length
  · rw [Nat.min_eq_left hl]
    exact List.take_of_length_le (by rw [List.length_drop]; omega)
  · rw [Nat.min_eq_right (by omega), List.drop_length, List.drop_of_length_le (by omega), List.take_nil]
theorem e_sl_to {a b : Ex} {ρ : En} {xs : List D} {v : Int} (ha : a ρ = .ok (.lst xs)) (hb : b ρ = .ok (.int v)) (h : 0 ≤ v) : eSl a none (some b) ρ = .ok (.lst (xs.take v.toNat)) := by
  simp only [eSl, ha, R.bind_ok, eOpt, hb, oSl]
  rw [cut_to _ h]
theorem e_sl_from {a b : Ex} {ρ : En} {xs : List D} {v : Int} (ha : a ρ = .ok (.lst xs)) (hb : b ρ = .ok (.int v)) (h : 0 ≤ v) : eSl a (some b) none ρ = .ok (.lst (xs.drop v.toNat)) := by
  simp only [eSl, ha, R.bind_ok, eOpt, hb, oSl]
  rw [cut_from _ h]
theorem add_lst {xs ys : List D} (h : xs.length + ys.length ≤ 16777216) : oAdd (.lst xs) (.lst ys) = .ok (.lst (xs ++ ys)) := if_pos h
mutual
theorem eqD_refl : ∀ d : D, lay d = true → eqD d d = true
  | .non, _ => rfl
  | .bl b, _ => by simp
  | .int i, _ => by simp
  | .str x, _ => by simp
  | .tup xs, h => by unfold eqD; exact eqDs_refl xs (by unfold lay at h; exact h)
  | .lst xs, h => by unfold eqD; exact eqDs_refl xs (by unfold lay at h; exact h)
  | .dct _ _, h => by unfold lay at h; cases h
  | .exn _ _ _, h => by unfold lay at h; cases h
theorem eqDs_refl : ∀ ds : List D, lays ds = true → eqDs ds ds = true
  | [], _ => rfl
  | d :: ds, h => by
    unfold lays at h
    rw [Bool.and_eq_true] at h
    unfold eqDs
    rw [eqD_refl d h.1, eqDs_refl ds h.2]; rfl
end
theorem neOk_self {d : D} (h : lay d = true) (h2 : dep d ≤ 60) : neOk d d = true := by
  unfold neOk
  rw [h, decide_eq_true (show min (dep d) (dep d) ≤ 60 by omega)]; simp
theorem ne_self {d : D} (h : lay d = true) (h2 : dep d ≤ 60) : oNe d d = .ok (.bl false) := by
  unfold oNe
  rw [if_pos (neOk_self h h2), eqD_refl d h]; rfl
theorem all_bls : ∀ bs : List Bool, allB (bs.map D.bl) = .ok (.bl (bs.all id))
  | [] => rfl
  | b :: bs => by
    show allB (D.bl b :: bs.map D.bl) = _
    unfold allB
    rw [all_bls bs]; rfl
theorem compL_filter {α : Type} {tg : Tgt} {cs : List Tst} {el : Ex} {ρ : En} (u : α → D) (p : α → Bool) (v : α → D) : ∀ {xs : List α}, (∀ x ∈ xs, ∃ ρ1, tg (u x) ρ = .ok ρ1 ∧ compL.allT cs ρ1 = .ok (p x) ∧ (p x = true → el ρ1 = .ok (v x))) → compL tg cs el ρ (xs.map u) = .ok ((xs.filter p).map v)
  | [], _ => rfl
  | x :: xs, h => by
    obtain ⟨ρ1, e1, e2, e3⟩ := h x List.mem_cons_self
    have ih := compL_filter (cs := cs) (el := el) (ρ := ρ) u p v (xs := xs) (fun y hy => h y (List.mem_cons_of_mem _ hy))
    rw [List.map_cons, compL, e1, R.bind_ok, e2, R.bind_ok]
    cases hp : p x with
    | true => rw [if_pos rfl, e3 hp, R.bind_ok, ih, List.filter_cons_of_pos hp]; rfl
    | false => rw [if_neg (by decide), ih, List.filter_cons_of_neg (by rw [hp]; decide)]
theorem for_seq {it : Itr} {tg : Tgt} {body : Sm} {ρ : En} {ds : List D} {r : R Fl} (hi : it ρ = .ok ds) (h : forL tg body ds ρ = r) : sFor it tg body ρ = r := by
  show (it ρ).bind _ = _
  rw [hi, R.bind_ok, h]
theorem e_chainB {g h : D → D → R D} {a b c : Ex} {ρ : En} {x y z : D} {p q : Bool} (ha : a ρ = .ok x) (hb : b ρ = .ok y) (hg : g x y = .ok (.bl p)) (hc : c ρ = .ok z) (hh : h y z = .ok (.bl q)) : eChain g h a b c ρ = .ok (.bl (p && q)) := by
  simp only [eChain, ha, hb, hg, R.bind_ok]
  cases p
  · rfl
  · simp only [hc, R.bind_ok, hh, Bool.true_and]
theorem le_int (i j : Int) : oLe (.int i) (.int j) = .ok (.bl (decide (i ≤ j))) := rfl
end G
end PL
set_option linter.all false
set_option maxRecDepth 4000
set_option Elab.async false
namespace PL
open PySem
namespace G
theorem str_ext {x y : Str} (h : x.cps.toList = y.cps.toList) : x = y := by
  obtain ⟨a⟩ := x
  obtain ⟨b⟩ := y
  rw [show a = b from Array.toList_inj.mp h]
theorem app_cps (x y : Str) : (x ++ y).cps.toList = x.cps.toList ++ y.cps.toList := by
  obtain ⟨a⟩ := x
  obtain ⟨b⟩ := y
  show (a ++ b).toList = _
  simp
theorem len_cps (x : Str) : x.length = x.cps.toList.length := by unfold Str.length; simp
theorem join_two (c : Nat) (x y : Str) (r : List Str) : (Str.join ⟨#[c]⟩ (x :: y :: r)).cps.toList = x.cps.toList ++ c :: (Str.join ⟨#[c]⟩ (y :: r)).cps.toList := by
  show (x ++ ⟨#[c]⟩ ++ Str.join ⟨#[c]⟩ (y :: r)).cps.toList = _
  rw [app_cps, app_cps, List.append_assoc]
  rfl
theorem cut_inj {c : Nat} : ∀ {x x' A A' : List Nat}, c ∉ x → c ∉ x' → x ++ c :: A = x' ++ c :: A' → x = x' ∧ A = A'
  | [], [], A, A', _, _, h => ⟨rfl, by simpa using h⟩
  | [], y :: x', A, A', _, h', h => by
    simp only [List.nil_append, List.cons_append, List.cons.injEq] at h
    exact absurd (by rw [h.1]; exact List.mem_cons_self) h'
  | y :: x, [], A, A', h', _, h => by
    simp only [List.nil_append, List.cons_append, List.cons.injEq] at h
    exact absurd (by rw [← h.1]; exact List.mem_cons_self) h'
  | y :: x, y' :: x', A, A', h1, h2, h => by
    simp only [List.cons_append, List.cons.injEq] at h
    obtain ⟨e1, e2⟩ := cut_inj (fun m => h1 (List.mem_cons_of_mem _ m)) (fun m => h2 (List.mem_cons_of_mem _ m)) h.2
    exact ⟨by rw [h.1, e1], e2⟩
theorem join_inj {c : Nat} : ∀ {l l' : List Str}, l ≠ [] → l' ≠ [] → (∀ z ∈ l, c ∉ z.cps.toList) → (∀ z ∈ l', c ∉ z.cps.toList) → (Str.join ⟨#[c]⟩ l).cps.toList = (Str.join ⟨#[c]⟩ l').cps.toList → l = l'
  | [], _, h, _, _, _, _ => absurd rfl h
  | _ :: _, [], _, h, _, _, _ => absurd rfl h
  | [x], [x'], _, _, _, _, h => by rw [str_ext (show x.cps.toList = x'.cps.toList from h)]
  | [x], x' :: y' :: r', _, _, hx, _, h => by
    rw [join_two] at h
    exact absurd (show c ∈ x.cps.toList by rw [show x.cps.toList = _ from h]; simp) (hx x (by simp))
  | x :: y :: r, [x'], _, _, _, hx, h => by
    rw [join_two] at h
    exact absurd (show c ∈ x'.cps.toList by rw [show x'.cps.toList = _ from h.symm]; simp) (hx x' (by simp))
  | x :: y :: r, x' :: y' :: r', _, _, h1, h2, h => by
    rw [join_two, join_two] at h
    obtain ⟨e1, e2⟩ := cut_inj (h1 x (by simp)) (h2 x' (by simp)) h
    rw [str_ext e1, join_inj (l := y :: r) (l' := y' :: r') (by simp) (by simp) (fun z hz => h1 z (List.mem_cons_of_mem _ hz)) (fun z hz => h2 z (List.mem_cons_of_mem _ hz)) e2]
theorem split_join {c : Nat} {l : List Str} (hl : l ≠ []) (hf : ∀ z ∈ l, c ∉ z.cps.toList) : Txt.split (Txt.join ⟨#[c]⟩ l) ⟨#[c]⟩ = l := by
  have e : Txt.join ⟨#[c]⟩ l = Str.join ⟨#[c]⟩ l := StrLaws.glued_eq_join _ _
  rw [e]
  have h1 := StrLaws.join_split (Str.join ⟨#[c]⟩ l) ⟨#[c]⟩
  have hp := PyProof.Rows.split_pos (Str.join ⟨#[c]⟩ l) ⟨#[c]⟩
  refine join_inj (fun z => ?_) hl (StrLaws.split_free _ c) hf (by rw [h1])
  rw [z] at hp
  exact absurd hp (by decide)
theorem join_mem {c : Nat} {P : Nat → Prop} (hc : P c) : ∀ {l : List Str}, (∀ z ∈ l, ∀ d ∈ z.cps.toList, P d) → ∀ d ∈ (Txt.join ⟨#[c]⟩ l).cps.toList, P d := by
  have key : ∀ {l : List Str}, (∀ z ∈ l, ∀ d ∈ z.cps.toList, P d) → ∀ d ∈ (Str.join ⟨#[c]⟩ l).cps.toList, P d := by
    intro l
    induction l with
    | nil => intro _ d hd; cases hd
    | cons x l ih =>
      intro h d hd
      cases l with
      | nil => exact h x (by simp) d hd
      | cons y r =>
        rw [join_two] at hd
        rcases List.mem_append.mp hd with hd | hd
        · exact h x (by simp) d hd
        · rcases List.mem_cons.mp hd with rfl | hd
          · exact hc
          · exact ih (fun z hz => h z (List.mem_cons_of_mem _ hz)) d hd
  intro l h d hd
  rw [show Txt.join ⟨#[c]⟩ l = Str.join ⟨#[c]⟩ l from StrLaws.glued_eq_join _ _] at hd
  exact key h d hd
theorem join_pos {c : Nat} {x : Str} {l : List Str} (h : 0 < x.length) : 0 < (Txt.join ⟨#[c]⟩ (x :: l)).length := by
  rw [show Txt.join ⟨#[c]⟩ (x :: l) = Str.join ⟨#[c]⟩ (x :: l) from StrLaws.glued_eq_join _ _, len_cps]
  cases l with
  | nil => rw [← len_cps]; exact h
  | cons y r => rw [join_two, List.length_append, ← len_cps]; omega
theorem dec_digit {n : Nat} {c : Nat} (h : c ∈ (decS (n : Int)).cps.toList) : 48 ≤ c ∧ c ≤ 57 := by
  rw [dec_cps] at h
  obtain ⟨ch, hch, rfl⟩ := List.mem_map.mp h
  have := Nat.isDigit_of_mem_toDigits (by decide) (by decide) hch
  unfold Char.isDigit at this
  rw [Bool.and_eq_true, decide_eq_true_eq, decide_eq_true_eq] at this
  exact ⟨this.1, this.2⟩
theorem dec_pos (n : Nat) : 0 < (decS (n : Int)).length := by
  rw [len_cps, dec_cps, List.length_map]
  exact Nat.length_toDigits_pos
theorem digits_head : ∀ (n : Nat), 0 < n → ∃ ch r, Nat.toDigits 10 n = ch :: r ∧ ch ≠ '0' := by
  intro n
  induction n using Nat.strongRecOn with
  | _ n ih =>
    intro h0
    by_cases h : n < 10
    · rw [Nat.toDigits_of_lt_base h]
      refine ⟨_, _, rfl, ?_⟩
      have : ∀ m : Nat, m < 10 → 0 < m → Nat.digitChar m ≠ '0' := by decide
      exact this n h h0
    · rw [Nat.toDigits_of_base_le (by decide) (by omega)]
      obtain ⟨ch, r, e, hc⟩ := ih (n / 10) (by omega) (by omega)
      rw [e]
      exact ⟨ch, _, rfl, hc⟩
theorem dec_head {n : Nat} (h : 1 < (decS (n : Int)).length) {c : Nat} {r : List Nat} (e : (decS (n : Int)).cps.toList = c :: r) : c ≠ 48 := by
  rw [dec_cps] at e
  have h0 : 0 < n := by
    rcases Nat.eq_zero_or_pos n with rfl | h0
    · rw [len_cps, dec_cps] at h
      exact absurd h (by decide)
    · exact h0
  obtain ⟨ch, r', e', hc⟩ := digits_head n h0
  rw [e', List.map_cons, List.cons.injEq] at e
  rw [← e.1]
  intro z
  apply hc
  exact Char.toNat_inj.mp z
theorem dec_reads {i : Int} (h0 : 0 ≤ i) (h1 : i < 10000000000) : oIntA (.str (decS i)) = .ok (.int i) := by
  have hl := dec_len h0 h1
  show (if (decS i).length ≤ 640 then (match PySem.intText? (decS i) with
    | some n => R.ok (D.int n)
    | none => .bad) else .bad) = _
  rw [if_pos (by omega), show PySem.intText? (decS i) = some i from PySem.W.KIN.num_reads h0 h1]
end G
end PL
set_option linter.all false
set_option maxRecDepth 2000
set_option Elab.async false
set_option maxHeartbeats 400000
namespace PL
namespace K10
open PySem
theorem ix_strc {f : Str} {i : Int} {c : Nat} (hf : f.length ≤ 16777216) (hc : atI f.cps.toList i = some c) : oIx (.str f) (.int i) = .ok (chD c) := by
  simp [hf, hc, chD]
theorem ix_lst {xs : List D} {i : Int} {d : D} (h : atI xs i = some d) : oIx (.lst xs) (.int i) = .ok d := by simp [h]
theorem e_one {o : D → R D} {a : Ex} {ρ : En} {x d : D} (ha : a ρ = .ok x) (h : o x = .ok d) : e1 o a ρ = .ok d := by
  show (a ρ).bind _ = _
  rw [ha, R.bind_ok, h]
theorem s_app {i : Nat} {a : Ex} {ρ : En} {d : D} {xs : List D} (h : a ρ = .ok d) (hi : ρ[i]? = some (.ol xs)) (hl : xs.length < 16777216) : sAppend i a ρ = .ok (.next (ρ.set i (.ol (xs ++ [d])))) := by
  show (a ρ).bind _ = _
  rw [h, R.bind_ok]
  simp only [hi]
  exact if_pos hl
end K10
end PL
set_option linter.all false
set_option maxRecDepth 2000
set_option Elab.async false
set_option maxHeartbeats 400000
namespace PL
namespace K10
open PySem
theorem words_step {ns ws : List Int} {k : Int} {s4 s5 : Slot} (h0 : 1 ≤ k) (h1 : k < ns.length) (h2 : k < 61) (hw : Words ws) (hl : ws.length ≤ 100) :
    ∃ x t4 t5, (0 ≤ x ∧ x < 4294967296) ∧ m_law_words_l1 [.sh (.lst (ns.map .int)), .sh (.bl true), .ol (ws.map .int), .sh (.int k), s4, s5] = .ok (.next [.sh (.lst (ns.map .int)), .sh (.bl true), .ol ((ws ++ [x]).map .int), .sh (.int k), t4, t5]) := by
  obtain ⟨c, _, hc⟩ := atI_ints (xs := ns) (i := k) (by omega) h1
  obtain ⟨xs, ex, hxl, hxw⟩ := draws_ok c k true (by omega) (by omega)
  obtain ⟨j, n, f, ps, hj, er, g⟩ := drawn_row (c % 16 % 15) (by omega) (by omega) hxl
  have hm : (n, f) ∈ formT := List.mem_of_getElem? hj
  obtain ⟨hj15, _⟩ := List.getElem?_eq_some_iff.mp hj
  have hj15 : j < 15 := hj15
  have ec := law_coded_ok hj g.length
  obtain ⟨vb0, vb1⟩ := val_bound hm g
  obtain ⟨v, hv⟩ : ∃ v : Int, (j : Int) * 33554432 + val f.cps.toList ps = v := ⟨_, rfl⟩
  have v0 : 0 ≤ v := by omega
  have v1 : v < 4294967296 := by omega
  rw [hv] at ec
  obtain ⟨x5, _, hx5⟩ := atI_ints (xs := xs) (i := 5) (by omega) (by omega)
  obtain ⟨x0, hx0m, hx0⟩ := atI_ints (xs := xs) (i := 0) (by omega) (by omega)
  obtain ⟨x00, x01⟩ := hxw x0 hx0m
  have hix : ∀ s4 s5 : Slot, (e2 oIx (eVar 0) (eVar 3)) [.sh (.lst (ns.map .int)), .sh (.bl true), .ol (ws.map .int), .sh (.int k), s4, s5] = .ok (.int c) := fun s4 s5 => by simp [hc]
  have a1 : (sAsg (gName 4) (eCall m_law_draws [e2 oIx (eVar 0) (eVar 3), eVar 3, eVar 1])) [.sh (.lst (ns.map .int)), .sh (.bl true), .ol (ws.map .int), .sh (.int k), s4, s5] = .ok (.next [.sh (.lst (ns.map .int)), .sh (.bl true), .ol (ws.map .int), .sh (.int k), .sh (.lst (xs.map .int)), s5]) := by
    simp [hc, ex]
  have a2 : (sAsg (gName 5) (eCall m_law_coded [eCall m_law_row [e2 oMod (e2 oMod (e2 oIx (eVar 0) (eVar 3)) (eC (.int 16))) (eC (.int 15)), eVar 4]])) [.sh (.lst (ns.map .int)), .sh (.bl true), .ol (ws.map .int), .sh (.int k), .sh (.lst (xs.map .int)), s5] = .ok (.next [.sh (.lst (ns.map .int)), .sh (.bl true), .ol (ws.map .int), .sh (.int k), .sh (.lst (xs.map .int)), .sh (.int v)]) := by
    simp [hc, er, ec]
  rw [m_law_words_l1, blk a1, blk a2]
  have ct : (tV (e2 oEq (e2 oMod (e2 oDiv (e2 oIx (eVar 4) (eC (.int 5))) (eC (.int 8))) (eC (.int 4))) (eC (.int 1)))) [.sh (.lst (ns.map .int)), .sh (.bl true), .ol (ws.map .int), .sh (.int k), .sh (.lst (xs.map .int)), .sh (.int v)] = .ok (decide (x5 / 8 % 4 = 1)) := by
    refine t_v (e_two (x := .int (x5 / 8 % 4)) (y := .int 1) (e_mod (e_div (e_two rfl rfl (ix_lst hx5)) rfl (by decide)) rfl (by decide)) rfl ?_)
    unfold oEq
    rw [eqOk_int_int, if_pos rfl]; rfl
  by_cases h : x5 / 8 % 4 = 1
  · refine ⟨x0, .sh (.lst (xs.map .int)), .sh (.int x0), ⟨x00, x01⟩, ?_⟩
    rw [blk (ρ' := [.sh (.lst (ns.map .int)), .sh (.bl true), .ol (ws.map .int), .sh (.int k), .sh (.lst (xs.map .int)), .sh (.int x0)]) (by
      rw [sIf_t (by rw [ct, decide_eq_true h]), s_asg (e_two rfl rfl (ix_lst hx0))]; rfl)]
    rw [blk (s_app (d := .int x0) rfl rfl (by rw [List.length_map]; omega)), blk_nil, List.map_append]; rfl
  · refine ⟨v, .sh (.lst (xs.map .int)), .sh (.int v), ⟨v0, v1⟩, ?_⟩
    rw [blk (ρ' := [.sh (.lst (ns.map .int)), .sh (.bl true), .ol (ws.map .int), .sh (.int k), .sh (.lst (xs.map .int)), .sh (.int v)]) (by
      rw [sIf_nil (by rw [ct, decide_eq_false h])])]
    rw [blk (s_app (d := .int v) rfl rfl (by rw [List.length_map]; omega)), blk_nil, List.map_append]; rfl
theorem words_ok (ns : List Int) (hl : ns.length ≤ 63) : ∃ ws : List Int, m_law_words [.lst (ns.map .int), .bl true] = .ok (.lst (ws.map .int)) ∧ Words ws ∧ ws.length ≤ 60 := by
  obtain ⟨M, hM⟩ : ∃ M : Int, (if 61 < (ns.length : Int) then 61 else (ns.length : Int)) = M := ⟨_, rfl⟩
  have hM1 : M ≤ 61 := by rw [← hM]; split <;> omega
  have hM2 : M ≤ ns.length := by rw [← hM]; split <;> omega
  have hM3 : 0 ≤ M := by rw [← hM]; split <;> omega
  obtain ⟨ρ', eL, ws, s3, s4, s5, rfl, hw, hwl⟩ := forL_ix (tg := gName 3) (body := m_law_words_l1) (fun i ρ => ∃ ws s3 s4 s5, ρ = [.sh (.lst (ns.map .int)), .sh (.bl true), .ol (ws.map .int), s3, s4, s5] ∧ Words ws ∧ ws.length = i) (ds := rangeL 1 M) 0 (by
    rintro i d hd ρ ⟨ws, s3, s4, s5, rfl, hw, hwl⟩
    obtain ⟨rfl, hi⟩ := rangeL_get hd
    obtain ⟨x, t4, t5, ⟨x0, x1⟩, e⟩ := words_step (ns := ns) (ws := ws) (k := 1 + (i : Int)) (s4 := s4) (s5 := s5) (by omega) (by omega) (by omega) hw (by omega)
    exact ⟨_, rfl, _, e, ws ++ [x], _, _, _, rfl, hw.snoc x0 x1, by rw [List.length_append]; simp [hwl]⟩) (ρ := [.sh (.lst (ns.map .int)), .sh (.bl true), .ol [], .un, .un, .un]) ⟨[], .un, .un, .un, rfl, (fun _ h => nomatch h), rfl⟩
  rw [rangeL_len] at hwl
  refine ⟨ws, ?_, hw, by omega⟩
  have z : (iRng2 (eC (.int 1)) (e2 oMin (e1 oLen (eVar 0)) (eC (.int 61)))) [.sh (.lst (ns.map .int)), .sh (.bl true), .ol [], .un, .un, .un] = .ok (rangeL 1 M) :=
    iRng2_ok rfl (by simp; exact hM) (by decide) (inR_of (by omega) (by omega))
  rw [m_law_words]
  refine fn_ret ?_
  show sBlk _ [.sh (.lst (ns.map .int)), .sh (.bl true), .un, .un, .un, .un] = _
  rw [blk (ρ' := [.sh (.lst (ns.map .int)), .sh (.bl true), .ol [], .un, .un, .un]) rfl, blk (by simp only [sFor, z, R.bind_ok]; exact eL)]
  rw [blk (ρ' := [.sh (.lst (ns.map .int)), .sh (.bl true), .sh (.lst (ws.map .int)), s3, s4, s5]) rfl]
  exact blk_ret (s_ret rfl)
end K10
end PL
set_option linter.all false
set_option maxRecDepth 4000
set_option Elab.async false
set_option maxHeartbeats 400000
namespace PL
namespace K10
open PySem G
theorem in_letters {c : Nat} (h : 48 ≤ c ∧ c ≤ 57) : oInA (chD c) g_LETTERS = .ok (.bl false) := by
  have key : ∀ d : Nat, d < 10 → (Builtin.Str.occurrences (Str.ofString "abcdefghijklmnopqrstuvwxyz") ⟨#[48 + d]⟩ 0 (Str.ofString "abcdefghijklmnopqrstuvwxyz").length 1).isEmpty = true := by decide +kernel
  have := key (c - 48) (by omega)
  rw [show 48 + (c - 48) = c by omega] at this
  show R.ok (D.bl (!(Builtin.Str.occurrences (Str.ofString "abcdefghijklmnopqrstuvwxyz") ⟨#[c]⟩ 0 (Str.ofString "abcdefghijklmnopqrstuvwxyz").length 1).isEmpty)) = _
  rw [this]; rfl
theorem in_figures {c : Nat} (h : 48 ≤ c ∧ c ≤ 57) : oInA (chD c) g_FIGURES = .ok (.bl true) := by
  have key : ∀ d : Nat, d < 10 → (Builtin.Str.occurrences (Str.ofString "0123456789") ⟨#[48 + d]⟩ 0 (Str.ofString "0123456789").length 1).isEmpty = false := by decide +kernel
  have := key (c - 48) (by omega)
  rw [show 48 + (c - 48) = c by omega] at this
  show R.ok (D.bl (!(Builtin.Str.occurrences (Str.ofString "0123456789") ⟨#[c]⟩ 0 (Str.ofString "0123456789").length 1).isEmpty)) = _
  rw [this]; rfl
theorem iSeq_str {a : Ex} {ρ : En} {x : Str} (h : a ρ = .ok (.str x)) (hl : x.length ≤ 16777216) : iSeq a ρ = .ok (x.cps.toList.map chD) := by
  show (a ρ).bind _ = _
  rw [h, R.bind_ok]
  rfl
theorem len_str {a : Ex} {ρ : En} {x : Str} (h : a ρ = .ok (.str x)) (hl : x.length ≤ 16777216) : e1 oLen a ρ = .ok (.int x.length) := e_one h (if_pos hl)
theorem all_in {x : Str} {g : D} {b : Bool} {ρ : En} (h0 : (eVar 0) ρ = .ok (.str x)) (hl : x.length ≤ 1000) (hg : ∀ c ∈ x.cps.toList, oInA (chD c) g = .ok (.bl b)) : (e1 oAll (eComp (iSeq (eVar 0)) 1 [] (gName 0) [] (e2 oInA (eVar 0) (eC g)))) ρ = .ok (.bl ((x.cps.toList.map fun _ => b).all id)) := by
  have hl2 := len_cps x
  refine e_one (x := .lst ((x.cps.toList.map fun _ => b).map .bl)) (eComp_ok (ds := x.cps.toList.map chD) (iSeq_str h0 (by omega)) (by rw [List.length_map]; omega) ?_) (all_bls _)
  rw [List.map_map]
  refine compL_map chD (fun _ => D.bl b) fun c hc => ⟨[.sh (chD c)], rfl, e_two (x := chD c) (y := g) rfl rfl (hg c hc)⟩
theorem chain_le {a b c : Ex} {ρ : En} {i j k : Int} (ha : a ρ = .ok (.int i)) (hb : b ρ = .ok (.int j)) (hc : c ρ = .ok (.int k)) : eChain oLe oLe a b c ρ = .ok (.bl (decide (i ≤ j) && decide (j ≤ k))) := e_chainB ha hb (le_int _ _) hc (le_int _ _)
theorem dec_range {i : Int} (h0 : 0 ≤ i) (h1 : i < 10000000000) : 1 ≤ (decS i).length ∧ (decS i).length ≤ 10 ∧ ∀ c ∈ (decS i).cps.toList, 48 ≤ c ∧ c ≤ 57 := by
  refine ⟨?_, dec_len h0 h1, ?_⟩
  · obtain ⟨n, rfl⟩ := Int.eq_ofNat_of_zero_le h0
    exact dec_pos n
  · obtain ⟨n, rfl⟩ := Int.eq_ofNat_of_zero_le h0
    exact fun c hc => dec_digit hc
theorem map_true {α : Type} (l : List α) : ((l.map fun _ => true).all id) = true := by
  rw [List.all_map, List.all_eq_true]; exact fun _ _ => rfl
theorem map_false {α : Type} : ∀ {l : List α}, l ≠ [] → ((l.map fun _ => false).all id) = false
  | [], h => absurd rfl h
  | _ :: _, _ => rfl
theorem read_number_ok {i B : Int} (h0 : 0 ≤ i) (h1 : i < 10000000000) (hB : i < B) : m_read_number [.str (decS i), .int B] = .ok (.int i) := by
  obtain ⟨l1, l2, hd⟩ := dec_range h0 h1
  have hrd := dec_reads h0 h1
  have hz : ∀ c r, (decS i).cps.toList = c :: r → c = 48 → ¬ 1 < (decS i).length := fun c r e hc h => by
    obtain ⟨n, rfl⟩ := Int.eq_ofNat_of_zero_le h0
    exact dec_head h e hc
  have hlc := len_cps (decS i)
  generalize decS i = z at l1 l2 hd hrd hz hlc ⊢
  rw [m_read_number]
  refine fn_ret ?_
  show sBlk _ [.sh (.str z), .sh (.int B), .un] = _
  have c1 : (tOr (tNot (tV (eChain oLe oLe (eC (.int 1)) (e1 oLen (eVar 0)) (eC (.int 10))))) (tNot (tV (e1 oAll (eComp (iSeq (eVar 0)) 1 [] (gName 0) [] (e2 oInA (eVar 0) (eC g_FIGURES))))))) [.sh (.str z), .sh (.int B), .un] = .ok false := by
    refine t_or (b := false) (c := false) (t_not (b := true) (t_v ?_)) (t_not (b := true) (t_v ?_))
    · rw [chain_le (i := 1) (k := 10) rfl (len_str rfl (by omega)) rfl, decide_eq_true (by omega), decide_eq_true (by omega)]; rfl
    · rw [all_in (x := z) (b := true) rfl (by omega) fun c hc => in_figures (hd c hc), map_true]
  rw [blk (sIf_nil c1)]
  obtain ⟨c, r, e⟩ : ∃ c r, z.cps.toList = c :: r := by
    cases h : z.cps.toList with
    | nil => rw [h] at hlc; simp at hlc; omega
    | cons c r => exact ⟨c, r, rfl⟩
  have ei : (e2 oIx (eVar 0) (eC (.int 0))) [.sh (.str z), .sh (.int B), .un] = .ok (chD c) := e_two (x := .str z) (y := .int 0) rfl rfl (ix_strc (by omega) (by rw [e]; exact atI_zero c r))
  have ez : oEq (chD c) (S "0") = .ok (.bl (decide (c = 48))) := by
    unfold oEq chD S
    rw [eqOk_str_str, if_pos rfl, show Str.ofString "0" = ⟨#[48]⟩ from rfl]
    show R.ok (D.bl (decide ((⟨#[c]⟩ : Str) = ⟨#[48]⟩))) = _
    rw [one_eq]
  have c2 : (tAnd (tV (e2 oEq (e2 oIx (eVar 0) (eC (.int 0))) (eC (S "0")))) (tV (e2 oGt (e1 oLen (eVar 0)) (eC (.int 1))))) [.sh (.str z), .sh (.int B), .un] = .ok false := by
    have c2a : (tV (e2 oEq (e2 oIx (eVar 0) (eC (.int 0))) (eC (S "0")))) [.sh (.str z), .sh (.int B), .un] = .ok (decide (c = 48)) := t_v (e_two (o := oEq) ei rfl ez)
    have c2b : (tV (e2 oGt (e1 oLen (eVar 0)) (eC (.int 1)))) [.sh (.str z), .sh (.int B), .un] = .ok (decide ((1 : Int) < z.length)) := t_v (e_two (o := oGt) (x := .int z.length) (y := .int 1) (len_str rfl (by omega)) rfl rfl)
    rw [G.t_and c2a c2b]
    congr 1
    by_cases hc : c = 48
    · have := hz c r e hc
      rw [decide_eq_false (p := (1 : Int) < z.length) (by omega), Bool.and_false]
    · rw [decide_eq_false hc, Bool.false_and]
  rw [blk (sIf_nil c2), blk (G.s_asg (d := .int i) (e_one (o := oIntA) (x := .str z) rfl hrd))]
  show sBlk _ [.sh (.str z), .sh (.int B), .sh (.int i)] = _
  refine blk_ret (s_ret ?_)
  rw [eIf_t (t_v (e_two (o := oLt) (x := .int i) (y := .int B) rfl rfl (by rw [lt_int, decide_eq_true hB])))]
  rfl
theorem is_name_dec {i : Int} (h0 : 0 ≤ i) (h1 : i < 10000000000) : m_is_name [.str (decS i)] = .ok (.bl false) := by
  obtain ⟨l1, l2, hd⟩ := dec_range h0 h1
  have hlc := len_cps (decS i)
  generalize decS i = z at l1 l2 hd hlc ⊢
  rw [m_is_name]
  refine fn_ret ?_
  show sBlk _ [.sh (.str z)] = _
  refine blk_ret ?_
  rw [sIf_t (b := sNil)]
  · rfl
  · have hne : z.cps.toList ≠ [] := fun h => by rw [h] at hlc; simp at hlc; omega
    have e2 := all_in (x := z) (g := g_LETTERS) (b := false) (ρ := [.sh (.str z)]) rfl (by omega) fun c hc => in_letters (hd c hc)
    rw [map_false hne] at e2
    have := t_or (t_not (t_v (chain_le (a := eC (.int 1)) (b := e1 oLen (eVar 0)) (c := eC (.int 8)) (i := 1) (j := z.length) (k := 8) (ρ := [.sh (.str z)]) rfl (len_str rfl (by omega)) rfl))) (t_not (t_v e2))
    rw [this, Bool.not_false, Bool.or_true]
theorem read_w {w : Int} (h0 : 0 ≤ w) (h1 : w < 4294967296) (n : Str) : m_read_part [.str n, chD 119, .str (decS w)] = .ok (.int w) := by
  have e := read_number_ok (B := 4294967296) h0 (by omega) h1
  generalize decS w = z at e ⊢
  rw [m_read_part]
  refine fn_ret ?_
  show sBlk _ [.sh (.str n), .sh (chD 119), .sh (.str z)] = _
  refine blk_ret ?_
  rw [sIf_t (t_v (e_two (o := oEq) (x := chD 119) (y := S "w") rfl rfl rfl))]
  exact s_ret (G.e_call2 (y := .int 4294967296) rfl rfl e)
theorem read_reg {c : Nat} (hc : c = 97 ∨ c = 98 ∨ c = 99) {p : Int} (h0 : 0 ≤ p) (h1 : p < 8) (n : Str) : m_read_part [.str n, chD c, .str (partS c p)] = .ok (.int p) := by
  have : p = 0 ∨ p = 1 ∨ p = 2 ∨ p = 3 ∨ p = 4 ∨ p = 5 ∨ p = 6 ∨ p = 7 := by omega
  rcases this with rfl | rfl | rfl | rfl | rfl | rfl | rfl | rfl <;> rcases hc with rfl | rfl | rfl <;> rfl
theorem naming (n : Str) : ∃ b : Bool, oInA (.str n) g_NAMING = .ok (.bl b) := ⟨_, rfl⟩
theorem read_n {p : Int} (h0 : 0 ≤ p) (h1 : p < 65536) (n : Str) : m_read_part [.str n, chD 110, .str (decS p)] = .ok (.int p) := by
  have e := read_number_ok (B := 65536) h0 (by omega) h1
  have en := is_name_dec h0 (show p < 10000000000 by omega)
  have e3 : m_bound_of [chD 110] = .ok (.int 65536) := bound_ok 110
  obtain ⟨b, hb⟩ := naming n
  generalize decS p = z at e en ⊢
  rw [m_read_part]
  refine fn_ret ?_
  show sBlk _ [.sh (.str n), .sh (chD 110), .sh (.str z)] = _
  rw [blk (sIf_nil (t_v (e_two (o := oEq) (x := chD 110) (y := S "w") rfl rfl rfl)))]
  rw [blk (sIf_nil (t_v (e_two (o := oNe) (x := chD 110) (y := S "n") rfl rfl rfl)))]
  have ct : (tAnd (tV (e2 oInA (eVar 0) (eC g_NAMING))) (tV (eCall m_is_name [eVar 2]))) [.sh (.str n), .sh (chD 110), .sh (.str z)] = .ok (b && false) := G.t_and (t_v (e_two (o := oInA) (x := .str n) (y := g_NAMING) rfl rfl hb)) (t_v (G.e_call1 (x := .str z) rfl en))
  rw [Bool.and_false] at ct
  rw [blk (sIf_nil ct)]
  exact blk_ret (s_ret (G.e_call2 rfl (G.e_call1 rfl e3) e))
end K10
end PL
set_option linter.all false
set_option maxRecDepth 4000
set_option Elab.async false
set_option maxHeartbeats 400000
namespace PL
namespace K10
open PySem G
theorem sp_eq : Sx " " = ⟨#[32]⟩ := rfl
theorem nl_eq : Sx "\n" = ⟨#[10]⟩ := rfl
noncomputable def Sg (c : Nat) : Prop := (48 ≤ c ∧ c ≤ 57) ∨ (97 ≤ c ∧ c ≤ 122)
theorem name_sg {n f : Str} (h : (n, f) ∈ formT) : (∀ c ∈ n.cps.toList, Sg c) ∧ 0 < n.length := by
  have : ∀ p ∈ formT, (p.1.cps.toList.all fun c => decide (97 ≤ c) && decide (c ≤ 122)) = true ∧ 0 < p.1.length := by decide +kernel
  obtain ⟨h1, h2⟩ := this (n, f) h
  refine ⟨fun c hc => .inr ?_, h2⟩
  have := List.all_eq_true.mp h1 c hc
  rw [Bool.and_eq_true, decide_eq_true_eq, decide_eq_true_eq] at this
  exact this
theorem dec_sg {i : Int} (h0 : 0 ≤ i) (h1 : i < 10000000000) : ∀ c ∈ (decS i).cps.toList, Sg c := fun c hc => .inl ((dec_range h0 h1).2.2 c hc)
theorem partS_sg (c : Nat) {p : Int} (h0 : 0 ≤ p) (h1 : p < 10000000000) : ∀ d ∈ (partS c p).cps.toList, Sg d := fun d hd => by
  unfold partS at hd
  split at hd
  · exact dec_sg h0 h1 d hd
  · rw [app_cps] at hd
    rcases List.mem_append.mp hd with hd | hd
    · have : d = 114 := by
        have : d ∈ [114] := hd
        simpa using this
      exact .inr (by omega)
    · exact dec_sg h0 h1 d hd
theorem Sg.no {c : Nat} (h : Sg c) : c ≠ 32 ∧ c ≠ 10 ∧ c ≠ 58 := by
  rcases h with h | h <;> omega
theorem ends_no {z : Str} (h : 58 ∉ z.cps.toList) : Txt.endswith z (Sx ":") = false := by
  unfold Txt.endswith
  cases hb : (decide (0 + (Sx ":").length ≤ z.length) && Builtin.Str.subAt z (Sx ":") (z.length - (Sx ":").length)) with
  | false => rfl
  | true =>
    rw [Bool.and_eq_true] at hb
    have h2 := hb.2
    unfold Builtin.Str.subAt at h2
    have h3 := eq_of_beq h2
    have h4 : (58 : Nat) ∈ (z.cps.extract (z.length - (Sx ":").length) (z.length - (Sx ":").length + (Sx ":").length)).toList := by rw [h3]; exact List.mem_singleton.mpr rfl
    rw [Array.toList_extract] at h4
    exact absurd (List.mem_of_mem_drop (List.mem_of_mem_take h4)) h
theorem told_ok {z : Str} (h : 58 ∉ z.cps.toList) : m_told_name [.str z] = .ok .non := by
  rw [m_told_name]
  refine fn_ret ?_
  show sBlk _ [.sh (.str z)] = _
  rw [blk (sIf_nil (G.t_and_f (t_v (e_two (o := oEndsT) (x := .str z) (y := S ":") rfl rfl (by
    show R.ok (D.bl (Txt.endswith z (Sx ":"))) = _
    rw [ends_no h])))))]
  exact blk_ret (s_ret rfl)
theorem non_in (ps : List Int) : oInA .non (.lst (ps.map .int)) = .ok (.bl false) := by
  show (if flat .non = true ∧ (ps.map D.int).all flat = true then R.ok (D.bl ((ps.map D.int).any fun y => eqD y .non)) else .bad) = _
  rw [if_pos ⟨rfl, by rw [List.all_map, List.all_eq_true]; exact fun _ _ => rfl⟩, show ((ps.map D.int).any fun y => eqD y .non) = false from by rw [List.any_map, List.any_eq_false]; exact fun _ _ h => nomatch h]
theorem read_row_of {z n0 f : Str} {zs : List Str} {ps : List Int} (hz : z.length ≤ 1000) (hsp : Txt.split z (Sx " ") = n0 :: zs)
    (hsh : (eIf (tV (e2 oEq (eVar 2) (eC (S "word")))) (eC (S "w")) (eCall m_shape_of [eVar 2])) [.sh (.str z), .sh (.lst ((n0 :: zs).map .str)), .sh (.str n0), .un, .un] = .ok (.str f))
    (hf : f.length = zs.length) (hf3 : f.length ≤ 100) (hc : compL (gTup [0, 1]) [] (eCall m_read_part [eVar 2, eVar 0, eVar 1]) [.un, .un, .sh (.str n0)] (zipD (f.cps.toList.map chD) (zs.map .str)) = .ok (ps.map .int)) (hps : ps.length ≤ 100) :
    m_read_row [.str z] = .ok (.tup (.str n0 :: ps.map .int)) := by
  rw [m_read_row]
  refine fn_ret ?_
  show sBlk _ [.sh (.str z), .un, .un, .un, .un] = _
  rw [blk (G.s_asg (d := .lst ((n0 :: zs).map .str)) (e_two (o := oSplitT) (x := .str z) (y := S " ") rfl rfl (by
    show (if ((Sx " ").length == 0) = false ∧ z.length ≤ 1000000 then R.ok (D.lst ((Txt.split z (Sx " ")).map .str)) else .bad) = _
    rw [if_pos ⟨rfl, by omega⟩, hsp])))]
  show sBlk _ [.sh (.str z), .sh (.lst ((n0 :: zs).map .str)), .un, .un, .un] = _
  rw [blk (G.s_asg (d := .str n0) (e_two (o := oIx) (x := .lst ((n0 :: zs).map .str)) (y := .int 0) rfl rfl (ix_lst (atI_zero _ _))))]
  show sBlk _ [.sh (.str z), .sh (.lst ((n0 :: zs).map .str)), .sh (.str n0), .un, .un] = _
  rw [blk (G.s_asg hsh)]
  show sBlk _ [.sh (.str z), .sh (.lst ((n0 :: zs).map .str)), .sh (.str n0), .sh (.str f), .un] = _
  rw [blk (sIf_nil (t_or (b := false) (c := false) (t_v (e_one (x := .str f) rfl rfl)) (t_v (e_two (o := oNe) (x := .int (zs.length + 1)) (y := .int (1 + f.length)) (e_one (x := .lst ((n0 :: zs).map .str)) rfl (by
    show R.ok (D.int (((n0 :: zs).map D.str).length : Int)) = _
    rw [List.length_map]; rfl)) (G.e_add (i := 1) (u := f.length) rfl (len_str rfl (by omega))) (by
    unfold oNe
    rw [neOk_int_int, if_pos rfl]
    show R.ok (D.bl (!((zs.length : Int) + 1 == 1 + (f.length : Int)))) = _
    rw [show ((zs.length : Int) + 1 == 1 + (f.length : Int)) = true from beq_iff_eq.mpr (by omega)]; rfl)))))]
  have hfl := len_cps f
  have ec : (eComp (iZip (eVar 3) (eSl (eVar 1) (some (eC (.int 1))) none)) 2 [2] (gTup [0, 1]) [] (eCall m_read_part [eVar 2, eVar 0, eVar 1])) [.sh (.str z), .sh (.lst ((n0 :: zs).map .str)), .sh (.str n0), .sh (.str f), .un] = .ok (.lst (ps.map .int)) := by
    have es : (eSl (eVar 1) (some (eC (.int 1))) none) [.sh (.str z), .sh (.lst ((n0 :: zs).map .str)), .sh (.str n0), .sh (.str f), .un] = .ok (.lst (zs.map .str)) := G.e_sl_from (xs := (n0 :: zs).map .str) (v := 1) rfl rfl (by decide)
    refine eComp_ok (ds := zipD (f.cps.toList.map chD) (zs.map .str)) ?_ (by rw [zipD_len, List.length_map]; omega) hc
    show ((eVar 3) _).bind _ = _
    rw [show (eVar 3) [.sh (.str z), .sh (.lst ((n0 :: zs).map .str)), .sh (.str n0), .sh (.str f), .un] = .ok (.str f) from rfl, R.bind_ok, es]
    rfl
  rw [blk (G.s_asg ec)]
  show sBlk _ [.sh (.str z), .sh (.lst ((n0 :: zs).map .str)), .sh (.str n0), .sh (.str f), .sh (.lst (ps.map .int))] = _
  refine blk_ret (s_ret ?_)
  rw [eIf_f (t_v (e_two (o := oInA) (x := .non) (y := .lst (ps.map .int)) rfl rfl (non_in ps)))]
  exact e_one (o := oTuple) (x := .lst (.str n0 :: ps.map .int)) (e_two (o := oAdd) (x := .lst [.str n0]) (y := .lst (ps.map .int)) rfl rfl (G.add_lst (by rw [List.length_map]; show 1 + _ ≤ _; omega))) rfl
end K10
end PL
set_option linter.all false
set_option maxRecDepth 4000
set_option Elab.async false
set_option maxHeartbeats 400000
namespace PL
namespace K10
open PySem G
structure Line (w : Int) (z : Str) (xs : List D) : Prop where
  shown : m_shown_word [.int w] = .ok (.str z)
  pos : 0 < z.length
  len : z.length ≤ 60
  nl : 10 ∉ z.cps.toList
  told : m_told_name [.str z] = .ok .non
  row : m_read_row [.str z] = .ok (.tup xs)
  name : m_name_in [.tup xs] = .ok .non
  word : m_word_of [.tup xs, .dct [] []] = .ok (.int w)
theorem join_sg {n0 : Str} {zs : List Str} (h0 : 0 < n0.length) (h : ∀ z ∈ n0 :: zs, ∀ c ∈ z.cps.toList, Sg c) :
    Txt.split (Txt.join (Sx " ") (n0 :: zs)) (Sx " ") = n0 :: zs ∧ 10 ∉ (Txt.join (Sx " ") (n0 :: zs)).cps.toList ∧ 58 ∉ (Txt.join (Sx " ") (n0 :: zs)).cps.toList ∧ 0 < (Txt.join (Sx " ") (n0 :: zs)).length := by
  rw [sp_eq]
  have hm := join_mem (c := 32) (P := fun d => d ≠ 10 ∧ d ≠ 58) ⟨by decide, by decide⟩ (l := n0 :: zs) fun z hz c hc => (h z hz c hc).no.2
  exact ⟨split_join (by simp) fun z hz hc => (h z hz 32 hc).no.1 rfl, fun hc => (hm 10 hc).1 rfl, fun hc => (hm 58 hc).2 rfl, join_pos h0⟩
theorem not_word {n f : Str} (h : (n, f) ∈ formT) : n ≠ Sx "word" := by
  have : ∀ p ∈ formT, p.1 ≠ Sx "word" := by decide +kernel
  exact this _ h
theorem no_parts {n f : Str} (h : (n, f) ∈ formT) (hf : f.cps.toList = []) : n = Sx "call" := by
  have : ∀ p ∈ formT, p.2.cps.toList = [] → p.1 = Sx "call" := by decide +kernel
  exact this _ h hf
theorem naming_of (n : Str) : oInA (.str n) g_NAMING = .ok (.bl ([S "put", S "jump", S "if"].any fun y => eqD y (.str n))) := rfl
theorem naming_no {n : Str} (h : n = Sx "call" ∨ n = Sx "word") : oInA (.str n) g_NAMING = .ok (.bl false) := by
  rw [naming_of]
  rcases h with rfl | rfl
  · rw [show ([S "put", S "jump", S "if"].any fun y => eqD y (.str (Sx "call"))) = false by decide +kernel]
  · rw [show ([S "put", S "jump", S "if"].any fun y => eqD y (.str (Sx "word"))) = false by decide +kernel]
theorem atI_last {α : Type} (l : List α) (x : α) : atI (l ++ [x]) (-1) = some x := by
  unfold atI ixN
  rw [List.length_append, List.length_singleton, if_neg (by decide), if_pos (by omega)]
  show (l ++ [x])[(-1 + ((l.length + 1 : Nat) : Int)).toNat]? = some x
  rw [show (-1 + ((l.length + 1 : Nat) : Int)).toNat = l.length by omega]
  simp
theorem name_of_row {n : Str} {ps : List Int} (h : ps = [] → oInA (.str n) g_NAMING = .ok (.bl false)) : m_name_in [.tup (.str n :: ps.map .int)] = .ok .non := by
  rw [m_name_in]
  refine fn_ret (s_ret ?_)
  show eIf _ _ _ [.sh (.tup (.str n :: ps.map .int))] = _
  have e0 : (e2 oIx (eVar 0) (eC (.int 0))) [.sh (.tup (.str n :: ps.map .int))] = .ok (.str n) := e_two (o := oIx) (x := .tup (.str n :: ps.map .int)) (y := .int 0) rfl rfl ix_str0
  rcases List.eq_nil_or_concat ps with rfl | ⟨l, p, rfl⟩
  · rw [eIf_f (G.t_and_f (t_v (e_two (o := oInA) e0 rfl (h rfl))))]
    rfl
  · rw [List.concat_eq_append] at e0 ⊢
    have el : (e2 oIx (eVar 0) (e1 oNeg (eC (.int 1)))) [.sh (.tup (.str n :: (l ++ [p]).map .int))] = .ok (.int p) := by
      refine e_two (o := oIx) (x := .tup (.str n :: (l ++ [p]).map .int)) (y := .int (-1)) rfl rfl (ix_tup ?_)
      rw [List.map_append]
      exact atI_last (D.str n :: l.map D.int) (D.int p)
    have ct : (tAnd (tV (e2 oInA (e2 oIx (eVar 0) (eC (.int 0))) (eC g_NAMING))) (tV (e1 (oIsA .str) (e2 oIx (eVar 0) (e1 oNeg (eC (.int 1))))))) [.sh (.tup (.str n :: (l ++ [p]).map .int))] = .ok (([S "put", S "jump", S "if"].any fun y => eqD y (.str n)) && false) := G.t_and (t_v (e_two (o := oInA) e0 rfl (naming_of n))) (t_v (e_one (x := .int p) el rfl))
    rw [Bool.and_false] at ct
    rw [eIf_f ct]
    rfl
theorem line_row {w : Int} {j : Nat} {n f : Str} (hj : formT[j]? = some (n, f)) (hd : m_decoded [.int w] = .ok (rowOf n f.cps.toList w)) (hv : vOf j f.cps.toList w = w) : Line w (Txt.join (Sx " ") (rowS n f.cps.toList w)) (.str n :: (f.cps.toList.map (pt w)).map .int) := by
  have hm : (n, f) ∈ formT := List.mem_of_getElem? hj
  obtain ⟨ns, n0⟩ := name_sg hm
  have hsg : ∀ z ∈ rowS n f.cps.toList w, ∀ c ∈ z.cps.toList, Sg c := fun z hz => by
    rcases List.mem_cons.mp hz with rfl | hz
    · exact ns
    · obtain ⟨c, _, rfl⟩ := List.mem_map.mp hz
      have := pt_pos w c
      exact partS_sg c this.1 (by omega)
  obtain ⟨j1, j2, j3, j4⟩ := join_sg n0 hsg
  obtain ⟨f3, _⟩ := formT_small hm
  have hfl := len_cps f
  have hl := letters hm
  refine ⟨shown_row hm hd, j4, (row_join hm w).2, j2, told_ok j3, ?_, ?_, ?_⟩
  · refine read_row_of (by have := (row_join hm w).2; omega) j1 ?_ (by rw [List.length_map]; exact hfl) (by omega) ?_ (by rw [List.length_map]; omega)
    · rw [eIf_f (t_v (e_two (o := oEq) (x := .str n) (y := S "word") rfl rfl (by
        unfold oEq S
        rw [eqOk_str_str, if_pos rfl]
        show R.ok (D.bl (decide (n = Sx "word"))) = _
        rw [decide_eq_false (not_word hm)])))]
      exact G.e_call1 rfl (shape_of_form hm)
    · have hz : ∀ cs : List Nat, zipD (cs.map chD) ((cs.map fun c => partS c (pt w c)).map .str) = cs.map fun c => .tup [chD c, .str (partS c (pt w c))] := fun cs => by
        induction cs with
        | nil => rfl
        | cons c cs ih => simp only [List.map_cons, zipD, ih]
      rw [hz, List.map_map]
      refine compL_map (fun c => D.tup [chD c, .str (partS c (pt w c))]) (fun c => D.int (pt w c)) fun c hc => ⟨[.sh (chD c), .sh (.str (partS c (pt w c))), .sh (.str n)], rfl, G.e_call3 rfl rfl rfl ?_⟩
      have hp := pt_pos w c
      rcases hl c hc with rfl | rfl | rfl | rfl
      · exact read_reg (by omega) hp.1 (Int.emod_lt_of_pos _ (by decide)) n
      · exact read_reg (by omega) hp.1 (Int.emod_lt_of_pos _ (by decide)) n
      · exact read_reg (by omega) hp.1 (Int.emod_lt_of_pos _ (by decide)) n
      · have := read_n hp.1 hp.2 n
        exact this
  · refine name_of_row fun h => naming_no (.inl (no_parts hm ?_))
    exact List.map_eq_nil_iff.mp h
  · have hn : m_name_in [.tup (.str n :: (f.cps.toList.map (pt w)).map .int)] = .ok .non := name_of_row fun h => naming_no (.inl (no_parts hm (List.map_eq_nil_iff.mp h)))
    have hc := coded_ok hj (good_pt w f.cps.toList)
    rw [show (j : Int) * 33554432 + val f.cps.toList (f.cps.toList.map (pt w)) = w from hv] at hc
    generalize (f.cps.toList.map (pt w)).map D.int = ps at hn hc
    rw [m_word_of]
    refine fn_ret ?_
    show sBlk _ [.sh (.tup (.str n :: ps)), .sh (.dct [] []), .un] = _
    rw [blk (sIf_nil (t_v (e_two (o := oEq) (x := .str n) (y := S "word") (e_two (o := oIx) (x := .tup (.str n :: ps)) (y := .int 0) rfl rfl ix_str0) rfl (by
      unfold oEq S
      rw [eqOk_str_str, if_pos rfl]
      show R.ok (D.bl (decide (n = Sx "word"))) = _
      rw [decide_eq_false (not_word hm)]))))]
    rw [blk (G.s_asg (d := .non) (G.e_call1 rfl hn))]
    show sBlk _ [.sh (.tup (.str n :: ps)), .sh (.dct [] []), .sh .non] = _
    refine blk_ret (s_ret (G.e_call1 (x := .tup (.str n :: ps)) ?_ hc))
    rw [eIf_t (t_v (e_one (x := .non) rfl rfl))]
    rfl
theorem wordS_join (w : Int) : wordS w = Txt.join (Sx " ") [Sx "word", decS w] := by
  rw [show Txt.join (Sx " ") [Sx "word", decS w] = Str.join (Sx " ") [Sx "word", decS w] from StrLaws.glued_eq_join _ _]
  show Sx "word " ++ decS w = Sx "word" ++ Sx " " ++ decS w
  rfl
theorem line_word {w : Int} (h0 : 0 ≤ w) (h1 : w < 4294967296) (hd : m_decoded [.int w] = .ok .non) : Line w (wordS w) [.str (Sx "word"), .int w] := by
  have hsg : ∀ z ∈ [Sx "word", decS w], ∀ c ∈ z.cps.toList, Sg c := fun z hz => by
    rcases List.mem_cons.mp hz with rfl | hz
    · intro c hc
      have : c ∈ [119, 111, 114, 100] := hc
      simp only [List.mem_cons, List.not_mem_nil, or_false] at this
      exact .inr (by omega)
    · rw [List.mem_singleton.mp hz]
      exact dec_sg h0 (by omega)
  obtain ⟨j1, j2, j3, j4⟩ := join_sg (by decide) hsg
  rw [← wordS_join] at j1 j2 j3 j4
  have hn : m_name_in [.tup [.str (Sx "word"), .int w]] = .ok .non := name_of_row (ps := [w]) fun h => nomatch h
  refine ⟨shown_non h0 h1 hd, j4, wordS_len h0 h1, j2, told_ok j3, ?_, hn, ?_⟩
  · refine read_row_of (n0 := Sx "word") (f := Sx "w") (zs := [decS w]) (ps := [w]) (by have := wordS_len h0 h1; omega) j1 ?_ rfl (by decide) ?_ (by show (1 : Nat) ≤ 100; decide)
    · rw [eIf_t (t_v (e_two (o := oEq) (x := .str (Sx "word")) (y := S "word") rfl rfl (by
        unfold oEq S
        rw [eqOk_str_str, if_pos rfl]
        show R.ok (D.bl (decide (Sx "word" = Sx "word"))) = _
        rw [decide_eq_true rfl])))]
      rfl
    · exact compL_map (fun w => D.tup [chD 119, .str (decS w)]) D.int (xs := [w]) fun x hx => ⟨[.sh (chD 119), .sh (.str (decS x)), .sh (.str (Sx "word"))], rfl, G.e_call3 rfl rfl rfl (by rw [List.mem_singleton.mp hx]; exact read_w h0 h1 _)⟩
  · rw [m_word_of]
    refine fn_ret ?_
    show sBlk _ [.sh (.tup [.str (Sx "word"), .int w]), .sh (.dct [] []), .un] = _
    refine blk_ret ?_
    rw [sIf_t (t_v (e_two (o := oEq) (x := .str (Sx "word")) (y := S "word") (e_two (o := oIx) (x := .tup [.str (Sx "word"), .int w]) (y := .int 0) rfl rfl ix_str0) rfl (by
      unfold oEq S
      rw [eqOk_str_str, if_pos rfl]
      show R.ok (D.bl (decide (Sx "word" = Sx "word"))) = _
      rw [decide_eq_true rfl])))]
    exact s_ret (e_two (o := oIx) (x := .tup [.str (Sx "word"), .int w]) (y := .int 1) rfl rfl rfl)
theorem line_all {w : Int} (h0 : 0 ≤ w) (h1 : w < 4294967296) : ∃ z xs, Line w z xs := by
  by_cases hb : 14 < w / 33554432
  · exact ⟨_, _, line_word h0 h1 (decoded_big h0 h1 hb)⟩
  · have hj15 : (w / 33554432).toNat < formT.length := by show _ < 15; omega
    have hj : formT[(w / 33554432).toNat]? = some formT[(w / 33554432).toNat] := List.getElem?_eq_getElem _
    generalize hq : formT[(w / 33554432).toNat] = q at hj
    obtain ⟨n, f⟩ := q
    have hk : w / 33554432 = ((w / 33554432).toNat : Int) := by omega
    have e1 := decoded_ok h0 h1 hj hk
    by_cases hv : vOf (w / 33554432).toNat f.cps.toList w = w
    · rw [if_pos hv] at e1
      exact ⟨_, _, line_row hj e1 hv⟩
    · rw [if_neg hv] at e1
      exact ⟨_, _, line_word h0 h1 e1⟩
end K10
end PL
set_option linter.all false
set_option maxRecDepth 4000
set_option Elab.async false
set_option maxHeartbeats 400000
namespace PL
namespace K10
open PySem G
noncomputable def lineOf (w : Int) : Str := match m_shown_word [.int w] with
  | .ok (.str z) => z
  | _ => Str.empty
noncomputable def xsOf (w : Int) : List D := match m_read_row [.str (lineOf w)] with
  | .ok (.tup xs) => xs
  | _ => []
theorem line_ok {w : Int} (h0 : 0 ≤ w) (h1 : w < 4294967296) : Line w (lineOf w) (xsOf w) := by
  obtain ⟨z, xs, L⟩ := line_all h0 h1
  have e1 : lineOf w = z := by unfold lineOf; rw [L.shown]
  have e2 : xsOf w = xs := by unfold xsOf; rw [e1, L.row]
  rw [e1, e2]; exact L
noncomputable def textOf (ws : List Int) : Str := Txt.join (Sx "\n") (ws.map lineOf)
theorem nl_len : (Sx "\n").length = 1 := by decide
theorem lines_len {ws : List Int} (hw : Words ws) (hl : ws.length ≤ 1000) : JoinOk (Sx "\n") (ws.map lineOf) = true ∧ (textOf ws).length ≤ 61000 := by
  have h : ∀ z ∈ ws.map lineOf, z.length ≤ 60 := fun z hz => by
    obtain ⟨w, hm, rfl⟩ := List.mem_map.mp hz
    exact (line_ok (hw w hm).1 (hw w hm).2).len
  have := join_len (sep := Sx "\n") h
  rw [nl_len, List.length_map] at this
  exact ⟨joinOk_of h (by rw [nl_len, List.length_map]; omega), by unfold textOf; omega⟩
theorem shown_code_ok {ws : List Int} (hw : Words ws) (hl : ws.length ≤ 1000) : m_shown_code [.lst (ws.map .int)] = .ok (.str (textOf ws)) := by
  rw [m_shown_code]
  refine fn_ret (s_ret (e_two (x := S "\n") (y := .lst ((ws.map lineOf).map .str)) rfl ?_ (joinT (lines_len hw hl).1)))
  rw [List.map_map]
  refine eComp_ok (ds := ws.map .int) rfl (by rw [List.length_map]; omega) ?_
  refine compL_map D.int (D.str ∘ lineOf) fun w hm => ⟨[.sh (.int w)], rfl, G.e_call1 rfl (line_ok (hw w hm).1 (hw w hm).2).shown⟩
theorem text_pos {w : Int} {ws : List Int} (hw : Words (w :: ws)) : 0 < (textOf (w :: ws)).length := by
  unfold textOf
  rw [nl_eq, List.map_cons]
  exact join_pos (line_ok (hw w (by simp)).1 (hw w (by simp)).2).pos
theorem eq_str (x y : Str) : oEq (.str x) (.str y) = .ok (.bl (decide (x = y))) := by
  unfold oEq
  rw [eqOk_str_str, if_pos rfl]; rfl
theorem ne_str (x y : Str) : oNe (.str x) (.str y) = .ok (.bl (!decide (x = y))) := by
  unfold oNe
  rw [neOk_str_str, if_pos rfl]; rfl
theorem not_empty {x : Str} (h : 0 < x.length) : x ≠ Sx "" := fun e => by
  rw [e] at h
  exact absurd h (by decide)
theorem lines_of_ok {ws : List Int} (hw : Words ws) (hl : ws.length ≤ 1000) : m_lines_of [.str (textOf ws)] = .ok (.lst ((ws.map lineOf).map .str)) := by
  have hlen := (lines_len hw hl).2
  rw [m_lines_of]
  refine fn_ret (s_ret ?_)
  show eIf _ _ _ [.sh (.str (textOf ws))] = _
  cases ws with
  | nil =>
    rw [eIf_t (t_v (e_two (o := oEq) (x := .str (textOf [])) (y := S "") rfl rfl (by rw [eq_str, decide_eq_true (show textOf [] = Str.ofString "" from rfl)])))]
    rfl
  | cons w ws =>
    rw [eIf_f (t_v (e_two (o := oEq) (x := .str (textOf (w :: ws))) (y := S "") rfl rfl (by rw [eq_str, decide_eq_false (not_empty (text_pos hw))])))]
    refine e_two (o := oSplitT) (x := .str (textOf (w :: ws))) (y := S "\n") rfl rfl ?_
    show (if ((Sx "\n").length == 0) = false ∧ (textOf (w :: ws)).length ≤ 1000000 then R.ok (D.lst ((Txt.split (textOf (w :: ws)) (Sx "\n")).map .str)) else .bad) = _
    rw [if_pos ⟨rfl, by omega⟩]
    unfold textOf
    rw [nl_eq, split_join (by simp) fun z hz => by
      obtain ⟨v, hm, rfl⟩ := List.mem_map.mp hz
      exact (line_ok (hw v hm).1 (hw v hm).2).nl]
noncomputable def rowsD : Int → List Int → List D
  | _, [] => []
  | k, w :: ws => .tup [.int k, .tup (xsOf w)] :: rowsD (k + 1) ws
theorem rowsD_len : ∀ (k : Int) (ws : List Int), (rowsD k ws).length = ws.length
  | _, [] => rfl
  | k, w :: ws => by rw [rowsD, List.length_cons, rowsD_len, List.length_cons]
theorem read_one {w : Int} (h0 : 0 ≤ w) (h1 : w < 4294967296) {acc : List D} (ha : acc.length < 1000) (s0 s3 s5 s6 : Slot) (k : Int) :
    m_read_code_l1 [s0, .sh (.dct [] []), .ol acc, .sh (.int k), .sh (.str (lineOf w)), s5, s6] = .ok (.next [s0, .sh (.dct [] []), .ol (acc ++ [.tup [.int k, .tup (xsOf w)]]), .sh (.int k), .sh (.str (lineOf w)), .sh .non, .sh (.tup (xsOf w))]) := by
  have L := line_ok h0 h1
  have e1 := L.told
  have e2 := L.row
  generalize lineOf w = z at e1 e2 ⊢
  generalize xsOf w = xs at e2 ⊢
  rw [m_read_code_l1]
  rw [blk (G.s_asg (d := .non) (G.e_call1 rfl e1))]
  show sBlk _ [s0, .sh (.dct [] []), .ol acc, .sh (.int k), .sh (.str z), .sh .non, s6] = _
  rw [blk (G.s_asg (d := .tup xs) (G.e_call1 rfl e2))]
  show sBlk _ [s0, .sh (.dct [] []), .ol acc, .sh (.int k), .sh (.str z), .sh .non, .sh (.tup xs)] = _
  rw [blk (ρ' := [s0, .sh (.dct [] []), .ol acc, .sh (.int k), .sh (.str z), .sh .non, .sh (.tup xs)]) (sIf_nil (t_or (b := false) (c := false) (t_v (e_two (o := oInA) (x := .non) (y := .dct [] []) rfl rfl rfl)) (G.t_and (b := true) (c := false) (t_v (e_one (x := .non) rfl rfl)) (t_v (e_one (x := .tup xs) rfl rfl)))))]
  rw [blk (ρ' := [s0, .sh (.dct [] []), .ol (acc ++ [.tup [.int k, .tup xs]]), .sh (.int k), .sh (.str z), .sh .non, .sh (.tup xs)]) (by
    rw [sIf_t (t_v (e_one (x := .non) rfl rfl)), G.s_app (d := .tup [.int k, .tup xs]) (G.e_tup2 rfl rfl) rfl (by omega)]
    rfl)]
  rfl
theorem read_loop (s0 : Slot) : ∀ (ws : List Int) (acc : List D) (k : Int) (s3 s4 s5 s6 : Slot), Words ws → acc.length + ws.length ≤ 1000 →
    ∃ t3 t4 t5 t6, forL (gTup [3, 4]) m_read_code_l1 (enumC k ((ws.map lineOf).map .str)) [s0, .sh (.dct [] []), .ol acc, s3, s4, s5, s6] = .ok (.next [s0, .sh (.dct [] []), .ol (acc ++ rowsD k ws), t3, t4, t5, t6])
  | [], acc, k, s3, s4, s5, s6, _, _ => ⟨s3, s4, s5, s6, by rw [rowsD, List.append_nil]; rfl⟩
  | w :: ws, acc, k, s3, s4, s5, s6, hw, hl => by
    rw [List.length_cons] at hl
    obtain ⟨t3, t4, t5, t6, ih⟩ := read_loop s0 ws (acc ++ [.tup [.int k, .tup (xsOf w)]]) (k + 1) (.sh (.int k)) (.sh (.str (lineOf w))) (.sh .non) (.sh (.tup (xsOf w))) (fun x hx => hw x (List.mem_cons_of_mem _ hx)) (by rw [List.length_append]; simp; omega)
    refine ⟨t3, t4, t5, t6, ?_⟩
    rw [List.map_cons, List.map_cons, show enumC k (D.str (lineOf w) :: (ws.map lineOf).map .str) = .tup [.int k, .str (lineOf w)] :: enumC (k + 1) ((ws.map lineOf).map .str) from rfl, forL,
      show gTup [3, 4] (.tup [.int k, .str (lineOf w)]) [s0, .sh (.dct [] []), .ol acc, s3, s4, s5, s6] = .ok [s0, .sh (.dct [] []), .ol acc, .sh (.int k), .sh (.str (lineOf w)), s5, s6] from rfl, R.bind_ok,
      read_one (hw w (by simp)).1 (hw w (by simp)).2 (by omega) s0 .un s5 s6 k, R.bind_ok, rowsD]
    rw [List.append_assoc, List.singleton_append] at ih
    exact ih
theorem untold_loop (s0 : Slot) : ∀ (ws : List Int) (k : Int) (s2 s3 s4 : Slot), Words ws →
    ∃ t2 t3 t4, forL (gTup [2, 3]) m_refuse_untold_l1 (rowsD k ws) [s0, .sh (.dct [] []), s2, s3, s4] = .ok (.next [s0, .sh (.dct [] []), t2, t3, t4])
  | [], k, s2, s3, s4, _ => ⟨s2, s3, s4, rfl⟩
  | w :: ws, k, s2, s3, s4, hw => by
    obtain ⟨t2, t3, t4, ih⟩ := untold_loop s0 ws (k + 1) (.sh (.int k)) (.sh (.tup (xsOf w))) (.sh .non) (fun x hx => hw x (List.mem_cons_of_mem _ hx))
    have e := (line_ok (hw w (by simp)).1 (hw w (by simp)).2).name
    refine ⟨t2, t3, t4, ?_⟩
    rw [rowsD, forL, show gTup [2, 3] (.tup [.int k, .tup (xsOf w)]) [s0, .sh (.dct [] []), s2, s3, s4] = .ok [s0, .sh (.dct [] []), .sh (.int k), .sh (.tup (xsOf w)), s4] from rfl, R.bind_ok]
    have eb : m_refuse_untold_l1 [s0, .sh (.dct [] []), .sh (.int k), .sh (.tup (xsOf w)), s4] = .ok (.next [s0, .sh (.dct [] []), .sh (.int k), .sh (.tup (xsOf w)), .sh .non]) := by
      rw [m_refuse_untold_l1, blk (G.s_asg (d := .non) (G.e_call1 rfl e))]
      show sBlk _ [s0, .sh (.dct [] []), .sh (.int k), .sh (.tup (xsOf w)), .sh .non] = _
      rw [blk (sIf_nil (G.t_and_f (t_v (e_one (x := .non) rfl rfl))))]
      rfl
    rw [eb, R.bind_ok]
    exact ih
theorem untold_ok {ws : List Int} (hw : Words ws) (k : Int) : m_refuse_untold [.lst (rowsD k ws), .dct [] []] = .ok .non := by
  obtain ⟨t2, t3, t4, e⟩ := untold_loop (.sh (.lst (rowsD k ws))) ws k .un .un .un hw
  rw [m_refuse_untold]
  have e2 : (sFor (iSeq (eVar 0)) (gTup [2, 3]) m_refuse_untold_l1) [.sh (.lst (rowsD k ws)), .sh (.dct [] []), .un, .un, .un] = _ := for_seq (ds := rowsD k ws) rfl e
  show ((sFor (iSeq (eVar 0)) (gTup [2, 3]) m_refuse_untold_l1) [.sh (.lst (rowsD k ws)), .sh (.dct [] []), .un, .un, .un]).bind _ = _
  rw [e2, R.bind_ok]
theorem words_comp : ∀ {ws : List Int} (k : Int), Words ws → compL (gTup [0, 1]) [] (eCall m_word_of [eVar 1, eVar 2]) [.un, .un, .sh (.dct [] [])] (rowsD k ws) = .ok (ws.map .int)
  | [], _, _ => rfl
  | w :: ws, k, hw => by
    have e := (line_ok (hw w (by simp)).1 (hw w (by simp)).2).word
    have ih := words_comp (ws := ws) (k + 1) fun x hx => hw x (List.mem_cons_of_mem _ hx)
    have e2 : (eCall m_word_of [eVar 1, eVar 2]) [.sh (.int k), .sh (.tup (xsOf w)), .sh (.dct [] [])] = .ok (.int w) := G.e_call2 rfl rfl e
    rw [rowsD, List.map_cons]
    unfold compL
    rw [show gTup [0, 1] (.tup [.int k, .tup (xsOf w)]) [.un, .un, .sh (.dct [] [])] = .ok [.sh (.int k), .sh (.tup (xsOf w)), .sh (.dct [] [])] from rfl, R.bind_ok]
    show (((eCall m_word_of [eVar 1, eVar 2]) [.sh (.int k), .sh (.tup (xsOf w)), .sh (.dct [] [])]).bind fun y => (compL (gTup [0, 1]) [] (eCall m_word_of [eVar 1, eVar 2]) [.un, .un, .sh (.dct [] [])] (rowsD (k + 1) ws)).bind fun ys => .ok (y :: ys)) = _
    rw [e2, R.bind_ok, ih, R.bind_ok]
theorem read_ok {ws : List Int} (hw : Words ws) (hl : ws.length ≤ 256) : m_read_code [.str (textOf ws)] = .ok (.lst (ws.map .int)) := by
  have e1 := lines_of_ok hw (by omega)
  generalize textOf ws = t at e1 ⊢
  obtain ⟨t3, t4, t5, t6, eL⟩ := read_loop (.sh (.str t)) ws [] 0 .un .un .un .un hw (by simp; omega)
  rw [List.nil_append] at eL
  have hrl := rowsD_len 0 ws
  have eu := untold_ok hw 0
  have ec := words_comp 0 hw
  generalize rowsD 0 ws = rows at eL hrl eu ec
  rw [m_read_code]
  refine fn_ret ?_
  show sBlk _ [.sh (.str t), .un, .un, .un, .un, .un, .un] = _
  rw [blk (sIf_nil (t_not (b := true) (t_v (e_one (x := .str t) rfl rfl))))]
  rw [blk (ρ' := [.sh (.str t), .sh (.dct [] []), .un, .un, .un, .un, .un]) rfl]
  rw [blk (ρ' := [.sh (.str t), .sh (.dct [] []), .ol [], .un, .un, .un, .un]) rfl]
  rw [blk (a := sFor _ _ _) (for_seq (ds := enumC 0 ((ws.map lineOf).map .str)) (by
    show ((eCall m_lines_of [eVar 0]) _).bind _ = _
    rw [G.e_call1 (f := m_lines_of) rfl e1]; rfl) eL)]
  rw [blk (ρ' := [.sh (.str t), .sh (.dct [] []), .sh (.lst rows), t3, t4, t5, t6]) rfl]
  rw [blk (ρ' := [.sh (.str t), .sh (.dct [] []), .sh (.lst rows), t3, t4, t5, t6]) (by
    show ((eCall m_refuse_untold [eVar 2, eVar 1]) _).bind _ = _
    rw [G.e_call2 (f := m_refuse_untold) rfl rfl eu]; rfl)]
  rw [blk (sIf_nil (t_v (e_two (o := oGt) (x := .int rows.length) (y := .int 256) (e_one (x := .lst rows) rfl rfl) rfl (by
    show R.ok (D.bl (decide ((256 : Int) < rows.length))) = _
    rw [decide_eq_false (by omega)]))))]
  exact blk_ret (s_ret (eComp_ok (ds := rows) rfl (by omega) ec))
end K10
end PL
set_option linter.all false
set_option maxRecDepth 4000
set_option Elab.async false
set_option maxHeartbeats 400000
namespace PL
namespace K10
open PySem G
theorem ne_ints (ws : List Int) : oNe (.lst (ws.map .int)) (.lst (ws.map .int)) = .ok (.bl false) := by
  refine G.ne_self ?_ ?_
  · rw [lay]; exact lays_ints ws
  · rw [dep, deps_ints]; decide
theorem whole_comp {ws : List Int} (hl : ws.length ≤ 1000) {ρ : En} (h : (eVar 4) ρ = .ok (.lst (ws.map .int))) : (eComp (iSeq (eVar 4)) 1 [] (gName 0) [tNot (tV (eCall m_law_whole [eVar 0]))] (eVar 0)) ρ = .ok (.lst []) := by
  refine eComp_ok (ds := ws.map .int) (by show ((eVar 4) ρ).bind _ = _; rw [h]; rfl) (by rw [List.length_map]; omega) ?_
  show compL _ _ _ [.un] _ = _
  have := compL_filter (tg := gName 0) (cs := [tNot (tV (eCall m_law_whole [eVar 0]))]) (el := eVar 0) (ρ := [.un]) D.int (fun _ => false) D.int (xs := ws) fun x _ => ⟨[.sh (.int x)], rfl, by
    show ((tNot (tV (eCall m_law_whole [eVar 0]))) [.sh (.int x)]).bind _ = _
    rw [t_not (b := true) (t_v (G.e_call1 (x := .int x) rfl (lwhole_ok (.int x)))), R.bind_ok]
    rfl, fun _ => rfl⟩
  rw [this, List.filter_eq_nil_iff.mpr (by intro _ _ h; cases h)]
  rfl
theorem both_step {ws : List Int} (hw : Words ws) (hl : ws.length ≤ 256) (s0 s1 s3 s4 s5 s6 : Slot) :
    m_law_l1 [s0, s1, .sh (.lst (ws.map .int)), s3, s4, s5, s6] = .ok (.next [s0, s1, .sh (.lst (ws.map .int)), .sh (.str (textOf ws)), .sh (.lst (ws.map .int)), s5, s6]) := by
  have e1 := shown_code_ok hw (by omega)
  have e2 := read_ok hw hl
  generalize textOf ws = t at e1 e2 ⊢
  rw [m_law_l1]
  rw [blk (G.s_asg (d := .str t) (G.e_call1 rfl e1))]
  show sBlk _ [s0, s1, .sh (.lst (ws.map .int)), .sh (.str t), s4, s5, s6] = _
  rw [blk (G.s_asg (d := .lst (ws.map .int)) (G.e_call1 rfl e2))]
  show sBlk _ [s0, s1, .sh (.lst (ws.map .int)), .sh (.str t), .sh (.lst (ws.map .int)), s5, s6] = _
  rw [blk (sIf_nil (t_or (b := false) (c := false) (t_not (b := true) (t_v (e_one (x := .lst (ws.map .int)) rfl rfl))) (t_or (b := false) (c := false) (t_v (e_two (o := oNe) (x := .lst (ws.map .int)) (y := .lst (ws.map .int)) rfl rfl (ne_ints ws))) (t_v (e_two (o := oNe) (x := .str t) (y := .str t) (G.e_call1 rfl e1) rfl (by rw [ne_str, decide_eq_true rfl]; rfl))))))]
  rw [blk (sIf_nil (t_v (e_two (o := oNe) (x := .lst []) (y := .lst []) (whole_comp (ws := ws) (by omega) rfl) rfl rfl)))]
  rfl
theorem join_app {l m : List Str} (hl : l ≠ []) (hm : m ≠ []) (sep : Str) : Str.join sep (l ++ m) = Str.join sep l ++ sep ++ Str.join sep m := by
  induction l with
  | nil => exact absurd rfl hl
  | cons x l ih =>
    cases l with
    | nil =>
      cases m with
      | nil => exact absurd rfl hm
      | cons y r => rfl
    | cons y r =>
      show x ++ sep ++ Str.join sep (y :: r ++ m) = x ++ sep ++ Str.join sep (y :: r) ++ sep ++ Str.join sep m
      rw [ih (by simp)]
      refine str_ext ?_
      simp only [app_cps, List.append_assoc]
theorem text_app {a b : List Int} (ha : a ≠ []) (hb : b ≠ []) : textOf (a ++ b) = Txt.join (Sx "\n") [textOf a, textOf b] := by
  unfold textOf
  have e : ∀ l, Txt.join (Sx "\n") l = Str.join (Sx "\n") l := fun l => StrLaws.glued_eq_join _ _
  rw [e, e, e, e, List.map_append, join_app (by simpa using ha) (by simpa using hb)]
  rfl
theorem text_one (a : List Int) : Txt.join (Sx "\n") [textOf a] = textOf a := by
  rw [show Txt.join (Sx "\n") [textOf a] = Str.join (Sx "\n") [textOf a] from StrLaws.glued_eq_join _ _]
  rfl
theorem Words.take {ws : List Int} (h : Words ws) (n : Nat) : Words (ws.take n) := fun x hx => h x (List.mem_of_mem_take hx)
theorem Words.drop {ws : List Int} (h : Words ws) (n : Nat) : Words (ws.drop n) := fun x hx => h x (List.mem_of_mem_drop hx)
theorem cut_one {α : Type} {xs : List α} {k : Nat} (h : k < xs.length) : cut xs (some (k : Int)) (some ((k : Int) + 1)) = (xs.drop k).take 1 := by
  unfold cut
  rw [G.sIx_pos (by omega), G.sIx_pos (by omega), show min (k : Int).toNat xs.length = k by omega, show min ((k : Int) + 1).toNat xs.length - k = 1 by omega]
theorem parts_step {ws : List Int} (hw : Words ws) (hl : ws.length ≤ 256) {k : Nat} (hk : k < ws.length) (s0 s2 s3 s4 s6 : Slot) :
    ∃ t6, m_law_l2 [s0, .sh (.lst (ws.map .int)), s2, s3, s4, .sh (.int k), s6] = .ok (.next [s0, .sh (.lst (ws.map .int)), s2, s3, s4, .sh (.int k), t6]) := by
  have wone := (hw.drop k).take 1
  have lone : ((ws.drop k).take 1).length ≤ 1 := by rw [List.length_take]; omega
  have o1 := shown_code_ok wone (by omega)
  have o2 := read_ok wone (by omega)
  have a1 := shown_code_ok (hw.take k) (by rw [List.length_take]; omega)
  have b1 := shown_code_ok (hw.drop k) (by rw [List.length_drop]; omega)
  have hall := read_ok hw hl
  have esl : (eSl (eVar 1) (some (eVar 5)) (some (e2 oAdd (eVar 5) (eC (.int 1))))) [s0, .sh (.lst (ws.map .int)), s2, s3, s4, .sh (.int k), s6] = .ok (.lst (((ws.drop k).take 1).map .int)) := by
    show R.ok (D.lst (cut (ws.map D.int) (some (k : Int)) (some ((k : Int) + 1)))) = _
    rw [cut_one (by rw [List.length_map]; exact hk), List.map_take, List.map_drop]
  have eto : (eSl (eVar 1) none (some (eVar 5))) [s0, .sh (.lst (ws.map .int)), s2, s3, s4, .sh (.int k), s6] = .ok (.lst ((ws.take k).map .int)) := by
    rw [G.e_sl_to (xs := ws.map .int) (v := k) rfl rfl (by omega), Int.toNat_natCast, List.map_take]
  have efr : (eSl (eVar 1) (some (eVar 5)) none) [s0, .sh (.lst (ws.map .int)), s2, s3, s4, .sh (.int k), s6] = .ok (.lst ((ws.drop k).map .int)) := by
    rw [G.e_sl_from (xs := ws.map .int) (v := k) rfl rfl (by omega), Int.toNat_natCast, List.map_drop]
  have hbne : ws.drop k ≠ [] := fun h => by
    have := congrArg List.length h
    rw [List.length_drop] at this
    simp at this
    omega
  have hbpos : 0 < (textOf (ws.drop k)).length := by
    have hwd := hw.drop k
    cases hd : ws.drop k with
    | nil => exact absurd hd hbne
    | cons x r => rw [hd] at hwd; exact text_pos hwd
  have hjoin : oJoinT (S "\n") (.lst (([textOf (ws.take k), textOf (ws.drop k)].filter fun t => !decide (t = Sx "")).map .str)) = .ok (.str (textOf ws)) := by
    have lb := (lines_len (hw.drop k) (by rw [List.length_drop]; omega)).2
    have la := (lines_len (hw.take k) (by rw [List.length_take]; omega)).2
    have fb : (!decide (textOf (ws.drop k) = Sx "")) = true := by rw [decide_eq_false (not_empty hbpos)]; rfl
    by_cases hk0 : k = 0
    · subst hk0
      have fa : (!decide (textOf (ws.take 0) = Sx "")) = false := by rw [List.take_zero, decide_eq_true (show textOf [] = Sx "" from rfl)]; rfl
      rw [List.filter_cons, if_neg (by rw [fa]; decide), List.filter_cons, if_pos fb, List.filter_nil]
      rw [joinT (joinOk_of (b := 61000) (fun z hz => by rw [List.mem_singleton.mp hz]; exact lb) (by rw [nl_len]; show (1 : Nat) * 61000 + 1 * 1 ≤ 16777216; decide)), text_one, List.drop_zero]
    · have hane : ws.take k ≠ [] := fun h => by
        have := congrArg List.length h
        rw [List.length_take, List.length_nil] at this
        omega
      have hapos : 0 < (textOf (ws.take k)).length := by
        have hwd := hw.take k
        cases hd : ws.take k with
        | nil => exact absurd hd hane
        | cons x r => rw [hd] at hwd; exact text_pos hwd
      have fa : (!decide (textOf (ws.take k) = Sx "")) = true := by rw [decide_eq_false (not_empty hapos)]; rfl
      rw [List.filter_cons, if_pos fa, List.filter_cons, if_pos fb, List.filter_nil]
      rw [joinT (joinOk_of (b := 61000) (fun z hz => by
        rcases List.mem_cons.mp hz with rfl | hz
        · exact la
        · rw [List.mem_singleton.mp hz]; exact lb) (by rw [nl_len]; show (2 : Nat) * 61000 + 2 * 1 ≤ 16777216; decide)), ← text_app hane hbne, List.take_append_drop]
  refine ⟨.sh (.lst [.str (textOf (ws.take k)), .str (textOf (ws.drop k))]), ?_⟩
  generalize textOf (ws.take k) = ta at a1 hjoin ⊢
  generalize textOf (ws.drop k) = tb at b1 hjoin ⊢
  generalize textOf ws = tw at hall hjoin
  rw [m_law_l2]
  rw [blk (sIf_nil (t_v (e_two (o := oNe) (x := .lst (((ws.drop k).take 1).map .int)) (y := .lst (((ws.drop k).take 1).map .int)) (G.e_call1 (G.e_call1 esl o1) o2) esl (ne_ints _))))]
  rw [blk (G.s_asg (d := .lst [.str ta, .str tb]) (by
    show (eList [_, _] _).bind _ = _
    simp only [eList, G.e_call1 (f := m_shown_code) eto a1, G.e_call1 (f := m_shown_code) efr b1, R.bind_ok]))]
  show sBlk _ [s0, .sh (.lst (ws.map .int)), s2, s3, s4, .sh (.int k), .sh (.lst [.str ta, .str tb])] = _
  have ecp : (eComp (iSeq (eVar 6)) 1 [] (gName 0) [tV (e2 oNe (eVar 0) (eC (S "")))] (eVar 0)) [s0, .sh (.lst (ws.map .int)), s2, s3, s4, .sh (.int k), .sh (.lst [.str ta, .str tb])] = .ok (.lst (([ta, tb].filter fun t => !decide (t = Sx "")).map .str)) := by
    refine eComp_ok (ds := [ta, tb].map .str) rfl (by show (2 : Nat) ≤ 16777216; decide) ?_
    show compL _ _ _ [.un] _ = _
    exact compL_filter D.str (fun t => !decide (t = Sx "")) D.str fun x _ => ⟨[.sh (.str x)], rfl, by
      show ((tV (e2 oNe (eVar 0) (eC (S "")))) [.sh (.str x)]).bind _ = _
      rw [t_v (e_two (o := oNe) (x := .str x) (y := S "") rfl rfl (ne_str x _)), R.bind_ok]
      cases (!decide (x = Str.ofString "")) <;> rfl, fun _ => rfl⟩
  rw [blk (sIf_nil (t_v (e_two (o := oNe) (x := .lst (ws.map .int)) (y := .lst (ws.map .int)) (G.e_call1 (e_two (o := oJoinT) (x := S "\n") rfl ecp hjoin) hall) rfl (ne_ints ws))))]
  rfl
theorem parts_loop {ws : List Int} (hw : Words ws) (hl : ws.length ≤ 256) (s0 s2 s3 s4 : Slot) : ∀ (ds : List D), (∀ d ∈ ds, ∃ k : Nat, d = .int k ∧ k < ws.length) → ∀ s5 s6, ∃ t5 t6, forL (gName 5) m_law_l2 ds [s0, .sh (.lst (ws.map .int)), s2, s3, s4, s5, s6] = .ok (.next [s0, .sh (.lst (ws.map .int)), s2, s3, s4, t5, t6])
  | [], _, s5, s6 => ⟨s5, s6, rfl⟩
  | d :: ds, h, s5, s6 => by
    obtain ⟨k, rfl, hk⟩ := h d List.mem_cons_self
    obtain ⟨u6, e⟩ := parts_step hw hl hk s0 s2 s3 s4 s6
    obtain ⟨t5, t6, ih⟩ := parts_loop hw hl s0 s2 s3 s4 ds (fun x hx => h x (List.mem_cons_of_mem _ hx)) (.sh (.int k)) u6
    refine ⟨t5, t6, ?_⟩
    rw [forL, show gName 5 (.int k) [s0, .sh (.lst (ws.map .int)), s2, s3, s4, s5, s6] = .ok [s0, .sh (.lst (ws.map .int)), s2, s3, s4, .sh (.int k), s6] from rfl, R.bind_ok, e, R.bind_ok]
    exact ih
theorem law_true (ns : List Int) (h : ns.length ≤ 63) : m_law [.lst (ns.map .int)] = .ok (.bl true) := by
  obtain ⟨ws, ew, hw, hl⟩ := words_ok ns h
  obtain ⟨w4, hw4⟩ : ∃ w4, (List.replicate 4 ws).flatten = w4 := ⟨_, rfl⟩
  have hW4 : Words w4 := fun x hx => by
    rw [← hw4] at hx
    obtain ⟨r, hr, hx⟩ := List.mem_flatten.mp hx
    rw [(List.mem_replicate.mp hr).2] at hx
    exact hw x hx
  have hl4 : w4.length ≤ 240 := by
    rw [← hw4]
    simp [List.replicate]
    omega
  have e4 : (e2 oRep (eVar 1) (eC (.int 4))) [.sh (.lst (ns.map .int)), .sh (.lst (ws.map .int)), .un, .un, .un, .un, .un] = .ok (.lst (w4.map .int)) := by
    refine e_two (o := oRep) (x := .lst (ws.map .int)) (y := .int 4) rfl rfl ?_
    show (if _ then _ else _) = _
    rw [if_pos ⟨by decide, by decide, by rw [List.length_map]; omega⟩, ← hw4]
    simp [List.replicate]
  have l1 : forL (gName 2) m_law_l1 [.lst (ws.map .int), .lst (w4.map .int)] [.sh (.lst (ns.map .int)), .sh (.lst (ws.map .int)), .un, .un, .un, .un, .un] = .ok (.next [.sh (.lst (ns.map .int)), .sh (.lst (ws.map .int)), .sh (.lst (w4.map .int)), .sh (.str (textOf w4)), .sh (.lst (w4.map .int)), .un, .un]) := by
    rw [forL, show gName 2 (.lst (ws.map .int)) [.sh (.lst (ns.map .int)), .sh (.lst (ws.map .int)), .un, .un, .un, .un, .un] = .ok [.sh (.lst (ns.map .int)), .sh (.lst (ws.map .int)), .sh (.lst (ws.map .int)), .un, .un, .un, .un] from rfl, R.bind_ok, both_step hw (by omega), R.bind_ok]
    show forL (gName 2) m_law_l1 [.lst (w4.map .int)] [.sh (.lst (ns.map .int)), .sh (.lst (ws.map .int)), .sh (.lst (ws.map .int)), .sh (.str (textOf ws)), .sh (.lst (ws.map .int)), .un, .un] = _
    rw [forL, show gName 2 (.lst (w4.map .int)) [.sh (.lst (ns.map .int)), .sh (.lst (ws.map .int)), .sh (.lst (ws.map .int)), .sh (.str (textOf ws)), .sh (.lst (ws.map .int)), .un, .un] = .ok [.sh (.lst (ns.map .int)), .sh (.lst (ws.map .int)), .sh (.lst (w4.map .int)), .sh (.str (textOf ws)), .sh (.lst (ws.map .int)), .un, .un] from rfl, R.bind_ok, both_step hW4 (by omega), R.bind_ok]
    rfl
  obtain ⟨t5, t6, l2⟩ := parts_loop hw (by omega) (.sh (.lst (ns.map .int))) (.sh (.lst (w4.map .int))) (.sh (.str (textOf w4))) (.sh (.lst (w4.map .int))) (rangeL 0 (ws.length : Int)) (fun d hd => by
    obtain ⟨k, rfl, h0, h1⟩ := rangeL_mem hd
    exact ⟨k.toNat, by rw [Int.toNat_of_nonneg h0], by omega⟩) .un .un
  have c0 := shown_code_ok (ws := []) (fun _ h => nomatch h) (by decide)
  have r0 := read_ok (ws := []) (fun _ h => nomatch h) (by decide)
  rw [m_law]
  refine fn_ret ?_
  show sBlk _ [.sh (.lst (ns.map .int)), .un, .un, .un, .un, .un, .un] = _
  rw [blk (G.s_asg (d := .lst (ws.map .int)) (G.e_call2 (y := .bl true) rfl rfl ew))]
  show sBlk _ [.sh (.lst (ns.map .int)), .sh (.lst (ws.map .int)), .un, .un, .un, .un, .un] = _
  rw [blk (a := sFor _ _ _) (for_seq (ds := [.lst (ws.map .int), .lst (w4.map .int)]) (by
    show ((eTup [eVar 1, e2 oRep (eVar 1) (eC (.int 4))]) _).bind _ = _
    rw [G.e_tup2 rfl e4]; rfl) l1)]
  rw [blk (a := sFor _ _ _) (for_seq (iRng1_ok (L := ws.length) (e_one (x := .lst (ws.map .int)) rfl (by show R.ok (D.int ((ws.map D.int).length : Int)) = _; rw [List.length_map])) (inR_of (by omega) (by omega))) l2)]
  exact blk_ret (s_ret (e_two (o := oEq) (x := .lst []) (y := .lst []) (G.e_call1 (x := .str (textOf [])) (G.e_call1 (x := .lst []) rfl c0) r0) rfl rfl))
end K10
end PL
open PySem PySem.W PyProof.Rows
set_option maxRecDepth 100000 in
set_option maxHeartbeats 0 in
theorem PySem.Challenge.cw_underfloor_k10_whole_there_and_back_holds : PySem.Challenge.rw_underfloor_k10_whole_there_and_back.Holds := by
  w_on; o_law; k_head; (case hw => w_witness2)
  k_fill
  refine PL.walk (l := PySem.Challenge.rw_underfloor_k10_whole_there_and_back) (k := 8) (x := "_law_script") (m := PL.K10.m_law) rfl rfl ⟨rfl, by decide, by decide⟩ (fun w h Y => PySem.W.kIn_of Y) ?F PL.K10.law_true
  case F =>
    intro w mg fa h KX G hmg
    refine' PL.K10.all_mk KX G hmg ?a0 ?l0 ?c0 ?k0 ?a1 ?l1 ?c1 ?k1 ?a2 ?l2 ?c2 ?k2 ?a3 ?l3 ?c3 ?k3 ?a4 ?l4 ?c4 ?k4 ?a5 ?l5 ?c5 ?k5 ?a6 ?l6 ?c6 ?k6 ?a7 ?l7 ?c7 ?k7 ?a8 ?l8 ?c8 ?k8 ?a9 ?l9 ?c9 ?k9 ?a10 ?l10 ?c10 ?k10 ?a11 ?l11 ?c11 ?k11 ?a12 ?l12 ?c12 ?k12 ?a13 ?l13 ?c13 ?k13 ?a14 ?l14 ?c14 ?k14 ?a15 ?l15 ?c15 ?k15 ?a16 ?l16 ?c16 ?k16 ?a17 ?l17 ?c17 ?k17 ?a18 ?l18 ?c18 ?k18 ?a19 ?l19 ?c19 ?k19 ?a20 ?l20 ?c20 ?k20 ?a21 ?l21 ?c21 ?k21 ?a22 ?l22 ?c22 ?k22 ?a23 ?l23 ?c23 ?k23 ?a24 ?l24 ?c24 ?k24 ?a25 ?l25 ?c25 ?k25 ?a26 ?l26 ?c26 ?k26 ?a27 ?l27 ?c27 ?k27 ?a28 ?l28 ?c28 ?k28 ?a29 ?l29 ?c29 ?k29 ?z_all ?z_bool ?z_enumerate ?z_int ?z_isinstance ?z_len ?z_list ?z_min ?z_range ?z_str ?z_tuple ?z_zip ?gl_SHAPES ?gl_NAMES ?gl_NAMING ?gl_LETTERS ?gl_FIGURES ?gl_REGS ?gl_MOST_WORDS
    (case a0 => k_is)
    (case l0 => k_is)
    (case c0 => k_is)
    (case k0 => k_is)
    (case a1 => k_is)
    (case l1 => k_is)
    (case c1 => k_is)
    (case k1 => k_is)
    (case a2 => k_is)
    (case l2 => k_is)
    (case c2 => k_is)
    (case k2 => k_is)
    (case a3 => k_is)
    (case l3 => k_is)
    (case c3 => k_is)
    (case k3 => k_is)
    (case a4 => k_is)
    (case l4 => k_is)
    (case c4 => k_is)
    (case k4 => k_is)
    (case a5 => k_is)
    (case l5 => k_is)
    (case c5 => k_is)
    (case k5 => k_is)
    (case a6 => k_is)
    (case l6 => k_is)
    (case c6 => k_is)
    (case k6 => k_is)
    (case a7 => k_is)
    (case l7 => k_is)
    (case c7 => k_is)
    (case k7 => k_is)
    (case a8 => k_is)
    (case l8 => k_is)
    (case c8 => k_is)
    (case k8 => k_is)
    (case a9 => k_is)
    (case l9 => k_is)
    (case c9 => k_is)
    (case k9 => k_is)
    (case a10 => k_is)
    (case l10 => k_is)
    (case c10 => k_is)
    (case k10 => k_is)
    (case a11 => k_is)
    (case l11 => k_is)
    (case c11 => k_is)
    (case k11 => k_is)
    (case a12 => k_is)
    (case l12 => k_is)
    (case c12 => k_is)
    (case k12 => k_is)
    (case a13 => k_is)
    (case l13 => k_is)
    (case c13 => k_is)
    (case k13 => k_is)
    (case a14 => k_is)
    (case l14 => k_is)
    (case c14 => k_is)
    (case k14 => k_is)
    (case a15 => k_is)
    (case l15 => k_is)
    (case c15 => k_is)
    (case k15 => k_is)
    (case a16 => k_is)
    (case l16 => k_is)
    (case c16 => k_is)
    (case k16 => k_is)
    (case a17 => k_is)
    (case l17 => k_is)
    (case c17 => k_is)
    (case k17 => k_is)
    (case a18 => k_is)
    (case l18 => k_is)
    (case c18 => k_is)
    (case k18 => k_is)
    (case a19 => k_is)
    (case l19 => k_is)
    (case c19 => k_is)
    (case k19 => k_is)
    (case a20 => k_is)
    (case l20 => k_is)
    (case c20 => k_is)
    (case k20 => k_is)
    (case a21 => k_is)
    (case l21 => k_is)
    (case c21 => k_is)
    (case k21 => k_is)
    (case a22 => k_is)
    (case l22 => k_is)
    (case c22 => k_is)
    (case k22 => k_is)
    (case a23 => k_is)
    (case l23 => k_is)
    (case c23 => k_is)
    (case k23 => k_is)
    (case a24 => k_is)
    (case l24 => k_is)
    (case c24 => k_is)
    (case k24 => k_is)
    (case a25 => k_is)
    (case l25 => k_is)
    (case c25 => k_is)
    (case k25 => k_is)
    (case a26 => k_is)
    (case l26 => k_is)
    (case c26 => k_is)
    (case k26 => k_is)
    (case a27 => k_is)
    (case l27 => k_is)
    (case c27 => k_is)
    (case k27 => k_is)
    (case a28 => k_is)
    (case l28 => k_is)
    (case c28 => k_is)
    (case k28 => k_is)
    (case a29 => k_is)
    (case l29 => k_is)
    (case c29 => k_is)
    (case k29 => k_is)
    (case z_all => k_is)
    (case z_bool => k_is)
    (case z_enumerate => k_is)
    (case z_int => k_is)
    (case z_isinstance => k_is)
    (case z_len => k_is)
    (case z_list => k_is)
    (case z_min => k_is)
    (case z_range => k_is)
    (case z_str => k_is)
    (case z_tuple => k_is)
    (case z_zip => k_is)
    (case gl_SHAPES => refine' PL.gl_dict KX G ?x1_SHAPES ?x2_SHAPES ?x3_SHAPES ?x4_SHAPES ?x5_SHAPES ?x6_SHAPES; (case x1_SHAPES => k_is); (case x2_SHAPES => k_is); (case x3_SHAPES => exact ⟨_, _, _, _, _, rfl, rfl, rfl, rfl, ⟨_, rfl⟩, ⟨_, _, _, _, _, rfl, rfl, rfl, rfl, ⟨_, rfl⟩, ⟨_, _, _, _, _, rfl, rfl, rfl, rfl, ⟨_, rfl⟩, ⟨_, _, _, _, _, rfl, rfl, rfl, rfl, ⟨_, rfl⟩, ⟨_, _, _, _, _, rfl, rfl, rfl, rfl, ⟨_, rfl⟩, ⟨_, _, _, _, _, rfl, rfl, rfl, rfl, ⟨_, rfl⟩, ⟨_, _, _, _, _, rfl, rfl, rfl, rfl, ⟨_, rfl⟩, ⟨_, _, _, _, _, rfl, rfl, rfl, rfl, ⟨_, rfl⟩, ⟨_, _, _, _, _, rfl, rfl, rfl, rfl, ⟨_, rfl⟩, ⟨_, _, _, _, _, rfl, rfl, rfl, rfl, ⟨_, rfl⟩, ⟨_, _, _, _, _, rfl, rfl, rfl, rfl, ⟨_, rfl⟩, ⟨_, _, _, _, _, rfl, rfl, rfl, rfl, ⟨_, rfl⟩, ⟨_, _, _, _, _, rfl, rfl, rfl, rfl, ⟨_, rfl⟩, ⟨_, _, _, _, _, rfl, rfl, rfl, rfl, ⟨_, rfl⟩, ⟨_, _, _, _, _, rfl, rfl, rfl, rfl, ⟨_, rfl⟩, ⟨rfl, rfl⟩⟩⟩⟩⟩⟩⟩⟩⟩⟩⟩⟩⟩⟩⟩⟩); (case x4_SHAPES => decide +kernel); (case x5_SHAPES => decide); (case x6_SHAPES => rfl))
    (case gl_NAMES => refine' PL.gt_tup KX G ?x1_NAMES ?x2_NAMES ?x3_NAMES ?x4_NAMES; (case x1_NAMES => k_is); (case x2_NAMES => k_is); (case x3_NAMES => exact ⟨_, _, rfl, ⟨_, rfl⟩, ⟨_, _, rfl, ⟨_, rfl⟩, ⟨_, _, rfl, ⟨_, rfl⟩, ⟨_, _, rfl, ⟨_, rfl⟩, ⟨_, _, rfl, ⟨_, rfl⟩, ⟨_, _, rfl, ⟨_, rfl⟩, ⟨_, _, rfl, ⟨_, rfl⟩, ⟨_, _, rfl, ⟨_, rfl⟩, ⟨_, _, rfl, ⟨_, rfl⟩, ⟨_, _, rfl, ⟨_, rfl⟩, ⟨_, _, rfl, ⟨_, rfl⟩, ⟨_, _, rfl, ⟨_, rfl⟩, ⟨_, _, rfl, ⟨_, rfl⟩, ⟨_, _, rfl, ⟨_, rfl⟩, ⟨_, _, rfl, ⟨_, rfl⟩, rfl⟩⟩⟩⟩⟩⟩⟩⟩⟩⟩⟩⟩⟩⟩⟩); (case x4_NAMES => decide))
    (case gl_NAMING => refine' PL.gt_tup KX G ?x1_NAMING ?x2_NAMING ?x3_NAMING ?x4_NAMING; (case x1_NAMING => k_is); (case x2_NAMING => k_is); (case x3_NAMING => exact ⟨_, _, rfl, ⟨_, rfl⟩, ⟨_, _, rfl, ⟨_, rfl⟩, ⟨_, _, rfl, ⟨_, rfl⟩, rfl⟩⟩⟩); (case x4_NAMING => decide))
    (case gl_LETTERS => refine' PL.gl_flat KX G ?x1_LETTERS ?x2_LETTERS; (case x1_LETTERS => k_is); (case x2_LETTERS => exact ⟨_, rfl⟩))
    (case gl_FIGURES => refine' PL.gl_flat KX G ?x1_FIGURES ?x2_FIGURES; (case x1_FIGURES => k_is); (case x2_FIGURES => exact ⟨_, rfl⟩))
    (case gl_REGS => refine' PL.gt_tup KX G ?x1_REGS ?x2_REGS ?x3_REGS ?x4_REGS; (case x1_REGS => k_is); (case x2_REGS => k_is); (case x3_REGS => exact ⟨_, _, rfl, ⟨_, rfl⟩, ⟨_, _, rfl, ⟨_, rfl⟩, ⟨_, _, rfl, ⟨_, rfl⟩, ⟨_, _, rfl, ⟨_, rfl⟩, ⟨_, _, rfl, ⟨_, rfl⟩, ⟨_, _, rfl, ⟨_, rfl⟩, ⟨_, _, rfl, ⟨_, rfl⟩, ⟨_, _, rfl, ⟨_, rfl⟩, rfl⟩⟩⟩⟩⟩⟩⟩⟩); (case x4_REGS => decide))
    (case gl_MOST_WORDS => refine' PL.gl_flat KX G ?x1_MOST_WORDS ?x2_MOST_WORDS; (case x1_MOST_WORDS => k_is); (case x2_MOST_WORDS => exact ⟨_, rfl⟩))
