import PyProof.Rows.All
import Wide.All
import OpenK.AllK
import Wide.FinOn
import Lean
import PyProof.EqAt
import PyProof.EqKinds
import PyProof.TupleCall
import PySem.Challenge.RW_viewkeep_k10_widths_and_sizes
set_option Elab.async false
set_option linter.all false
set_option maxRecDepth 100000
set_option maxHeartbeats 4000000

set_option Elab.async false
set_option linter.all false
set_option maxRecDepth 100000
namespace L2
open PySem PySem.Spec PyProof.Rows
/-- a key: an int or a str -/
abbrev Key := Sum Int Str
def keyIs : Key → Value → Bool
  | .inl k, v => Value.isInt k v
  | .inr x, v => Value.isStrOf x v
def keyH (w : World) : Key → Int
  | .inl k => hashInt k
  | .inr x => hashStr w x
theorem keyIs_shape : ∀ {k : Key} {v : Value}, keyIs k v = true → (∃ i t, k = Sum.inl i ∧ v = Value.int i t) ∨ (∃ x t, k = Sum.inr x ∧ v = Value.str x t)
  | .inl i, v, h => by
    obtain ⟨t, e⟩ := Value.isInt_shape (k := i) (v := v) h
    exact .inl ⟨i, t, rfl, e⟩
  | .inr x, v, h => by
    obtain ⟨t, e⟩ := Value.isStrOf_shape (x := x) (v := v) h
    exact .inr ⟨x, t, rfl, e⟩
theorem keyIs_int (i : Int) (t : Tok) : keyIs (.inl i) (.int i t) = true := by simp [keyIs, Value.isInt]
theorem keyIs_str (x : Str) (t : Tok) : keyIs (.inr x) (.str x t) = true := by simp [keyIs, Value.isStrOf]
theorem key_ll (a b : Int) : decide ((Sum.inl a : Key) = Sum.inl b) = (a == b) := by
  by_cases e : a = b
  · subst e; simp
  · have h : ¬ (Sum.inl a : Key) = Sum.inl b := fun q => e (Sum.inl.inj q)
    rw [decide_eq_false h]
    exact (beq_eq_false_iff_ne.mpr e).symm
theorem key_rr (a b : Str) : decide ((Sum.inr a : Key) = Sum.inr b) = decide (a = b) := by
  by_cases e : a = b
  · subst e; simp
  · have h : ¬ (Sum.inr a : Key) = Sum.inr b := fun q => e (Sum.inr.inj q)
    rw [decide_eq_false h, decide_eq_false e]
theorem key_lr (a : Int) (b : Str) : decide ((Sum.inl a : Key) = Sum.inr b) = false := decide_eq_false (fun q => nomatch q)
theorem key_rl (a : Str) (b : Int) : decide ((Sum.inr a : Key) = Sum.inl b) = false := decide_eq_false (fun q => nomatch q)
def mixKind (prog : Program) (w : World) : PySem.KeyKind prog w Key where
  is := keyIs
  hash := keyH w
  inj := fun v a b ha hb => by
    rcases keyIs_shape ha with ⟨i, t, rfl, rfl⟩ | ⟨x, t, rfl, rfl⟩
    · rcases keyIs_shape hb with ⟨j, u, rfl, e⟩ | ⟨y, u, rfl, e⟩
      · injection e with e1 _; rw [e1]
      · exact nomatch e
    · rcases keyIs_shape hb with ⟨j, u, rfl, e⟩ | ⟨y, u, rfl, e⟩
      · exact nomatch e
      · injection e with e1 _; rw [e1]
  byValue := fun k v h => by
    rcases keyIs_shape h with ⟨i, t, rfl, rfl⟩ | ⟨x, t, rfl, rfl⟩ <;> rfl
  pyHash := fun hv h => by
    rcases keyIs_shape hv with ⟨i, t, rfl, rfl⟩ | ⟨x, t, rfl, rfl⟩
    · exact wpAny_pyHash_int h
    · exact wpAny_pyHash_str h
  eqBool := fun hu hv h => by
    rcases keyIs_shape hu with ⟨i, t, rfl, rfl⟩ | ⟨x, t, rfl, rfl⟩
    · rcases keyIs_shape hv with ⟨j, u, rfl, rfl⟩ | ⟨y, u, rfl, rfl⟩
      · rw [key_ll] at h; exact wpAny_eqBool_int h
      · rw [key_lr] at h; exact SeqAt.EqAt.int_str i t y u _ _ _ _ h
    · rcases keyIs_shape hv with ⟨j, u, rfl, rfl⟩ | ⟨y, u, rfl, rfl⟩
      · rw [key_rl] at h; exact SeqAt.EqAt.str_int x t j u _ _ _ _ h
      · rw [key_rr] at h; exact wpAny_eqBool_str h
  «strs» := fun k x t v h => by
    rcases keyIs_shape h with ⟨i, u, rfl, e⟩ | ⟨y, u, rfl, e⟩
    · exact nomatch e
    · injection e with e1 _
      subst e1
      cases v <;> rfl
theorem mixKind_int (prog : Program) (w : World) (i : Int) (t : Tok) : (mixKind prog w).is (.inl i) (.int i t) = true := keyIs_int i t
theorem mixKind_str (prog : Program) (w : World) (x : Str) (t : Tok) : (mixKind prog w).is (.inr x) (.str x t) = true := keyIs_str x t
end L2
namespace L2
open PySem PySem.Spec PyProof.Rows
/-- a value, without the heap -/
inductive V where
  | non | bl (b : Bool) | int (i : Int) | str (x : Str) | byt (b : Array UInt8) | flt (b : UInt64) | ref (a : Addr) | ty (n : String)
  deriving DecidableEq
def RelV : V → Value → Prop
  | .non, u => u = Value.none
  | .bl b, u => u = Value.bool b
  | .int i, u => ∃ t, u = Value.int i t
  | .str x, u => ∃ t, u = Value.str x t
  | .byt b, u => ∃ t, u = Value.bytes b t
  | .flt b, u => ∃ t, u = Value.float b t
  | .ref a, u => u = Value.ref a
  | .ty n, u => u = Value.type n
abbrev Vals : List V → List Value → Prop := Paired RelV
theorem Vals.length {xs : List V} {us : List Value} (r : Vals xs us) : xs.length = us.length := Paired.length r
theorem Vals.get : ∀ {xs : List V} {us : List Value} {i : Nat} {x : V}, Vals xs us → xs[i]? = some x → ∃ u, us[i]? = some u ∧ RelV x u
  | _, _, _, _, .nil, e => by simp at e
  | _, _, 0, _, .cons r _, e => by simp at e; subst e; exact ⟨_, rfl, r⟩
  | _, _, i + 1, x, .cons _ t, e => by
    obtain ⟨u, h1, h2⟩ := Vals.get (i := i) (x := x) t (by simpa using e)
    exact ⟨u, by simpa using h1, h2⟩
theorem Vals.append : ∀ {xs ys : List V} {us ws : List Value}, Vals xs us → Vals ys ws → Vals (xs ++ ys) (us ++ ws)
  | _, _, _, _, .nil, s => s
  | _, _, _, _, .cons r t, s => .cons r (Vals.append t s)
theorem Vals.take : ∀ {xs : List V} {us : List Value} (n : Nat), Vals xs us → Vals (xs.take n) (us.take n)
  | _, _, 0, _ => .nil
  | _, _, _ + 1, .nil => .nil
  | _, _, n + 1, .cons r t => .cons r (Vals.take n t)
theorem Vals.drop : ∀ {xs : List V} {us : List Value} (n : Nat), Vals xs us → Vals (xs.drop n) (us.drop n)
  | _, _, 0, r => r
  | _, _, _ + 1, .nil => .nil
  | _, _, n + 1, .cons _ t => Vals.drop n t
def RelO : Option V → Option Value → Prop
  | some v, some u => RelV v u
  | none, none => True
  | _, _ => False
def KV {κ : Type} : List (κ × V) → List (κ × Value) → Prop := Paired fun (p : κ × V) (q : κ × Value) => p.1 = q.1 ∧ RelV p.2 q.2
/-- a key of a dict (00_mix): an int or a text -/
def kV : Key → V
  | .inl i => .int i
  | .inr x => .str x
/-- what stands at a tracked address -/
inductive HO where
  /-- a list -/
  | lst (xs : List V)
  /-- a tuple (never changes) -/
  | tup (xs : List V)
  /-- a dict whose keys are ints and texts; one whose keys are tuples of ints and texts (the empty one is both) -/
  | dK (kvs : List (Key × V)) | dT (kvs : List (List Key × V))
  /-- a set of ints: its members, its size -/
  | set (S : Int → Bool) (n : Nat)
  /-- an instance of the class at C, its dict at dx, its attributes -/
  | ins (C dx : Addr) (fs : List (Str × V))
  /-- the dict of the instance at x -/
  | own (x : Addr)
  /-- the dict of an exception -/
  | xd (fs : List (Str × V))
  /-- a bound method, f of x -/
  | met (f x : Addr)
  /-- a range object lo, lo + 1, .. below hi -/
  | rng (lo hi : Int)
  /-- a thing that is known to the object (the script; a dict while a loop walks it): read, never written while it is so -/
  | frz (o : Obj) (u : HO)
  /-- a code object's table -/
  | tbl (ps : Array Value)
  /-- any other thing, by what is true of its one object (a def of one's own: SetO a S n := HO.ext fun h => ..) -/
  | ext (φ : Heap → Prop)
abbrev Hp := Addr → Option HO
def upd (H : Hp) (a : Addr) (o : HO) : Hp := fun b => if b = a then some o else H b
theorem upd_same {H : Hp} {a : Addr} {o : HO} : upd H a o a = some o := by unfold upd; rw [if_pos rfl]
theorem upd_ne {H : Hp} {a b : Addr} {o : HO} (h : b ≠ a) : upd H a o b = H b := by unfold upd; rw [if_neg h]
/-- two objects of different content stand apart -/
theorem ne_of {H : Hp} {a b : Addr} {o u : HO} (h : H a = some o) (h' : H b = some u) (d : o ≠ u) : a ≠ b := by
  intro e; subst e; rw [h] at h'; exact d (Option.some.inj h')
theorem ne_of_none {H : Hp} {a b : Addr} {o : HO} (h : H a = some o) (h' : H b = none) : a ≠ b := by
  intro e; subst e; rw [h] at h'; cases h'
section
variable (P : Program) (w : World)
def ObjOk (H : Hp) (h : Heap) (a : Addr) : HO → Prop
  | .lst xs => xs.length ≤ sizeLine ∧ ∃ (its : List Value) (n : Nat), Vals xs its ∧ h.get? a = some { cls := .type "list", data := .seq its.toArray n }
  | .tup xs => xs.length ≤ sizeLine ∧ ∃ its : List Value, Vals xs its ∧ IsTup h a its.toArray
  | .dK kvs => kvs.length ≤ sizeLine ∧ (a == sysModules) = false ∧ ∃ vs, KV kvs vs ∧ h.DictOf (mixKind P w) a vs
  | .dT kvs => kvs.length ≤ sizeLine ∧ (a == sysModules) = false ∧ ∃ xs : List (List Key × Addr × Value),
      Paired (fun (p : List Key × V) (q : List Key × Addr × Value) => p.1 = q.1 ∧ H q.2.1 = some (.tup (p.1.map kV)) ∧ RelV p.2 q.2.2) kvs xs ∧
      ∃ o es ep, h.get? a = some o ∧ o.ExactDict ∧ o.data = .dict es ep ∧ es.toList = xs.map (entryOfKey (tupleKind (mixKind P w))) ∧ (xs.map (·.1)).Nodup
  | .set S n => h.SetOf (intKind P w) a S n
  | .ins C dx fs => H dx = some (.own a) ∧ fs.length ≤ 1000 ∧ dx ≠ a ∧ h.get? a = some (PySem.W.instObj C dx) ∧
      ∃ mA, h.Ns1 dx mA ∧ (∀ f, RelO (fs.lookup f) (mA f)) ∧ PySem.Within mA (fs.map (·.1))
  | .own _ => ∃ o, h.get? a = some o
  | .xd fs => ∃ mA, h.Ns1 a mA ∧ ∀ f, RelO (fs.lookup f) (mA f)
  | .rng lo hi => ∃ t u v, h.get? a = some { cls := .type "range", data := .fields #[.int lo t, .int hi u, .int 1 v] }
  | .frz o u => h.get? a = some o ∧ ObjOk H h a u
  | .tbl ps => h.get? a = some { cls := .none, data := .fields ps }
  | .met f x => h.get? a = some (PySem.W.methodObj (.ref f) (.ref x))
  | .ext φ => φ h ∧ (∃ o, h.get? a = some o) ∧ ∀ h1 h2 : Heap, φ h1 → (∀ o, h1.get? a = some o → h2.get? a = some o) → φ h2
/-- the abstract heap is held -/
def HOk (H : Hp) (h : Heap) : Prop := ∀ a o, H a = some o → ObjOk P w H h a o
end
section
variable {P : Program} {w : World} {H H' : Hp} {h h' : Heap} {a : Addr} {o : HO}
theorem ObjOk.lt (x : ObjOk P w H h a o) : a < h.objs.size := by
  cases o with
  | lst xs => obtain ⟨_, _, _, _, e⟩ := x; exact Heap.lt_size e
  | tup xs => obtain ⟨_, _, _, p⟩ := x; exact p.lt
  | dK kvs => obtain ⟨_, _, _, _, o, _, _, e, _⟩ := x; exact Heap.lt_size e
  | dT kvs => obtain ⟨_, _, _, _, o, _, _, e, _⟩ := x; exact Heap.lt_size e
  | set S n => obtain ⟨o, _, _, _, e, _⟩ := x; exact Heap.lt_size e
  | ins C dx fs => obtain ⟨_, _, _, e, _⟩ := x; exact Heap.lt_size e
  | own y => obtain ⟨_, e⟩ := x; exact Heap.lt_size e
  | xd fs => obtain ⟨_, ⟨_, _, _, e, _⟩, _⟩ := x; exact Heap.lt_size e
  | rng lo hi => obtain ⟨_, _, _, e⟩ := x; exact Heap.lt_size e
  | frz ob u => obtain ⟨e, _⟩ := x; exact Heap.lt_size e
  | tbl ps => exact Heap.lt_size (show h.get? a = some _ from x)
  | met f y => exact Heap.lt_size (show h.get? a = some _ from x)
  | ext φ => obtain ⟨_, ⟨_, e⟩, _⟩ := x; exact Heap.lt_size e
theorem Paired.mapP {α β : Type} {F G : α → β → Prop} : ∀ {l₁ : List α} {l₂ : List β}, Paired F l₁ l₂ → (∀ a b, F a b → G a b) → Paired G l₁ l₂
  | _, _, .nil, _ => .nil
  | _, _, .cons r t, f => .cons (f _ _ r) (Paired.mapP t f)
/-- what an object's description leans on: its own object, its own dict, the tuples -/
theorem ObjOk.stay (x : ObjOk P w H h a o) (k : ∀ b u, (b = a ∨ H b = some (.own a)) → h.get? b = some u → h'.get? b = some u)
    (ho : ∀ b, H b = some (.own a) → H' b = some (.own a)) (ht : ∀ b xs, H b = some (.tup xs) → H' b = some (.tup xs)) : ObjOk P w H' h' a o := by
  induction o with
  | lst xs => obtain ⟨z, its, n, r, e⟩ := x; exact ⟨z, its, n, r, k _ _ (.inl rfl) e⟩
  | tup xs => obtain ⟨z, its, r, ob, e, c⟩ := x; exact ⟨z, its, r, ob, k _ _ (.inl rfl) e, c⟩
  | dK kvs => obtain ⟨z, y, vs, r, ob, es, ep, e, c⟩ := x; exact ⟨z, y, vs, r, ob, es, ep, k _ _ (.inl rfl) e, c⟩
  | dT kvs =>
    obtain ⟨z, y, xs, r, ob, es, ep, e, c⟩ := x
    exact ⟨z, y, xs, Paired.mapP r fun p q z => ⟨z.1, ht _ _ z.2.1, z.2.2⟩, ob, es, ep, k _ _ (.inl rfl) e, c⟩
  | set S n => obtain ⟨ob, es, ep, t, e, c⟩ := x; exact ⟨ob, es, ep, t, k _ _ (.inl rfl) e, c⟩
  | ins C dx fs =>
    obtain ⟨d, z, ne, e, mA, ⟨od, es, ep, e2, c⟩, r⟩ := x
    exact ⟨ho _ d, z, ne, k _ _ (.inl rfl) e, mA, ⟨od, es, ep, k _ _ (.inr d) e2, c⟩, r⟩
  | own y => obtain ⟨ob, e⟩ := x; exact ⟨ob, k _ _ (.inl rfl) e⟩
  | xd fs => obtain ⟨mA, ⟨od, es, ep, e, c⟩, r⟩ := x; exact ⟨mA, ⟨od, es, ep, k _ _ (.inl rfl) e, c⟩, r⟩
  | rng lo hi => obtain ⟨t, u, v, e⟩ := x; exact ⟨t, u, v, k _ _ (.inl rfl) e⟩
  | frz ob u ih => obtain ⟨e, q⟩ := x; exact ⟨k _ _ (.inl rfl) e, ih q⟩
  | tbl ps =>
    have e : h.get? a = some { cls := .none, data := .fields ps } := x
    show h'.get? a = some { cls := .none, data := .fields ps }
    exact k a _ (.inl rfl) e
  | met f y =>
    have e : h.get? a = some (PySem.W.methodObj (.ref f) (.ref y)) := x
    show h'.get? a = some (PySem.W.methodObj (.ref f) (.ref y))
    exact k a _ (.inl rfl) e
  | ext φ => obtain ⟨p, ⟨o, e⟩, st⟩ := x; exact ⟨st _ _ p fun o q => k _ _ (.inl rfl) q, ⟨o, k _ _ (.inl rfl) e⟩, st⟩
theorem HOk.lt (x : HOk P w H h) (e : H a = some o) : a < h.objs.size := (x a o e).lt
theorem HOk.fresh (x : HOk P w H h) (e : h.objs.size ≤ a) : H a = none := by
  cases q : H a with
  | none => rfl
  | some u => exact absurd (Nat.lt_of_lt_of_le (x.lt q) e) (Nat.lt_irrefl _)
/-- every object of the heap is kept -/
theorem HOk.kept (x : HOk P w H h) (k : ∀ b u, h.get? b = some u → h'.get? b = some u) : HOk P w H h' := fun a o e =>
  (x a o e).stay (fun b u _ q => k b u q) (fun _ q => q) fun _ _ q => q
/-- a new object is laid and tracked -/
theorem HOk.laid (x : HOk P w H h) (k : ∀ b u, h.get? b = some u → h'.get? b = some u) (hp : h.objs.size ≤ a) (new : ObjOk P w (upd H a o) h' a o) : HOk P w (upd H a o) h' := fun b u e => by
  have hn := x.fresh hp
  by_cases hb : b = a
  · subst hb; rw [upd_same] at e; cases e; exact new
  · rw [upd_ne hb] at e
    exact (x b u e).stay (fun c v _ q => k c v q) (fun c q => by rw [upd_ne (ne_of_none q hn)]; exact q) fun c xs q => by rw [upd_ne (ne_of_none q hn)]; exact q
end
/-- what may be read as u: it is u, or a known u -/
def Rd (H : Hp) (a : Addr) (u : HO) : Prop := H a = some u ∨ ∃ o, H a = some (.frz o u)
theorem Rd.ok {P : Program} {w : World} {H : Hp} {h : Heap} {a : Addr} {u : HO} (r : Rd H a u) (x : HOk P w H h) : ObjOk P w H h a u := by
  rcases r with r | ⟨o, r⟩
  · exact x a u r
  · obtain ⟨_, q⟩ := x a _ r
    exact q
/-- what may be written -/
def Mut : Option HO → Prop
  | some (.lst _) => True
  | some (.dK _) => True
  | some (.dT _) => True
  | some (.set _ _) => True
  | some (.ins _ _ _) => True
  | some (.ext _) => True
  | _ => False
section
variable {P : Program} {w : World} {H : Hp} {h h' : Heap} {x e : Addr} {o' : HO}
/-- the object at e is changed: x itself, or the dict of the instance x -/
theorem HOk.write (ok : HOk P w H h) (mu : Mut (H x)) (he : e = x ∨ H e = some (.own x)) (k : ∀ b u, b ≠ e → h.get? b = some u → h'.get? b = some u) (heo : ∃ u, h'.get? e = some u)
    (new : ObjOk P w (upd H x o') h' x o') : HOk P w (upd H x o') h' := fun b u q => by
  have nown : ∀ c y, H c = some (.own y) → c ≠ x := fun c y r z => by subst z; rw [r] at mu; exact mu
  have ntup : ∀ c xs, H c = some (.tup xs) → c ≠ x := fun c xs r z => by subst z; rw [r] at mu; exact mu
  by_cases hb : b = x
  · subst hb; rw [upd_same] at q; cases q; exact new
  · rw [upd_ne hb] at q
    by_cases hbe : b = e
    · have q' : H b = some (.own x) := by
        rcases he with z | z
        · exact absurd (hbe.trans z) hb
        · rw [hbe]; exact z
      rw [q] at q'; cases q'
      obtain ⟨v, hv⟩ := heo
      exact ⟨v, by rw [hbe]; exact hv⟩
    · refine (ok b u q).stay (fun c v hc r => k c v ?_ r) (fun c r => by rw [upd_ne (nown c b r)]; exact r) fun c xs r => by rw [upd_ne (ntup c xs r)]; exact r
      rcases hc with rfl | hc
      · exact hbe
      · rintro rfl
        rcases he with z | z
        · exact nown c b hc z
        · rw [hc] at z; cases z; exact hb rfl
end
structure Un (fs ex : List Addr) (H H' : Hp) (h h' : Heap) : Prop where
  keep : ∀ b o, h.get? b = some o → H b = none → b ∉ fs → b ∉ ex → h'.get? b = some o
  slot : ∀ b o, h.get? b = some o → H b = none → b ∈ fs → b ∉ ex → ∃ sl, h'.get? b = some { o with slots := sl }
  free : ∀ b o, h.get? b = some o → H b = none → b ∉ ex → H' b = none
  there : ∀ b o, h.get? b = some o → b ∉ ex → ∃ o', h'.get? b = some o'
  tups : ∀ b xs, H b = some (.tup xs) → H' b = some (.tup xs)
  frzs : ∀ b o u, H b = some (.frz o u) → H' b = some (.frz o u)
  tbls : ∀ b ps, H b = some (.tbl ps) → ∃ more, H' b = some (.tbl (ps ++ more))
section
variable {fs fs' ex ex' : List Addr} {H H1 H2 : Hp} {h h1 h2 h' : Heap} {a x e : Addr} {o : HO}
theorem Un.any (u : Un fs ex H H1 h h1) {b : Addr} {ob : Obj} (q : h.get? b = some ob) (n : H b = none) (hx : b ∉ ex) : ∃ sl, h1.get? b = some { ob with slots := sl } := by
  by_cases hb : b ∈ fs
  · exact u.slot b ob q n hb hx
  · exact ⟨ob.slots, u.keep b ob q n hb hx⟩
theorem Un.kept (k : ∀ b u, h.get? b = some u → h'.get? b = some u) : Un fs ex H H h h' :=
  ⟨fun b ob q _ _ _ => k b ob q, fun b ob q _ _ _ => ⟨ob.slots, k b ob q⟩, fun _ _ _ n _ => n, fun b ob q _ => ⟨ob, k b ob q⟩, fun _ _ q => q, fun _ _ _ q => q, fun _ ps q => ⟨#[], by rw [q]; simp⟩⟩
theorem Un.refl : Un fs ex H H h h := Un.kept fun _ _ q => q
theorem Un.laid (k : ∀ b u, h.get? b = some u → h'.get? b = some u) (hp : h.objs.size ≤ a) (hn : H a = none) : Un fs ex H (upd H a o) h h' where
  keep := fun b u q _ _ _ => k b u q
  slot := fun b u q _ _ _ => ⟨u.slots, k b u q⟩
  free := fun b u q n _ => by rw [upd_ne (Nat.ne_of_lt (Nat.lt_of_lt_of_le (Heap.lt_size q) hp))]; exact n
  there := fun b u q _ => ⟨u, k b u q⟩
  tups := fun b xs q => by rw [upd_ne (ne_of_none q hn)]; exact q
  frzs := fun b u xs q => by rw [upd_ne (ne_of_none q hn)]; exact q
  tbls := fun b ps q => ⟨#[], by rw [upd_ne (ne_of_none q hn), q]; simp⟩
theorem Un.write (mu : Mut (H x)) (he : e = x ∨ H e = some (.own x)) (k : ∀ b u, b ≠ e → h.get? b = some u → h'.get? b = some u) (heo : ∃ u, h'.get? e = some u) : Un fs ex H (upd H x o) h h' := by
  have hx : ∀ b, H b = none → b ≠ x := fun b n z => by subst z; rw [n] at mu; exact mu
  have hb : ∀ b, H b = none → b ≠ e := fun b n z => by
    subst z
    rcases he with r | r
    · exact hx b n r
    · rw [n] at r; cases r
  have hm : ∀ b u, H b = some u → ¬ Mut (some u) → b ≠ x := fun b u q nm z => by subst z; rw [q] at mu; exact nm mu
  refine ⟨fun b u q n _ _ => k b u (hb b n) q, fun b u q n _ _ => ⟨u.slots, k b u (hb b n) q⟩, fun b u q n _ => by rw [upd_ne (hx b n)]; exact n, fun b u q _ => ?_,
    fun b xs q => by rw [upd_ne (hm b _ q fun z => z)]; exact q, fun b u xs q => by rw [upd_ne (hm b _ q fun z => z)]; exact q, fun b ps q => ⟨#[], by rw [upd_ne (hm b _ q fun z => z), q]; simp⟩⟩
  by_cases hbe : b = e
  · subst hbe; exact heo
  · exact ⟨u, k b u hbe q⟩
end
def trk (h : Heap) (H : Hp) : List Addr := (List.range h.objs.size).filter fun a => (H a).isSome
def hidT (h : Heap) (H : Hp) : Heap := PySem.W.hideAll h (trk h H)
theorem hidT_size (h : Heap) (H : Hp) : (hidT h H).objs.size = h.objs.size := PySem.W.hideAll_size _ _
theorem hidT_get {h : Heap} {H : Hp} {b : Addr} {o : Obj} (e : h.get? b = some o) (n : H b = none) : (hidT h H).get? b = some o :=
  PySem.W.hideAll_get _ e fun hm => by
    have q : (H b).isSome = true := (List.mem_filter.mp hm).2
    rw [n] at q; simp at q
theorem of_hidT {h : Heap} {H : Hp} {b : Addr} {o : Obj} (e : (hidT h H).get? b = some o) : h.get? b = some o ∧ H b = none := by
  have e' : h.get? b = some o := PySem.W.of_hideAll (trk h H) e
  refine ⟨e', ?_⟩
  cases q : H b with
  | none => rfl
  | some x =>
    have hm : b ∈ trk h H := List.mem_filter.mpr ⟨List.mem_range.mpr (Heap.lt_size e'), by simp [q]⟩
    have z : (hidT h H).get? b = none := PySem.W.hideAll_none (trk h H) hm
    rw [z] at e; cases e
end L2
namespace L2
open PySem PySem.Spec PyProof.Rows
/-- the module's facts, over the base: the heap at the law's entry without what is tracked there -/
structure Mod (K : PySem.W.Frag) (mg : Str → Option Value) (base : Heap) : Prop where
  kin : K.In base
  glob : base.Ns mainGlobals mg
  blt : ∃ mb, base.Ns builtinsNs mb ∧ ∀ x : Str, x ≠ "__name__" → mb x = bootBuiltins x
  nolimit : base.NoLimit
/-- the context: a def's body (or a comprehension's block) running. base: fixed through the whole law; s₀, H₀: the entry; outer: the frames whose slots others may change (a def's callers); stack: all frames that run;
   ex: iterators that were made ahead of the entry and are walked here (a comprehension's); fn: the names whose cells were made at the entry (a def: all; a comprehension's block: its own); calm: not within an except suite; pn: pins that every state bears; xe: what is wanted of an exception that leaves the code -/
structure Cx where
  prog : Program
  w : World
  K : PySem.W.Frag
  mg : Str → Option Value
  base : Heap
  A : Around
  N : List Str
  s₀ : Shared
  H₀ : Hp
  env : Env
  outer : List Env
  stack : List Env
  ex : List Addr
  fn : Str → Bool
  calm : Bool
  pn : List (Addr × Obj)
  xe : Value → Shared → Prop
/-- the callers' frames -/
def frs (l : List Env) : List Addr := l.filterMap (·.frame)
abbrev Cx.fs (X : Cx) : List Addr := frs X.outer
def Vis (sc : Scope) (x : Str) : Prop := sc.names.lookup x = some .local ∨ sc.names.lookup x = some .cell ∨ sc.names.lookup x = some .free
def Loc (sc : Scope) (x : Str) : Prop := sc.names.lookup x = some .local ∨ sc.names.lookup x = some .cell
def Look (env : Env) (h : Heap) (m : Str → Option Value) (x : Str) (u : Value) : Prop :=
  (env.kindOf x = some .local ∧ m x = some u) ∨ ((env.kindOf x = some .cell ∨ env.kindOf x = some .free) ∧ ∃ c, env.cells.lookup x = some c ∧ h.IsCell c (some u))
structure Cx.Ok (X : Cx) : Prop where
  mod : Mod X.K X.mg X.base
  kind : X.env.scope.kind = .function
  glob : X.env.globals = mainGlobals
  blt : X.env.builtins = builtinsNs
  above : X.s₀.heap.objs.size ≤ X.env.locals
  inj : ∀ x y c, X.env.cells.lookup x = some c → X.env.cells.lookup y = some c → x = y
  has : ∀ x, (X.env.kindOf x = some .cell ∨ X.env.kindOf x = some .free) → ∃ c, X.env.cells.lookup x = some c
  cab : ∀ x c, X.fn x = true → X.env.cells.lookup x = some c → X.s₀.heap.objs.size ≤ c
  hd : X.calm = true → X.A.handled = none
  frames : X.A.frames = some X.stack
  stk : X.stack = X.outer ∨ (X.stack = X.env :: X.outer ∧ X.env.frame = some X.env.locals)
  exf : ∀ b ∈ X.ex, b ≠ X.env.locals ∧ ∀ x c, X.env.cells.lookup x = some c → c ≠ b
  bs : ∀ b o, X.base.get? b = some o → X.s₀.heap.get? b = some o ∧ X.H₀ b = none
  bsz : X.base.objs.size ≤ X.s₀.heap.objs.size
  noex : ∀ b o, X.base.get? b = some o → b ∉ X.ex
  exfs : ∀ b ∈ X.ex, b ∉ X.fs
  funs : X.s₀.heap.FunFrames X.base X.outer
  frf : ∀ b ∈ X.fs, X.H₀ b = none
structure Inv (X : Cx) (pins : List (Addr × Obj)) (σ : List (Option V)) (H : Hp) (s : Shared) : Prop where
  ok : X.Ok
  os : s.os = X.s₀.os
  bare : AllBare s.gens
  base : Un X.fs X.ex X.H₀ H X.s₀.heap s.heap
  loc : ∃ m, s.heap.Ns X.env.locals m ∧ ∀ (i : Nat) (x : Str) (v : V), X.N[i]? = some x → σ[i]? = some (some v) → Vis X.env.scope x → ∃ u, RelV v u ∧ Look X.env s.heap m x u
  cell : ∀ x c, X.env.cells.lookup x = some c → ∃ v, s.heap.IsCell c v
  free : H X.env.locals = none
  freeC : ∀ x c, X.env.cells.lookup x = some c → H c = none
  pin : ∀ p ∈ X.pn ++ pins, s.heap.get? p.1 = some p.2 ∧ H p.1 = none ∧ p.1 ≠ X.env.locals ∧ p.1 ∉ X.fs ∧ ∀ v, p.2.data ≠ .cell v
  hok : HOk X.prog X.w H s.heap
  len : σ.length = X.N.length
section
variable {X : Cx} {pins : List (Addr × Obj)} {σ : List (Option V)} {H H' : Hp} {s : Shared} {h' : Heap}
theorem Cx.Ok.nofr (ok : X.Ok) {b : Addr} {o : Obj} (e : X.base.get? b = some o) : b ∉ X.fs := fun hb => by
  have := (ok.funs.mem hb).1
  rw [e] at this; cases this
theorem Inv.bs (I : Inv X pins σ H s) : ∀ b o, X.base.get? b = some o → s.heap.get? b = some o ∧ H b = none := fun b o e =>
  ⟨I.base.keep b o (I.ok.bs b o e).1 (I.ok.bs b o e).2 (I.ok.nofr e) (I.ok.noex b o e), I.base.free b o (I.ok.bs b o e).1 (I.ok.bs b o e).2 (I.ok.noex b o e)⟩
theorem Inv.bk (I : Inv X pins σ H s) : ∀ b o, X.base.get? b = some o → s.heap.get? b = some o := fun b o e => (I.bs b o e).1
theorem Inv.mod (I : Inv X pins σ H s) : Mod X.K X.mg X.base := I.ok.mod
theorem Inv.kIn (I : Inv X pins σ H s) : X.K.In s.heap := I.ok.mod.kin.keeps I.bk
theorem Inv.lt (I : Inv X pins σ H s) : X.env.locals < s.heap.objs.size := let ⟨_, hn, _⟩ := I.loc; hn.lt
theorem Inv.sz (I : Inv X pins σ H s) : X.s₀.heap.objs.size ≤ s.heap.objs.size := Nat.le_trans I.ok.above (Nat.le_of_lt I.lt)
theorem Inv.nofs (I : Inv X pins σ H s) {a : Addr} (h : s.heap.objs.size ≤ a) : a ∉ X.fs := fun hb => by
  obtain ⟨_, o, ho, _⟩ := I.ok.funs.mem hb
  exact absurd (Nat.lt_of_lt_of_le (Heap.lt_size ho) (Nat.le_trans I.sz h)) (Nat.lt_irrefl _)
theorem Inv.cne (I : Inv X pins σ H s) : ∀ x c, X.env.cells.lookup x = some c → c ≠ X.env.locals := fun x c e z => by
  obtain ⟨v, o, ho, hd⟩ := I.cell x c e
  obtain ⟨m, ⟨o', es, ep, ho', hd', _⟩, _⟩ := I.loc
  rw [z, ho'] at ho; cases ho; rw [hd'] at hd; cases hd
theorem Inv.funs (I : Inv X pins σ H s) : s.heap.FunFrames X.base X.outer := by
  have all : ∀ (l : List Env), (∀ b ∈ frs l, b ∈ X.fs) → X.s₀.heap.FunFrames X.base l → s.heap.FunFrames X.base l := by
    intro l
    induction l with
    | nil => intro _ _; trivial
    | cons env r ih =>
      intro hs hl
      obtain ⟨hk, ⟨L, o, hf, hn, ho, hd⟩, hr⟩ := hl
      have hL : L ∈ X.fs := hs L (by unfold frs; rw [List.filterMap_cons, hf]; exact List.mem_cons_self)
      obtain ⟨sl, e⟩ := I.base.slot L o ho (I.ok.frf L hL) hL fun z => I.ok.exfs L z hL
      exact ⟨hk, ⟨L, _, hf, hn, e, hd⟩, ih (fun b hb => hs b (by unfold frs; rw [List.filterMap_cons, hf]; exact List.mem_cons_of_mem _ hb)) hr⟩
  exact all X.outer (fun _ hb => hb) I.ok.funs
/-- the frames that run, for a call -/
theorem Inv.stack (I : Inv X pins σ H s) : s.heap.FunFrames X.base X.stack := by
  rcases I.ok.stk with e | ⟨e, hf⟩
  · rw [e]; exact I.funs
  · rw [e]
    obtain ⟨m, hn, _⟩ := I.loc
    refine .cons (by rw [I.ok.kind]; decide) hf hn ?_ I.funs
    exact Heap.get?_none_of_le (Nat.le_trans I.ok.bsz I.ok.above)
theorem Inv.stkSub (I : Inv X pins σ H s) : ∀ b ∈ frs X.stack, b ∈ X.env.locals :: X.fs := fun b hb => by
  rcases I.ok.stk with e | ⟨e, hf⟩
  · rw [e] at hb; exact List.mem_cons_of_mem _ hb
  · rw [e] at hb
    unfold frs at hb
    rw [List.filterMap_cons, hf] at hb
    exact hb
theorem Inv.stkFree (I : Inv X pins σ H s) : ∀ b ∈ frs X.stack, H b = none := fun b hb => by
  rcases List.mem_cons.mp (I.stkSub b hb) with e | hb
  · rw [e]; exact I.free
  · obtain ⟨_, o, ho, _⟩ := I.ok.funs.mem hb
    exact I.base.free b o ho (I.ok.frf b hb) fun z => I.ok.exfs b z hb
/-- THE STEP: the untracked objects but the frame and the records at ch are kept (the callers' frames up to slots), the frame's map is kept, the new abstract heap is held -/
theorem Inv.step {g' : Array GenState} {t' : Nat} {d' : Drawn} {ch : List Addr} (I : Inv X pins σ H s)
    (hch : ∀ b ∈ ch, (b ∈ X.ex ∨ X.s₀.heap.objs.size ≤ b) ∧ b ≠ X.env.locals ∧ (∀ x c, X.env.cells.lookup x = some c → c ≠ b) ∧ ∀ p ∈ X.pn ++ pins, p.1 ≠ b)
    (keep : ∀ b o, b ≠ X.env.locals → b ∉ X.fs → b ∉ ch → s.heap.get? b = some o → H b = none → h'.get? b = some o)
    (slot : ∀ b o, b ≠ X.env.locals → b ∈ X.fs → b ∉ ch → s.heap.get? b = some o → H b = none → ∃ sl, h'.get? b = some { o with slots := sl }) (free : ∀ b o, b ∉ ch → s.heap.get? b = some o → H b = none → H' b = none)
    (there : ∀ b o, b ∉ ch → s.heap.get? b = some o → ∃ o', h'.get? b = some o')
    (tups : ∀ b xs, H b = some (.tup xs) → H' b = some (.tup xs)) (frzs : ∀ b o u, H b = some (.frz o u) → H' b = some (.frz o u)) (tbls : ∀ b ps, H b = some (.tbl ps) → ∃ more, H' b = some (.tbl (ps ++ more)))
    (ns : ∀ m, s.heap.Ns X.env.locals m → h'.Ns X.env.locals m) (hok : HOk X.prog X.w H' h') (hg : AllBare g') :
    Inv X pins σ H' { s with heap := h', gens := g', drawn := d', toks := t' } := by
  have neL : ∀ b o, X.s₀.heap.get? b = some o → b ≠ X.env.locals := fun b o e => Nat.ne_of_lt (Nat.lt_of_lt_of_le (Heap.lt_size e) I.ok.above)
  have neC : ∀ b o, X.s₀.heap.get? b = some o → b ∉ X.ex → b ∉ ch := fun b o e hx hb => by
    rcases (hch b hb).1 with z | z
    · exact hx z
    · exact absurd (Nat.lt_of_lt_of_le (Heap.lt_size e) z) (Nat.lt_irrefl _)
  have cellK : ∀ x c, X.env.cells.lookup x = some c → ∀ v, s.heap.IsCell c v → h'.IsCell c v := fun x c e v ⟨o, ho, hd⟩ => by
    have nch : c ∉ ch := fun z => (hch c z).2.2.1 x c e rfl
    by_cases hc : c ∈ X.fs
    · obtain ⟨sl, q⟩ := slot c o (I.cne x c e) hc nch ho (I.freeC x c e)
      exact ⟨_, q, hd⟩
    · exact ⟨o, keep c o (I.cne x c e) hc nch ho (I.freeC x c e), hd⟩
  refine ⟨I.ok, I.os, hg, ⟨fun b o e n hb hx => ?_, fun b o e n hb hx => ?_, fun b o e n hx => ?_, fun b o e hx => ?_, fun b xs e => tups b xs (I.base.tups b xs e), fun b o xs e => frzs b o xs (I.base.frzs b o xs e), fun b ps e => ?_⟩, ?_, fun x c e => ?_, ?_, fun x c e => ?_, fun p hp => ?_, hok, I.len⟩
  · exact keep b o (neL b o e) hb (neC b o e hx) (I.base.keep b o e n hb hx) (I.base.free b o e n hx)
  · obtain ⟨sl, e1⟩ := I.base.slot b o e n hb hx
    obtain ⟨sl', e2⟩ := slot b _ (neL b o e) hb (neC b o e hx) e1 (I.base.free b o e n hx)
    exact ⟨sl', e2⟩
  · obtain ⟨o', e1⟩ := I.base.there b o e hx
    exact free b o' (neC b o e hx) e1 (I.base.free b o e n hx)
  · obtain ⟨o', e1⟩ := I.base.there b o e hx
    exact there b o' (neC b o e hx) e1
  · obtain ⟨m1, e1⟩ := I.base.tbls b ps e
    obtain ⟨m2, e2⟩ := tbls b _ e1
    exact ⟨m1 ++ m2, by rw [e2, Array.append_assoc]⟩
  · obtain ⟨m, hn, hl⟩ := I.loc
    refine ⟨m, ns m hn, fun i x v e1 e2 e3 => ?_⟩
    obtain ⟨u, r, l⟩ := hl i x v e1 e2 e3
    refine ⟨u, r, ?_⟩
    rcases l with l | ⟨k, c, e, z⟩
    · exact .inl l
    · exact .inr ⟨k, c, e, cellK x c e _ z⟩
  · obtain ⟨v, z⟩ := I.cell x c e
    exact ⟨v, cellK x c e v z⟩
  · obtain ⟨m, ⟨o, _, _, ho, _⟩, _⟩ := I.loc
    exact free _ o (fun z => (hch _ z).2.1 rfl) ho I.free
  · obtain ⟨v, o, ho, hd⟩ := I.cell x c e
    exact free c o (fun z => (hch c z).2.2.1 x c e rfl) ho (I.freeC x c e)
  · obtain ⟨e, n, ne, nf, d⟩ := I.pin p hp
    have nch : p.1 ∉ ch := fun z => (hch p.1 z).2.2.2 p hp rfl
    exact ⟨keep p.1 p.2 ne nf nch e n, free p.1 p.2 nch e n, ne, nf, d⟩
/-- .. where the frame's own object is kept too -/
theorem Inv.un {t' : Nat} (I : Inv X pins σ H s) (u : Un X.fs [] H H' s.heap h') (hok : HOk X.prog X.w H' h') : Inv X pins σ H' { s with heap := h', toks := t' } := by
  obtain ⟨m, ⟨o, es, ep, ho, r⟩, _⟩ := id I.loc
  obtain ⟨sl, hL⟩ := u.any ho I.free (by simp)
  exact I.step (g' := s.gens) (d' := s.drawn) (ch := []) (fun _ z => nomatch z) (fun b o _ hb _ e n => u.keep b o e n hb (by simp)) (fun b o _ hb _ e n => u.slot b o e n hb (by simp)) (fun b o _ e n => u.free b o e n (by simp)) (fun b o _ e => u.there b o e (by simp)) u.tups u.frzs u.tbls (fun m' hm => by
    obtain ⟨o', es', ep', ho', r'⟩ := hm
    rw [ho] at ho'; cases ho'
    exact ⟨_, es', ep', hL, r'⟩) hok I.bare
/-- behind a call (or a comprehension's block): the slots of this frame may have changed too, the records at ch may have turned -/
theorem Inv.call {g' : Array GenState} {t' : Nat} {d' : Drawn} {ch : List Addr} (I : Inv X pins σ H s) (u : Un (frs X.stack) ch H H' s.heap h') (hok : HOk X.prog X.w H' h') (hg : AllBare g')
    (hch : ∀ b ∈ ch, (b ∈ X.ex ∨ X.s₀.heap.objs.size ≤ b) ∧ b ≠ X.env.locals ∧ (∀ x c, X.env.cells.lookup x = some c → c ≠ b) ∧ ∀ p ∈ X.pn ++ pins, p.1 ≠ b) :
    Inv X pins σ H' { s with heap := h', gens := g', drawn := d', toks := t' } := by
  obtain ⟨m, ⟨o, es, ep, ho, r⟩, _⟩ := id I.loc
  obtain ⟨sl, hL⟩ := u.any ho I.free fun z => (hch _ z).2.1 rfl
  exact I.step (ch := ch) hch (fun b o hL hb hc e n => u.keep b o e n (fun z => (List.mem_cons.mp (I.stkSub b z)).elim hL hb) hc) (fun b o _ _ hc e n => u.any e n hc) (fun b o hc e n => u.free b o e n hc) (fun b o hc e => u.there b o e hc) u.tups u.frzs u.tbls (fun m' hm => by
    obtain ⟨o', es', ep', ho', r'⟩ := hm
    rw [ho] at ho'; cases ho'
    exact ⟨_, es', ep', hL, r'⟩) hok hg
/-- an untracked record of ours (an iterator) has turned -/
theorem Inv.turned {t' : Nat} {it : Addr} (I : Inv X pins σ H s) (k : ∀ b o, b ≠ it → s.heap.get? b = some o → h'.get? b = some o) (hn : H it = none) (hL : it ≠ X.env.locals)
    (h1 : it ∈ X.ex ∨ X.s₀.heap.objs.size ≤ it) (h2 : ∀ x c, X.env.cells.lookup x = some c → c ≠ it) (h3 : ∀ p ∈ X.pn ++ pins, p.1 ≠ it) : Inv X pins σ H { s with heap := h', toks := t' } := by
  have nit : ∀ b u, H b = some u → b ≠ it := fun b u e z => by rw [z, hn] at e; cases e
  refine I.step (g' := s.gens) (d' := s.drawn) (ch := [it]) (fun b hb => ?_) (fun b o _ _ hc e _ => k b o (fun z => hc (by simp [z])) e) (fun b o _ _ hc e _ => ⟨o.slots, k b o (fun z => hc (by simp [z])) e⟩) (fun _ _ _ _ n => n)
    (fun b o hc e => ⟨o, k b o (fun z => hc (by simp [z])) e⟩) (fun _ _ e => e) (fun _ _ _ e => e) (fun b ps e => ⟨#[], by rw [e]; simp⟩) (fun m hm => ?_) (fun b u e => ?_) I.bare
  · have e : b = it := by simpa using hb
    subst e
    exact ⟨h1, hL, h2, h3⟩
  · obtain ⟨o, es, ep, ho, r⟩ := hm
    exact ⟨o, es, ep, k _ o (Ne.symm hL) ho, r⟩
  · refine (I.hok b u e).stay (fun c v hc q => k c v ?_ q) (fun _ q => q) fun _ _ q => q
    rcases hc with z | z
    · rw [z]; exact nit b u e
    · exact nit c _ z
theorem Inv.tok (I : Inv X pins σ H s) (t : Nat) : Inv X pins σ H { s with toks := t } := I.un (h' := s.heap) (t' := t) Un.refl I.hok
/-- all objects kept -/
theorem Inv.kept {t' : Nat} (I : Inv X pins σ H s) (k : ∀ b u, s.heap.get? b = some u → h'.get? b = some u) : Inv X pins σ H { s with heap := h', toks := t' } := I.un (Un.kept k) (I.hok.kept k)
/-- a new object laid and tracked -/
theorem Inv.laid {a : Addr} {o : HO} {t' : Nat} (I : Inv X pins σ H s) (k : ∀ b u, s.heap.get? b = some u → h'.get? b = some u) (hp : s.heap.objs.size ≤ a) (new : ObjOk X.prog X.w (upd H a o) h' a o) :
    Inv X pins σ (upd H a o) { s with heap := h', toks := t' } := I.un (Un.laid k hp (I.hok.fresh hp)) (I.hok.laid k hp new)
/-- an object written -/
theorem Inv.write {x e : Addr} {o : HO} {t' : Nat} (I : Inv X pins σ H s) (mu : Mut (H x)) (he : e = x ∨ H e = some (.own x)) (k : ∀ b u, b ≠ e → s.heap.get? b = some u → h'.get? b = some u) (heo : ∃ u, h'.get? e = some u)
    (new : ObjOk X.prog X.w (upd H x o) h' x o) : Inv X pins σ (upd H x o) { s with heap := h', toks := t' } := I.un (Un.write mu he k heo) (I.hok.write mu he k heo new)
theorem Inv.pins_of {pins' : List (Addr × Obj)} (I : Inv X pins σ H s) (h : ∀ p ∈ pins', s.heap.get? p.1 = some p.2 ∧ H p.1 = none ∧ p.1 ≠ X.env.locals ∧ p.1 ∉ X.fs ∧ ∀ v, p.2.data ≠ .cell v) : Inv X pins' σ H s :=
  ⟨I.ok, I.os, I.bare, I.base, I.loc, I.cell, I.free, I.freeC, fun p hp => (List.mem_append.mp hp).elim (fun z => I.pin p (List.mem_append_left _ z)) (h p), I.hok, I.len⟩
theorem nodup_ix {N : List Str} (hN : N.Nodup) {i j : Nat} {x : Str} (a : N[i]? = some x) (b : N[j]? = some x) : i = j := by
  obtain ⟨h1, e1⟩ := List.getElem?_eq_some_iff.mp a
  obtain ⟨h2, e2⟩ := List.getElem?_eq_some_iff.mp b
  exact (List.getElem_inj hN).mp (e1.trans e2.symm)
/-- a name is stored; what changed -/
theorem store_ok2 {M : Model} {A : Around} {E : Value → Shared → Prop} {i : Nat} {x : Str} {v : V} {u : Value} {Q : Unit → Shared → Prop} (I : Inv X pins σ H s) (hN : X.N.Nodup) (hi : X.N[i]? = some x) (hx : Loc X.env.scope x) (r : RelV v u)
    (h : ∀ s', Inv X pins (σ.set i (some v)) H s' → (∃ a, Heap.SameBut a s.heap s'.heap ∧ (a = X.env.locals ∨ X.env.cells.lookup x = some a)) → Q () s') (hf : X.fn x = true ∨ X.env.scope.names.lookup x = some .local := by first | exact .inl rfl | exact .inr rfl | assumption) : wpAny M A (storeName X.env x u) Q E s := by
  obtain ⟨m, hn, hl⟩ := id I.loc
  have hcls : (X.env.scope.kind == .class || (X.env.scope.kind == .module && X.env.locals != X.env.globals)) = false := by rw [I.ok.kind]; rfl
  have hiσ : i < σ.length := by rw [I.len]; exact (List.getElem?_eq_some_iff.mp hi).1
  have cne := I.cne
  have tracked : ∀ {a : Addr} {h' : Heap}, (∃ o, s.heap.get? a = some o ∧ H a = none) → Heap.SameBut a s.heap h' → HOk X.prog X.w H h' := fun {a h'} ha hs b ob e => by
    obtain ⟨_, _, hfree⟩ := ha
    refine (I.hok b ob e).stay (fun c w' hc q => (hs.2 c ?_).trans q) (fun _ q => q) fun _ _ q => q
    rintro rfl
    rcases hc with rfl | hc
    · rw [hfree] at e; cases e
    · rw [hfree] at hc; cases hc
  rcases hx with hk | hk
  · refine wpAny_storeName_local hk hn (fun h' hn' hs => ?_) hcls
    obtain ⟨oL, _, _, hoL, _⟩ := id hn
    refine h _ ⟨I.ok, I.os, I.bare, ⟨fun b o e n hb hx => ?_, fun b o e n hb hx => ?_, I.base.free, fun b o e hx => ?_, I.base.tups, I.base.frzs, I.base.tbls⟩, ⟨_, hn', fun j y v' e1 e2 e3 => ?_⟩, fun y c e => ?_, I.free, I.freeC, fun p hp => ?_, tracked ⟨oL, hoL, I.free⟩ hs, by simpa using I.len⟩ ⟨_, hs, .inl rfl⟩
    · exact (hs.2 b (Nat.ne_of_lt (Nat.lt_of_lt_of_le (Heap.lt_size e) I.ok.above))).trans (I.base.keep b o e n hb hx)
    · obtain ⟨sl, e1⟩ := I.base.slot b o e n hb hx
      exact ⟨sl, (hs.2 b (Nat.ne_of_lt (Nat.lt_of_lt_of_le (Heap.lt_size e) I.ok.above))).trans e1⟩
    · obtain ⟨o', e1⟩ := I.base.there b o e hx
      exact ⟨o', (hs.2 b (Nat.ne_of_lt (Nat.lt_of_lt_of_le (Heap.lt_size e) I.ok.above))).trans e1⟩
    · by_cases hj : j = i
      · subst hj
        rw [hi] at e1; cases e1
        rw [List.getElem?_set_self hiσ] at e2
        cases e2
        exact ⟨u, r, .inl ⟨hk, by simp⟩⟩
      · rw [List.getElem?_set_ne (Ne.symm hj)] at e2
        obtain ⟨u', r', q⟩ := hl j y v' e1 e2 e3
        refine ⟨u', r', ?_⟩
        rcases q with ⟨k, e⟩ | ⟨k, c, e, z⟩
        · refine .inl ⟨k, ?_⟩
          have : y ≠ x := fun e => hj (nodup_ix hN e1 (e ▸ hi))
          simp [this, e]
        · exact .inr ⟨k, c, e, z.sameBut hs (cne y c e)⟩
    · obtain ⟨w', z⟩ := I.cell y c e
      exact ⟨w', z.sameBut hs (cne y c e)⟩
    · obtain ⟨e, n, ne, nf, d⟩ := I.pin p hp
      exact ⟨(hs.2 p.1 ne).trans e, n, ne, nf, d⟩
  · have hfn : X.fn x = true := by
      rcases hf with z | z
      · exact z
      · rw [z] at hk; cases hk
    obtain ⟨c, hc⟩ := I.ok.has x (.inl hk)
    obtain ⟨w', z⟩ := I.cell x c hc
    refine wpAny_storeName_cell I.ok.kind hk hc z (fun h' hc' hs => ?_)
    obtain ⟨oc, hoc, hocd⟩ := id z
    refine h { s with heap := h' } ⟨I.ok, I.os, I.bare, ⟨fun b o e n hb hx => ?_, fun b o e n hb hx => ?_, I.base.free, fun b o e hx => ?_, I.base.tups, I.base.frzs, I.base.tbls⟩, ⟨m, hn.sameBut hs (Ne.symm (cne x c hc)), fun j y v' e1 e2 e3 => ?_⟩, fun y c' e => ?_, I.free, I.freeC, fun p hp => ?_, tracked ⟨oc, hoc, I.freeC x c hc⟩ hs, by simpa using I.len⟩ ⟨c, hs, .inr hc⟩
    · exact (hs.2 b (Nat.ne_of_lt (Nat.lt_of_lt_of_le (Heap.lt_size e) (I.ok.cab x c hfn hc)))).trans (I.base.keep b o e n hb hx)
    · obtain ⟨sl, e1⟩ := I.base.slot b o e n hb hx
      exact ⟨sl, (hs.2 b (Nat.ne_of_lt (Nat.lt_of_lt_of_le (Heap.lt_size e) (I.ok.cab x c hfn hc)))).trans e1⟩
    · obtain ⟨o', e1⟩ := I.base.there b o e hx
      exact ⟨o', (hs.2 b (Nat.ne_of_lt (Nat.lt_of_lt_of_le (Heap.lt_size e) (I.ok.cab x c hfn hc)))).trans e1⟩
    · by_cases hj : j = i
      · subst hj
        rw [hi] at e1; cases e1
        rw [List.getElem?_set_self hiσ] at e2
        cases e2
        exact ⟨u, r, .inr ⟨.inl hk, c, hc, hc'⟩⟩
      · rw [List.getElem?_set_ne (Ne.symm hj)] at e2
        obtain ⟨u', r', q⟩ := hl j y v' e1 e2 e3
        refine ⟨u', r', ?_⟩
        rcases q with q | ⟨k, c', e, z'⟩
        · exact .inl q
        · refine .inr ⟨k, c', e, z'.sameBut hs ?_⟩
          rintro rfl
          exact hj (nodup_ix hN e1 (I.ok.inj _ _ _ e hc ▸ hi))
    · by_cases hcc : c' = c
      · subst hcc; exact ⟨_, hc'⟩
      · obtain ⟨w2, z2⟩ := I.cell y c' e
        exact ⟨w2, z2.sameBut hs hcc⟩
    · obtain ⟨e, n, ne, nf, d⟩ := I.pin p hp
      refine ⟨(hs.2 p.1 ?_).trans e, n, ne, nf, d⟩
      intro q
      rw [q, hoc] at e
      have q' : oc = p.2 := Option.some.inj e
      exact d w' (by rw [← q']; exact hocd)
theorem store_ok {M : Model} {A : Around} {E : Value → Shared → Prop} {i : Nat} {x : Str} {v : V} {u : Value} {Q : Unit → Shared → Prop} (I : Inv X pins σ H s) (hN : X.N.Nodup) (hi : X.N[i]? = some x) (hx : Loc X.env.scope x) (r : RelV v u)
    (h : ∀ s', Inv X pins (σ.set i (some v)) H s' → Q () s') (hf : X.fn x = true ∨ X.env.scope.names.lookup x = some .local := by first | exact .inl rfl | exact .inr rfl | assumption) : wpAny M A (storeName X.env x u) Q E s :=
  store_ok2 I hN hi hx r (fun s' I' _ => h s' I') hf
/-- behind a call or a block, the state as it is -/
theorem Inv.call' {s' : Shared} {ch : List Addr} (I : Inv X pins σ H s) (ho : s'.os = s.os) (u : Un (frs X.stack) ch H H' s.heap s'.heap) (hok : HOk X.prog X.w H' s'.heap) (hg : AllBare s'.gens)
    (hch : ∀ b ∈ ch, (b ∈ X.ex ∨ X.s₀.heap.objs.size ≤ b) ∧ b ≠ X.env.locals ∧ (∀ x c, X.env.cells.lookup x = some c → c ≠ b) ∧ ∀ p ∈ X.pn ++ pins, p.1 ≠ b) : Inv X pins σ H' s' := by
  obtain ⟨h', g', d', t', o'⟩ := s'
  have e : o' = s.os := ho
  subst e
  exact I.call (g' := g') (t' := t') (d' := d') u hok hg hch
end
/-- an exception: its class, its own dict's address (where it has one), the abstract heap behind it -/
abbrev XK := Value → Option Addr → Hp → Prop
abbrev St := List (Option V)
abbrev VK := V → Hp → Prop
/-- an expression's reading; a test's; an argument list's -/
abbrev TE := St → Hp → VK → Prop
abbrev TT := St → Hp → (Bool → Hp → Prop) → Prop
abbrev TA := St → Hp → (List V → Hp → Prop) → Prop
/-- what is wanted behind a statement -/
structure Ends where
  nx : St → Hp → Prop
  rt : V → St → Hp → Prop
  bk : St → Hp → Prop := fun _ _ => False
  ct : St → Hp → Prop := fun _ _ => False
abbrev TS := Ends → St → Hp → Prop
def EP (X : Cx) (pins : List (Addr × Obj)) (σ : St) (Q : VK) (u : Value) (s' : Shared) : Prop := ∃ v H', Inv X pins σ H' s' ∧ RelV v u ∧ Q v H'
def TP (X : Cx) (pins : List (Addr × Obj)) (σ : St) (Q : Bool → Hp → Prop) (b : Bool) (s' : Shared) : Prop := ∃ H', Inv X pins σ H' s' ∧ Q b H'
def AP (X : Cx) (pins : List (Addr × Obj)) (σ : St) (Q : List V → Hp → Prop) (us : List Value) (s' : Shared) : Prop := ∃ vs H', Inv X pins σ H' s' ∧ Vals vs us ∧ Q vs H'
def SP (X : Cx) (pins : List (Addr × Obj)) (D : Ends) (f : Flow) (s' : Shared) : Prop :=
  match f with
  | .next => ∃ σ' H', Inv X pins σ' H' s' ∧ D.nx σ' H'
  | .brk => ∃ σ' H', Inv X pins σ' H' s' ∧ D.bk σ' H'
  | .cont => ∃ σ' H', Inv X pins σ' H' s' ∧ D.ct σ' H'
  | .ret u => ∃ v σ' H', Inv X pins σ' H' s' ∧ RelV v u ∧ D.rt v σ' H'
def PE (X : Cx) (e : Expr) (t : TE) : Prop :=
  ∀ (pins : List (Addr × Obj)) (s : Shared) (σ : St) (H : Hp) (Q : VK), Inv X pins σ H s → t σ H Q → wpAny (model X.prog X.w) X.A (eval e X.env) (EP X pins σ Q) X.xe s
def PT (X : Cx) (e : Expr) (t : TT) : Prop :=
  ∀ (pins : List (Addr × Obj)) (s : Shared) (σ : St) (H : Hp) (Q : Bool → Hp → Prop), Inv X pins σ H s → t σ H Q → wpAny (model X.prog X.w) X.A (isTrue e X.env (eval e X.env)) (TP X pins σ Q) X.xe s
/-- a test whatever its 'whole' is (and, or) -/
def PW (X : Cx) (e : Expr) (t : TT) : Prop :=
  ∀ (whole : Sem Value) (pins : List (Addr × Obj)) (s : Shared) (σ : St) (H : Hp) (Q : Bool → Hp → Prop), Inv X pins σ H s → t σ H Q → wpAny (model X.prog X.w) X.A (isTrue e X.env whole) (TP X pins σ Q) X.xe s
theorem PW.pt {X : Cx} {e : Expr} {t : TT} (h : PW X e t) : PT X e t := h _
/-- an argument list (no star), from the left -/
def PA (X : Cx) (es : List Expr) (t : TA) : Prop :=
  ∀ (pos : Pos) (pins : List (Addr × Obj)) (s : Shared) (σ : St) (H : Hp) (Q : List V → Hp → Prop), Inv X pins σ H s → t σ H Q → wpAny (model X.prog X.w) X.A (spliced (backTo pos (starEach es X.env))) (AP X pins σ Q) X.xe s
def PS (X : Cx) (st : Stmt) (t : TS) : Prop :=
  ∀ (pins : List (Addr × Obj)) (s : Shared) (σ : St) (H : Hp) (D : Ends), Inv X pins σ H s → t D σ H → wpAny (model X.prog X.w) X.A (exec st X.env) (SP X pins D) X.xe s
def PSs (X : Cx) (st : List Stmt) (t : TS) : Prop :=
  ∀ (pins : List (Addr × Obj)) (s : Shared) (σ : St) (H : Hp) (D : Ends), Inv X pins σ H s → t D σ H → wpAny (model X.prog X.w) X.A (execs st X.env) (SP X pins D) X.xe s
/-- weaken the end -/
theorem thn {α : Type} {t : Sem α} {Q Q' : α → Shared → Prop} {M : Model} {A : Around} {E : Value → Shared → Prop} {s : Shared} (h : wpAny M A t Q E s) (hQ : ∀ a s, Q a s → Q' a s) : wpAny M A t Q' E s := wpAny_mono h hQ fun _ _ x => x
end L2
namespace L2
open PySem PySem.Spec PyProof.Rows
section
variable {X : Cx}
/-- two expressions in a row -/
theorem bin {a b : Expr} {ta tb : TE} (ha : PE X a ta) (hb : PE X b tb) {pins : List (Addr × Obj)} {s : Shared} {σ : St} {H : Hp} {R : V → V → Hp → Prop} (I : Inv X pins σ H s) (h : ta σ H fun x H1 => tb σ H1 fun y H2 => R x y H2)
    {α : Type} {Q : α → Shared → Prop} {f : Value → Value → Sem α}
    (hf : ∀ v u s2 x y H2, Inv X pins σ H2 s2 → RelV x v → RelV y u → R x y H2 → wpAny (model X.prog X.w) X.A (f v u) Q X.xe s2) :
    wpAny (model X.prog X.w) X.A (eval a X.env) (fun v s₁ => wpAny (model X.prog X.w) X.A (eval b X.env) (fun u s₂ => wpAny (model X.prog X.w) X.A (f v u) Q X.xe s₂) X.xe s₁) X.xe s := by
  refine thn (ha pins s σ H _ I h) fun v s1 ⟨x, H1, I1, r1, q1⟩ => ?_
  refine thn (hb pins s1 σ H1 _ I1 q1) fun u s2 ⟨y, H2, I2, r2, q2⟩ => ?_
  exact hf v u s2 x y H2 I2 r1 r2 q2
def tVar (i : Nat) : TE := fun σ H Q => ∃ v, σ[i]? = some (some v) ∧ Q v H
def tC (v : V) : TE := fun _ H Q => Q v H
theorem pe_var {i : Nat} {x : Str} {pos : Pos} (hN : X.N[i]? = some x) (hv : Vis X.env.scope x) (hd : (x == ("__debug__" : Str)) = false := by decide) (hcd : (x == ("__classdict__" : Str)) = false := by decide) : PE X (.Name x pos) (tVar i) := by
  intro pins s σ H Q I h
  obtain ⟨v, e, h⟩ := h
  obtain ⟨m, hn, hl⟩ := I.loc
  obtain ⟨u, r, l⟩ := hl i x v hN e hv
  have fin : EP X pins σ Q u s := ⟨v, H, I, r, h⟩
  rcases l with ⟨hk, hm⟩ | ⟨hk, c, hc, hcell⟩
  · exact wpAny_Name (wpAny_loadName_local I.ok.kind hk hn hm fin) hd
  · rcases hk with hk | hk
    · exact wpAny_Name (wpAny_loadName_cell I.ok.kind hk hc hcell fin) hd
    · exact wpAny_Name (wpAny_loadName_free I.ok.kind hk hc hcell fin hcd) hd
theorem pe_int {i j pos} : PE X (.Constant (.int i) j pos) (tC (.int i)) := fun _ _ _ H _ I h => wpAny_Constant_int ⟨.int i, H, I.tok _, ⟨_, rfl⟩, h⟩
theorem pe_bl {b j pos} : PE X (.Constant (.bool b) j pos) (tC (.bl b)) := fun _ _ _ H _ I h => Constant_bool ⟨.bl b, H, I, rfl, h⟩
theorem pe_non {j pos} : PE X (.Constant .none j pos) (tC .non) := fun _ _ _ H _ I h => Constant_none ⟨.non, H, I, rfl, h⟩
theorem pe_str {x j pos} : PE X (.Constant (.str x) j pos) (tC (.str x)) := fun _ _ _ H _ I h => Calls.Constant_str ⟨.str x, H, I.tok _, ⟨_, rfl⟩, h⟩
/-- a global name of the def -/
def Gl (X : Cx) (x : Str) : Prop := X.env.kindOf x = some .globalImplicit
theorem ld_glob {E : Value → Shared → Prop} {pins : List (Addr × Obj)} {s : Shared} {σ : St} {H : Hp} {x : Str} {u : Value} {pos : Pos} {Q : Value → Shared → Prop} (I : Inv X pins σ H s) (hg : Gl X x) (hm : X.mg x = some u) (h : Q u s)
    (hd : (x == ("__debug__" : Str)) = false := by decide) : wpAny (model X.prog X.w) X.A (eval (.Name x pos) X.env) Q E s :=
  Calls.Name_function_global I.ok.kind hg (Calls.loadGlobal_global (by rw [I.ok.glob]; exact I.mod.glob.keeps I.bk) hm h) hd
theorem ld_blt {E : Value → Shared → Prop} {pins : List (Addr × Obj)} {s : Shared} {σ : St} {H : Hp} {x : Str} {u : Value} {pos : Pos} {Q : Value → Shared → Prop} (I : Inv X pins σ H s) (hg : Gl X x) (hm : X.mg x = none) (hv : bootBuiltins x = some u) (h : Q u s)
    (hn : x ≠ "__name__" := by decide) (hd : (x == ("__debug__" : Str)) = false := by decide) : wpAny (model X.prog X.w) X.A (eval (.Name x pos) X.env) Q E s := by
  obtain ⟨mb, h1, h2⟩ := I.mod.blt
  exact Calls.Name_function_global I.ok.kind hg (Calls.loadGlobal_builtin (by rw [I.ok.glob]; exact I.mod.glob.keeps I.bk) hm (by rw [I.ok.blt]; exact h1.keeps I.bk) ((h2 x hn).trans hv) h) hd
/-- a module's constant, a class, a function, as a value -/
theorem pe_glob {x : Str} {v : V} {u : Value} {pos : Pos} (hg : Gl X x) (hm : X.mg x = some u) (r : RelV v u) (hd : (x == ("__debug__" : Str)) = false := by decide) : PE X (.Name x pos) (tC v) :=
  fun _ _ _ H _ I h => ld_glob I hg hm ⟨v, H, I, r, h⟩ hd
theorem pe_bltn {x : Str} {v : V} {u : Value} {pos : Pos} (hg : Gl X x) (hm : X.mg x = none) (hv : bootBuiltins x = some u) (r : RelV v u) (hn : x ≠ "__name__" := by decide) (hd : (x == ("__debug__" : Str)) = false := by decide) : PE X (.Name x pos) (tC v) :=
  fun _ _ _ H _ I h => ld_blt I hg hm hv ⟨v, H, I, r, h⟩ hn hd
variable {a b : Expr} {ta tb : TE} {pos : Pos}
def PC (X : Cx) (op : CmpOp) (a b : Expr) (t : TE) : Prop :=
  ∀ (pins : List (Addr × Obj)) (s : Shared) (σ : St) (H : Hp) (Q : VK), Inv X pins σ H s → t σ H Q →
    wpAny (model X.prog X.w) X.A (eval a X.env) (fun v s₁ => wpAny (model X.prog X.w) X.A (eval b X.env) (fun u s₂ => wpAny (model X.prog X.w) X.A (compareOp op v u) (EP X pins σ Q) X.xe s₂) X.xe s₁) X.xe s
/-- a comparison as a value, as a test -/
def tB (t : TE) : TT := fun σ H Q => t σ H fun x H1 => ∃ c, x = .bl c ∧ Q c H1
theorem pt_cmp {op : CmpOp} {t : TE} (h : PC X op a b t) (h1 : behindInMarks op b = false := by first | exact nobehind _ (by decide) (by decide) | rfl) : PT X (.Compare a [op] [b] pos) (tB t) := by
  intro pins s σ H Q I hw
  refine wpAny_isTrue_Compare1 (thn (h pins s σ H _ I hw) fun v s1 h1 => thn h1 fun u s2 h2 => thn h2 fun c s3 ⟨x, H1, I1, r1, q1⟩ => ?_) h1
  obtain ⟨d, rfl, q⟩ := q1
  cases r1
  exact wpAny_truthy_bool ⟨H1, I1, q⟩
/-- an expression whose value is a bool, as a test -/
theorem pt_val {e : Expr} {t : TE} (h : PE X e t) (he : ∀ whole, isTrue e X.env whole = (do let v ← whole; standAt e.pos; holding [v] (truthy v)) := by intro _; rfl) : PT X e (tB t) := by
  intro pins s σ H Q I hw
  refine isTrue_plain (thn (h pins s σ H _ I hw) fun v s1 ⟨x, H1, I1, r1, q1⟩ => ?_) (he _)
  obtain ⟨d, rfl, q⟩ := q1
  cases r1
  exact wpAny_truthy_bool ⟨H1, I1, q⟩
variable {tA tB' : TT} {rest : List Expr}
def tOr (t u : TT) : TT := fun σ H Q => t σ H fun c H1 => if c = true then Q true H1 else u σ H1 Q
def tNot (t : TT) : TT := fun σ H Q => t σ H fun c H1 => Q (!c) H1
theorem pw_or1 (ha : PT X a tA) : PW X (.BoolOp .Or [a] pos) tA := by
  intro wh pins s σ H Q I h
  refine isTrue_or (thn (ha pins s σ H Q I h) fun c s1 e => ?_)
  cases c with
  | false => exact isTrue_or_nil e
  | true => exact e
theorem pw_or (ha : PT X a tA) (hb : PW X (.BoolOp .Or (b :: rest) pos) tB') : PW X (.BoolOp .Or (a :: b :: rest) pos) (tOr tA tB') := by
  intro wh pins s σ H Q I h
  refine isTrue_or (thn (ha pins s σ H _ I h) fun c s1 ⟨H1, I1, q1⟩ => ?_)
  cases c with
  | true => exact ⟨H1, I1, q1⟩
  | false => exact hb wh pins s1 σ H1 Q I1 q1
theorem pt_not (ha : PT X a tA) : PT X (.UnaryOp .Not a pos) (tNot tA) := by
  intro pins s σ H Q I h
  exact isTrue_not (ha pins s σ H (fun c H1 => Q (!c) H1) I h)
/-- .. as values (bools) -/
def tAndV (ta tb : TE) : TE := fun σ H Q => ta σ H fun x H1 => ∃ c, x = .bl c ∧ if c = true then tb σ H1 Q else Q (.bl false) H1
def tNotV (ta : TE) : TE := fun σ H Q => ta σ H fun x H1 => ∃ c, x = .bl c ∧ Q (.bl (!c)) H1
theorem pe_one {op} {t : TE} (h : PE X a t) : PE X (.BoolOp op [a] pos) t := fun pins s σ H Q I hw => BoolOp_one (h pins s σ H Q I hw)
theorem pe_and (ha : PE X a ta) (hb : PE X (.BoolOp .And (b :: rest) pos) tb) : PE X (.BoolOp .And (a :: b :: rest) pos) (tAndV ta tb) := by
  intro pins s σ H Q I h
  refine BoolOp_and (thn (ha pins s σ H _ I h) fun v s1 ⟨x, H1, I1, r1, q1⟩ => ?_)
  obtain ⟨c, rfl, q1⟩ := q1
  cases r1
  refine wpAny_truthy_bool ?_
  cases c with
  | true => exact hb pins s1 σ H1 Q I1 q1
  | false => exact ⟨.bl false, H1, I1, rfl, q1⟩
theorem pe_not (ha : PE X a ta) : PE X (.UnaryOp .Not a pos) (tNotV ta) := by
  intro pins s σ H Q I h
  refine UnaryOp_ (thn (ha pins s σ H _ I h) fun v s1 ⟨x, H1, I1, r1, q1⟩ => ?_)
  obtain ⟨c, rfl, q1⟩ := q1
  cases r1
  exact not_of (wpAny_truthy_bool ⟨.bl (!c), H1, I1, rfl, q1⟩)
end
end L2
namespace L2
open PySem PySem.Spec PyProof.Rows
def SqL (K : PySem.W.Frag) (H : Hp) (a : Addr) (xs : List V) : Prop :=
  Rd H a (.lst xs) ∨
    ∃ (o : Obj) (its : Array Value) (n : Nat), K.lookup a = some o ∧ o.cls = .type "list" ∧ o.dict = none ∧ o.data = .seq its n ∧ its.size ≤ sizeLine ∧ Vals xs its.toList
def SqT (K : PySem.W.Frag) (H : Hp) (a : Addr) (xs : List V) : Prop :=
  Rd H a (.tup xs) ∨
    ∃ (o : Obj) (its : Array Value) (n : Nat), K.lookup a = some o ∧ o.cls = .type "tuple" ∧ o.data = .seq its n ∧ its.size ≤ sizeLine ∧ Vals xs its.toList
def absV : Value → Option V
  | .none => some .non
  | .bool b => some (.bl b)
  | .int i _ => some (.int i)
  | .str x _ => some (.str x)
  | .bytes b _ => some (.byt b)
  | .float b _ => some (.flt b)
  | .ref a => some (.ref a)
  | .type n => some (.ty n)
  | _ => none
theorem RelV.abs {x : V} {u : Value} (r : RelV x u) : absV u = some x := by
  cases x with
  | non => cases r; rfl
  | bl _ => cases r; rfl
  | int _ => obtain ⟨t, rfl⟩ := r; rfl
  | str _ => obtain ⟨t, rfl⟩ := r; rfl
  | byt _ => obtain ⟨t, rfl⟩ := r; rfl
  | flt _ => obtain ⟨t, rfl⟩ := r; rfl
  | ref _ => cases r; rfl
  | ty _ => cases r; rfl
theorem RelV.inj {x y : V} {u : Value} (r : RelV x u) (q : RelV y u) : x = y := Option.some.inj (r.abs.symm.trans q.abs)
theorem Vals.inj : ∀ {xs ys : List V} {us : List Value}, Vals xs us → Vals ys us → xs = ys
  | _, _, _, .nil, .nil => rfl
  | _, _, _, .cons r t, .cons r' t' => by rw [r.inj r', Vals.inj t t']
section
variable {X : Cx} {pins : List (Addr × Obj)} {σ : St} {H : Hp} {s : Shared} {a : Addr} {xs ys : List V}
theorem SqL.of {K : PySem.W.Frag} (h : H a = some (.lst xs)) : SqL K H a xs := .inl (.inl h)
theorem SqT.of {K : PySem.W.Frag} (h : H a = some (.tup xs)) : SqT K H a xs := .inl (.inl h)
theorem Inv.list (I : Inv X pins σ H s) (h : SqL X.K H a xs) : ∃ its : List Value, Vals xs its ∧ PlainL s.heap a its.toArray ∧ xs.length ≤ sizeLine := by
  rcases h with h | ⟨o, its, n, hk, hc, hd, hs, hz, r⟩
  · obtain ⟨z, its, n, r, e⟩ := h.ok I.hok
    exact ⟨its, r, ⟨_, n, e, rfl, rfl, rfl⟩, z⟩
  · refine ⟨its.toList, r, ⟨o, n, I.kIn a o hk, hc, hd, by simpa using hs⟩, ?_⟩
    have e := r.length
    simp only [Array.length_toList] at e
    omega
theorem Inv.tuple (I : Inv X pins σ H s) (h : SqT X.K H a xs) : ∃ its : List Value, Vals xs its ∧ IsTup s.heap a its.toArray ∧ xs.length ≤ sizeLine := by
  rcases h with h | ⟨o, its, n, hk, hc, hs, hz, r⟩
  · obtain ⟨z, its, r, p⟩ := h.ok I.hok
    exact ⟨its, r, p, z⟩
  · refine ⟨its.toList, r, ⟨o, I.kIn a o hk, hc, n, by simpa using hs⟩, ?_⟩
    have e := r.length
    simp only [Array.length_toList] at e
    omega
theorem Inv.list_inj (I : Inv X pins σ H s) (h : SqL X.K H a xs) (h' : SqL X.K H a ys) : xs = ys := by
  obtain ⟨its, r, ⟨o, n, e, _, _, d⟩, _⟩ := I.list h
  obtain ⟨its', r', ⟨o', n', e', _, _, d'⟩, _⟩ := I.list h'
  rw [e] at e'; cases e'
  rw [d] at d'
  injection d' with d1 _
  have : its = its' := by simpa using congrArg Array.toList d1
  subst this
  exact r.inj r'
theorem Inv.tuple_inj (I : Inv X pins σ H s) (h : SqT X.K H a xs) (h' : SqT X.K H a ys) : xs = ys := by
  obtain ⟨its, r, ⟨o, e, _, n, d⟩, _⟩ := I.tuple h
  obtain ⟨its', r', ⟨o', e', _, n', d'⟩, _⟩ := I.tuple h'
  rw [e] at e'; cases e'
  rw [d] at d'
  injection d' with d1 _
  have : its = its' := by simpa using congrArg Array.toList d1
  subst this
  exact r.inj r'
end
abbrev Cx.wish (X : Cx) (E : Value → Shared → Prop) : Cx := { X with xe := E }
/-- no exception leaves -/
abbrev Cx.nox (X : Cx) : Cx := X.wish fun _ _ => False
theorem Cx.Ok.wish {X : Cx} (ok : X.Ok) (E : Value → Shared → Prop) : (X.wish E).Ok :=
  ⟨ok.mod, ok.kind, ok.glob, ok.blt, ok.above, ok.inj, ok.has, ok.cab, ok.hd, ok.frames, ok.stk, ok.exf, ok.bs, ok.bsz, ok.noex, ok.exfs, ok.funs, ok.frf⟩
theorem Cx.Ok.unwish {X : Cx} {E : Value → Shared → Prop} (ok : (X.wish E).Ok) : X.Ok :=
  ⟨ok.mod, ok.kind, ok.glob, ok.blt, ok.above, ok.inj, ok.has, ok.cab, ok.hd, ok.frames, ok.stk, ok.exf, ok.bs, ok.bsz, ok.noex, ok.exfs, ok.funs, ok.frf⟩
section
variable {X : Cx} {pins : List (Addr × Obj)} {σ : St} {H : Hp} {s : Shared} {E : Value → Shared → Prop}
theorem Inv.wish (I : Inv X pins σ H s) (E : Value → Shared → Prop) : Inv (X.wish E) pins σ H s := ⟨I.ok.wish E, I.os, I.bare, I.base, I.loc, I.cell, I.free, I.freeC, I.pin, I.hok, I.len⟩
theorem Inv.unwish (I : Inv (X.wish E) pins σ H s) : Inv X pins σ H s := ⟨I.ok.unwish, I.os, I.bare, I.base, I.loc, I.cell, I.free, I.freeC, I.pin, I.hok, I.len⟩
theorem SP.unwish {D : Ends} {f : Flow} {s' : Shared} (h : SP (X.wish E) pins D f s') : SP X pins D f s' := by
  cases f with
  | next => obtain ⟨σ', H', I, q⟩ := h; exact ⟨σ', H', I.unwish, q⟩
  | brk => obtain ⟨σ', H', I, q⟩ := h; exact ⟨σ', H', I.unwish, q⟩
  | cont => obtain ⟨σ', H', I, q⟩ := h; exact ⟨σ', H', I.unwish, q⟩
  | ret u => obtain ⟨v, σ', H', I, r, q⟩ := h; exact ⟨v, σ', H', I.unwish, r, q⟩
theorem PSs.nox {st : List Stmt} {t : TS} (h : PSs X.nox st t) : PSs X st t := fun pins s σ H D I hw =>
  wpAny_mono (h pins s σ H D (I.wish _) hw) (fun _ _ q => q.unwish) fun _ _ z => False.elim z
end
section
variable {X : Cx} {st : Stmt} {rest : List Stmt} {t u : TS} {e : Expr} {te : TE} {pos : Pos}
def tNext : TS := fun D σ H => D.nx σ H
def tSeq (t u : TS) : TS := fun D σ H => t { D with nx := u D } σ H
theorem pss_nil : PSs X [] tNext := fun _ _ σ H _ I h => wpAny_execs_nil ⟨σ, H, I, h⟩
theorem pss_cons (h1 : PS X st t) (h2 : PSs X rest u) : PSs X (st :: rest) (tSeq t u) := by
  intro pins s σ H D I h
  refine wpAny_execs_cons (thn (h1 pins s σ H { D with nx := u D } I h) fun f s1 q => ?_)
  cases f with
  | next =>
    obtain ⟨σ', H', I', q⟩ := q
    exact h2 pins s1 σ' H' D I' q
  | ret v => exact q
  | brk => exact q
  | cont => exact q
theorem pss_one (h1 : PS X st t) : PSs X [st] t := by
  intro pins s σ H D I h
  refine wpAny_execs_cons (thn (h1 pins s σ H D I h) fun f s1 q => ?_)
  cases f with
  | next => exact wpAny_execs_nil q
  | ret v => exact q
  | brk => exact q
  | cont => exact q
/-- in a def's body nothing is shown -/
theorem Inv.quiet {pins : List (Addr × Obj)} {σ : St} {H : Hp} {s : Shared} (I : Inv X pins σ H s) : interactive X.env = false := by simp [interactive, I.ok.kind]
/-- an expression whose value is dropped -/
def tDrop (te : TE) : TS := fun D σ H => te σ H fun _ H1 => D.nx σ H1
theorem ps_expr (he : PE X e te) (hs : swapsWith e none pos.line X.env = pure false := by rfl) : PS X (.Expr e pos) (tDrop te) := by
  intro pins s σ H D I h
  exact wpAny_Expr_any (thn (he pins s σ H _ I h) fun v s1 ⟨x, H1, I1, r1, q1⟩ => ⟨σ, H1, I1, q1⟩) I.quiet hs
def tRet (te : TE) : TS := fun D σ H => te σ H fun v H1 => D.rt v σ H1
theorem ps_ret (he : PE X e te) : PS X (.Return (some e) pos) (tRet te) := by
  intro pins s σ H D I h
  exact wpAny_Return_some (thn (he pins s σ H _ I h) fun v s1 ⟨x, H1, I1, r1, q1⟩ => ⟨x, σ, H1, I1, r1, q1⟩)
def tIfS (c : TT) (t u : TS) : TS := fun D σ H => c σ H fun b H1 => if b = true then t D σ H1 else u D σ H1
theorem ps_if {c : Expr} {a b : List Stmt} {tc : TT} (hc : PT X c tc) (ha : PSs X a t) (hb : PSs X b u) : PS X (.If c a b pos) (tIfS tc t u) := by
  intro pins s σ H D I h
  refine wpAny_If (thn (hc pins s σ H _ I h) fun d s1 ⟨H1, I1, q1⟩ => ?_)
  cases d with
  | true => exact ha pins s1 σ H1 D I1 q1
  | false => exact hb pins s1 σ H1 D I1 q1
/-- code that the proof never comes to -/
def tNever : TS := fun _ _ _ => False
theorem pss_never {sts : List Stmt} : PSs X sts tNever := fun _ _ _ _ _ _ h => h.elim
end
abbrev TG := V → St → Hp → (St → Hp → Prop) → Prop
abbrev TGs := List V → St → Hp → (St → Hp → Prop) → Prop
def PG (X : Cx) (target : Expr) (t : TG) : Prop :=
  ∀ (pins : List (Addr × Obj)) (s : Shared) (σ : St) (H : Hp) (v : V) (u : Value) (Q : St → Hp → Prop), Inv X pins σ H s → RelV v u → t v σ H Q →
    wpAny (model X.prog X.w) X.A (assign target X.env u) (fun _ s' => ∃ σ' H', Inv X pins σ' H' s' ∧ Q σ' H') X.xe s
/-- several targets, one after another -/
def PGs (X : Cx) (ts : List Expr) (t : TGs) : Prop :=
  ∀ (pins : List (Addr × Obj)) (s : Shared) (σ : St) (H : Hp) (vs : List V) (us : List Value) (Q : St → Hp → Prop), Inv X pins σ H s → Vals vs us → t vs σ H Q →
    wpAny (model X.prog X.w) X.A (assignInOrder ((assignEach ts X.env).map (·.2)) us) (fun _ s' => ∃ σ' H', Inv X pins σ' H' s' ∧ Q σ' H') X.xe s
section
variable {X : Cx} {pos : Pos}
def gName (i : Nat) : TG := fun v σ H Q => Q (σ.set i (some v)) H
theorem pg_name {i : Nat} {x : Str} (hN : X.N.Nodup) (hi : X.N[i]? = some x) (hx : Loc X.env.scope x) (hf : X.fn x = true ∨ X.env.scope.names.lookup x = some .local := by first | exact .inl rfl | exact .inr rfl | assumption) : PG X (.Name x pos) (gName i) := by
  intro pins s σ H v u Q I r h
  exact wpAny_assign_Name (store_ok I hN hi hx r (fun s' I' => ⟨_, H, I', h⟩) hf)
def gNil : TGs := fun vs σ H Q => vs = [] ∧ Q σ H
def gCons (t : TG) (u : TGs) : TGs := fun vs σ H Q => ∃ v r, vs = v :: r ∧ t v σ H fun σ' H' => u r σ' H' Q
theorem pgs_nil : PGs X [] gNil := by
  intro pins s σ H vs us Q I r h
  obtain ⟨e, h⟩ := h
  subst e
  cases r
  exact assignInOrder_nil ⟨σ, H, I, h⟩
theorem pgs_cons {e : Expr} {es : List Expr} {t : TG} {u : TGs} (h1 : PG X e t) (h2 : PGs X es u)
    (hs : (assignEach (e :: es) X.env).map (·.2) = assign e X.env :: (assignEach es X.env).map (·.2) := by rfl) : PGs X (e :: es) (gCons t u) := by
  intro pins s σ H vs us Q I r h
  obtain ⟨v, vr, e1, h⟩ := h
  subst e1
  cases r with
  | cons r rr =>
    rw [hs]
    refine assignInOrder_cons (thn (h1 pins s σ H _ _ _ I r h) fun _ s1 ⟨σ1, H1, I1, q1⟩ => ?_)
    exact h2 pins s1 σ1 H1 _ _ Q I1 rr q1
/-- (a, b, ..) = a tuple of that length -/
def gTup (K : PySem.W.Frag) (n : Nat) (t : TGs) : TG := fun v σ H Q => ∃ a xs, v = .ref a ∧ SqT K H a xs ∧ xs.length = n ∧ t xs σ H Q
theorem pg_tup {es : List Expr} {k : Nat} {t : TGs} {n : Nat} (hc : X.calm = true) (h : PGs X es t)
    (hn : (assignEach es X.env).length = n := by rfl) (hst : (assignEach es X.env).findIdx? (·.1) = none := by rfl) : PG X (.Tuple es k pos) (gTup X.K n t) := by
  intro pins s σ H v u Q I r hw
  obtain ⟨a, xs, e1, hq, hl, hw⟩ := hw
  subst e1
  cases r
  obtain ⟨its, rv, ht, hz⟩ := I.tuple hq
  refine assign_Tuple_tuple (I.ok.hd hc) ht (by simp [hn, ← hl, rv.length]) hst fun h' hx => ?_
  have I1 : Inv X pins σ H { s with heap := h' } := I.kept (t' := s.toks) fun b o e => hx b o (Nat.ne_of_lt (Heap.lt_size e)) e
  exact h pins _ σ H xs _ Q I1 (by simpa using rv) hw
/-- target = value -/
def tAsg (te : TE) (g : TG) : TS := fun D σ H => te σ H fun x H1 => g x σ H1 D.nx
theorem ps_asg {tg e : Expr} {te : TE} {g : TG} (he : PE X e te) (hg : PG X tg g) (hs : swapsWithSole [tg] e pos.line X.env = pure false := by rfl) (hw : swappedStores [tg] e X.env = pure none := by rfl)
    (h1 : (assignEach [tg] X.env).map (·.2) = [assign tg X.env] := by rfl) : PS X (.Assign [tg] e pos) (tAsg te g) := by
  intro pins s σ H D I h
  refine wpAny_Assign_stores (thn (he pins s σ H _ I h) fun v s1 ⟨x, H1, I1, r1, q1⟩ => ?_) hs hw
  rw [h1]
  exact thn (hg pins s1 σ H1 x v _ I1 r1 q1) fun _ s2 q => q
/-- name = value -/
theorem ps_set {i : Nat} {x : Str} {e : Expr} {te : TE} {pos' : Pos} (hN : X.N.Nodup) (hi : X.N[i]? = some x) (hx : Loc X.env.scope x) (he : PE X e te) (hs : swapsWith e (some (.Name x pos')) pos.line X.env = pure false := by rfl) (hf : X.fn x = true ∨ X.env.scope.names.lookup x = some .local := by first | exact .inl rfl | exact .inr rfl | assumption) :
    PS X (.Assign [.Name x pos'] e pos) (tAsg te (gName i)) := by
  intro pins s σ H D I h
  refine wpAny_Assign_Name (thn (he pins s σ H _ I h) fun v s1 ⟨y, H1, I1, r1, q1⟩ => ?_) hs
  exact store_ok I1 hN hi hx r1 (fun s2 I2 => ⟨_, H1, I2, q1⟩) hf
end
/-- at turn i: it yields x (the heap may grow), or it stops -/
structure It where
  go : Nat → Hp → Prop
  yld : Nat → Hp → V → Hp → Prop
  stop : Nat → Hp → Prop
/-- the iterator's own objects may turn: they are not the frame's, not pinned, younger than the entry (or a comprehension's own) -/
def FpOk (X : Cx) (pins : List (Addr × Obj)) (H : Hp) (b : Addr) : Prop :=
  H b = none ∧ b ≠ X.env.locals ∧ b ∉ X.fs ∧ (b ∈ X.ex ∨ X.s₀.heap.objs.size ≤ b) ∧ (∀ x c, X.env.cells.lookup x = some c → c ≠ b) ∧ ∀ p ∈ X.pn ++ pins, p.1 ≠ b
theorem Inv.fpOk {X : Cx} {pins : List (Addr × Obj)} {σ : St} {H H' : Hp} {s : Shared} {b : Addr} (I : Inv X pins σ H s) (hb : s.heap.objs.size ≤ b) (hn : H' b = none) : FpOk X pins H' b := by
  refine ⟨hn, Nat.ne_of_gt (Nat.lt_of_lt_of_le I.lt hb), I.nofs hb, .inr (Nat.le_trans I.sz hb), fun x c e z => ?_, fun p hp z => ?_⟩
  · obtain ⟨v, q⟩ := I.cell x c e
    exact absurd (Nat.lt_of_lt_of_le q.lt (by rw [z]; exact hb)) (Nat.lt_irrefl _)
  · exact absurd (Nat.lt_of_lt_of_le (Heap.lt_size (I.pin p hp).1) (by rw [z]; exact hb)) (Nat.lt_irrefl _)
structure Turn (P : Program) (w : World) (K : PySem.W.Frag) (tg : Expr) (J : It) (fp : List Addr) (it : Addr) (tn : Nat → Heap → Prop) : Prop where
  mem : it ∈ fp
  obj : ∀ i h, tn i h → ∀ b ∈ fp, ∃ o, h.get? b = some o ∧ ∀ v, o.data ≠ .cell v
  keep : ∀ i h h', tn i h → (∀ b ∈ fp, ∀ o, h.get? b = some o → h'.get? b = some o) → tn i h'
  item : ∀ (X : Cx), X.prog = P → X.w = w → X.K = K → X.calm = true → ∀ (i : Nat) (pins : List (Addr × Obj)) (s : Shared) (σ : St) (H : Hp) (E : Value → Shared → Prop), Inv X pins σ H s → (∀ b ∈ fp, FpOk X pins H b) → tn i s.heap → J.go i H →
    wpAny (model P w) X.A (pyNext (.ref it)) (fun r s1 => ∃ u, r = some u ∧
      wpAny (model P w) X.A (letOwnedTupleGo tg (.ref it) u) (fun _ s2 => ∃ x H', Inv X pins σ H' s2 ∧ RelV x u ∧ J.yld i H x H' ∧ tn (i + 1) s2.heap ∧ ∀ b ∈ fp, H' b = none) E s1) E s
  done : ∀ (X : Cx), X.prog = P → X.w = w → X.K = K → X.calm = true → ∀ (i : Nat) (pins : List (Addr × Obj)) (s : Shared) (σ : St) (H : Hp) (E : Value → Shared → Prop), Inv X pins σ H s → (∀ b ∈ fp, FpOk X pins H b) → tn i s.heap → J.stop i H →
    wpAny (model P w) X.A (pyNext (.ref it)) (fun r s1 => r = none ∧ Inv X pins σ H s1) E s
  self : ∀ (A : Around) (i : Nat) (s : Shared) (Q : Value → Shared → Prop) (E : Value → Shared → Prop), tn i s.heap → Q (.ref it) s → wpAny (model P w) A (pyIter (.ref it)) Q E s
abbrev TI := St → Hp → (It → Hp → Prop) → Prop
/-- an iterator has come -/
def PIE (X : Cx) (pins : List (Addr × Obj)) (σ : St) (tg : Expr) (R : It → Hp → Prop) (itv : Value) (s2 : Shared) : Prop :=
  ∃ (it : Addr) (fp : List Addr) (tn : Nat → Heap → Prop) (J : It) (H' : Hp), itv = .ref it ∧ Inv X pins σ H' s2 ∧ Turn X.prog X.w X.K tg J fp it tn ∧ tn 0 s2.heap ∧ (∀ b ∈ fp, FpOk X pins H' b) ∧ R J H'
def PI (X : Cx) (tg iter : Expr) (wi : TI) : Prop :=
  ∀ (pins : List (Addr × Obj)) (s : Shared) (σ : St) (H : Hp) (R : It → Hp → Prop), Inv X pins σ H s → wi σ H R →
    wpAny (model X.prog X.w) X.A (eval iter X.env) (fun v s1 => wpAny (model X.prog X.w) X.A (pyIter v) (PIE X pins σ tg R) X.xe s1) X.xe s
/-- the step ahead of the store is nothing for an iterator that keeps no tuple -/
theorem go_of {M : Model} {A : Around} {E : Value → Shared → Prop} {s : Shared} {tg : Expr} {it : Addr} {u : Value} {o : Obj} {n : String} {vs : Array Value} {Q : Unit → Shared → Prop} (ho : s.heap.get? it = some o) (hc : o.cls = .type n) (hd : o.data = .fields vs)
    (hn : ["enumerate", "zip", "dict_itemiterator", "dict_reverseitemiterator", "odict_iterator", "itertools.zip_longest", "itertools.pairwise"].contains n = false) (hQ : Q () s) : wpAny M A (letOwnedTupleGo tg (.ref it) u) Q E s := by
  unfold letOwnedTupleGo
  cases tg <;> first
    | exact wpAny_pure hQ
    | (cases u <;> first
        | exact wpAny_pure hQ
        | (refine wpAny_bind (wpAny_load ho ?_)
           rw [hc, hd]
           show wpAny M A (if (["enumerate", "zip", "dict_itemiterator", "dict_reverseitemiterator", "odict_iterator", "itertools.zip_longest", "itertools.pairwise"].contains n && vs[0]? == some (rawInt _)) = true then _ else _) Q E s
           rw [if_neg (by intro h; rw [hn, Bool.false_and] at h; cases h)]
           exact wpAny_pure hQ))
/-- the list at a, as it stands at each turn (a loop may append to it) -/
def Itl (K : PySem.W.Frag) (a : Addr) : It :=
  ⟨fun i H => ∃ xs x, SqL K H a xs ∧ xs[i]? = some x, fun i H x H' => H' = H ∧ ∀ xs, SqL K H a xs → xs[i]? = some x, fun i H => ∃ xs, SqL K H a xs ∧ xs.length ≤ i⟩
def Itt (K : PySem.W.Frag) (a : Addr) : It :=
  ⟨fun i H => ∃ xs x, SqT K H a xs ∧ xs[i]? = some x, fun i H x H' => H' = H ∧ ∀ xs, SqT K H a xs → xs[i]? = some x, fun i H => ∃ xs, SqT K H a xs ∧ xs.length ≤ i⟩
/-- lo, lo + 1, .. (n of them) -/
def Itr (lo : Int) (n : Nat) : It := ⟨fun i _ => i < n, fun i H x H' => H' = H ∧ x = .int (lo + i), fun i _ => n ≤ i⟩
theorem turn_list {P : Program} {w : World} {K : PySem.W.Frag} {tg : Expr} (a it : Addr) : Turn P w K tg (Itl K a) [it] it (fun i h => h.IsListIter it a i) where
  mem := by simp
  obj := fun i h st b hb => by
    have e : b = it := by simpa using hb
    subst e
    obtain ⟨o, e, c, d⟩ := st
    exact ⟨o, e, fun v z => by rw [d] at z; cases z⟩
  keep := fun i h h' st k => st.at fun o e => k it (by simp) o e
  item := by
    intro X hP hw hK hc i pins s σ H E I hf st hg
    subst hP hw hK
    obtain ⟨xs, x, hq, hx⟩ := hg
    obtain ⟨its, rv, p, hz⟩ := I.list hq
    obtain ⟨u, hu, ru⟩ := rv.get hx
    obtain ⟨f0, f1, f2, f3, f4, f5⟩ := hf it (by simp)
    refine wpAny_pyNext_list_item st p.isList (x := u) (by simpa using hu) fun h' st' sb => ?_
    have I1 : Inv X pins σ H { s with heap := h' } := I.turned (t' := s.toks) (fun b o hb e => (sb.2 b hb).trans e) f0 f1 f3 f4 f5
    obtain ⟨o, e, c, d⟩ := id st'
    exact ⟨u, rfl, go_of (s := { s with heap := h' }) e c d (by decide) ⟨x, H, I1, ru, ⟨rfl, fun ys hy => by rw [I.list_inj hy hq]; exact hx⟩, st', fun b hb => (hf b hb).1⟩⟩
  done := by
    intro X hP hw hK hc i pins s σ H E I hf st hg
    subst hP hw hK
    obtain ⟨xs, hq, hx⟩ := hg
    obtain ⟨its, rv, p, hz⟩ := I.list hq
    obtain ⟨f0, f1, f2, f3, f4, f5⟩ := hf it (by simp)
    have hl := rv.length
    exact wpAny_pyNext_list_end (I.ok.hd hc) st p.isList (by simp; omega) fun h' eb => ⟨rfl, I.turned (t' := s.toks) (fun b o hb e => eb b o hb e) f0 f1 f3 f4 f5⟩
  self := fun _ _ _ _ _ st h => wpAny_pyIter_listiter st h
theorem turn_tuple {P : Program} {w : World} {K : PySem.W.Frag} {tg : Expr} (a it : Addr) : Turn P w K tg (Itt K a) [it] it (fun i h => h.IsTupleIter it a i) where
  mem := by simp
  obj := fun i h st b hb => by
    have e : b = it := by simpa using hb
    subst e
    obtain ⟨o, e, c, d⟩ := st
    exact ⟨o, e, fun v z => by rw [d] at z; cases z⟩
  keep := fun i h h' st k => st.at fun o e => k it (by simp) o e
  item := by
    intro X hP hw hK hc i pins s σ H E I hf st hg
    subst hP hw hK
    obtain ⟨xs, x, hq, hx⟩ := hg
    obtain ⟨its, rv, p, hz⟩ := I.tuple hq
    obtain ⟨u, hu, ru⟩ := rv.get hx
    obtain ⟨f0, f1, f2, f3, f4, f5⟩ := hf it (by simp)
    refine wpAny_pyNext_tuple_item st (show s.heap.IsTuple a its.toArray from p) (x := u) (by simpa using hu) fun h' st' sb => ?_
    have I1 : Inv X pins σ H { s with heap := h' } := I.turned (t' := s.toks) (fun b o hb e => (sb.2 b hb).trans e) f0 f1 f3 f4 f5
    obtain ⟨o, e, c, d⟩ := id st'
    exact ⟨u, rfl, go_of (s := { s with heap := h' }) e c d (by decide) ⟨x, H, I1, ru, ⟨rfl, fun ys hy => by rw [I.tuple_inj hy hq]; exact hx⟩, st', fun b hb => (hf b hb).1⟩⟩
  done := by
    intro X hP hw hK hc i pins s σ H E I hf st hg
    subst hP hw hK
    obtain ⟨xs, hq, hx⟩ := hg
    obtain ⟨its, rv, p, hz⟩ := I.tuple hq
    obtain ⟨f0, f1, f2, f3, f4, f5⟩ := hf it (by simp)
    have hl := rv.length
    exact wpAny_pyNext_tuple_end (I.ok.hd hc) st (show s.heap.IsTuple a its.toArray from p) (by simp; omega) fun h' eb => ⟨rfl, I.turned (t' := s.toks) (fun b o hb e => eb b o hb e) f0 f1 f3 f4 f5⟩
  self := fun _ _ _ _ _ st h => wpAny_pyIter_tupleiter st h
theorem turn_range {P : Program} {w : World} {K : PySem.W.Frag} {tg : Expr} (it : Addr) (lo : Int) (n : Nat) : Turn P w K tg (Itr lo n) [it] it (fun i h => IsRangeIter h it (lo + (i : Nat) * 1) ((n : Int) - (i : Nat)) 1) where
  mem := by simp
  obj := fun i h st b hb => by
    have e : b = it := by simpa using hb
    subst e
    exact ⟨_, st, fun v z => by
      have z' : Data.fields _ = Data.cell v := z
      cases z'⟩
  keep := fun i h h' st k => k it (by simp) _ st
  item := by
    intro X hP hw hK hc i pins s σ H E I hf st hg
    subst hP hw hK
    obtain ⟨f0, f1, f2, f3, f4, f5⟩ := hf it (by simp)
    have W := Walks.range (prog := X.prog) (w := X.w) (I.ok.hd hc) it lo 1 n
    refine W.item i s _ _ hg st fun v h' tk hv st' kk => ?_
    obtain ⟨t, rfl⟩ := hv
    have I1 : Inv X pins σ H { s with heap := h', toks := tk } := I.turned (fun b o hb e => kk b o (by simpa using hb) e) f0 f1 f3 f4 f5
    refine ⟨_, rfl, go_of (s := { s with heap := h', toks := tk }) (n := "range_iterator") st' rfl rfl (by decide) ⟨.int (lo + i), H, I1, ⟨t, ?_⟩, ⟨rfl, rfl⟩, st', fun b hb => (hf b hb).1⟩⟩
    rw [Int.mul_one]
  done := by
    intro X hP hw hK hc i pins s σ H E I hf st hg
    subst hP hw hK
    obtain ⟨f0, f1, f2, f3, f4, f5⟩ := hf it (by simp)
    exact wpAny_pyNext_range_end (I.ok.hd hc) st (by have : n ≤ i := hg; omega) fun h' eb => ⟨rfl, I.turned (t' := s.toks) (fun b o hb e => eb b o hb e) f0 f1 f3 f4 f5⟩
  self := fun _ _ _ _ _ st h => wpAny_pyIter_rangeiter st h
end L2
namespace L2
open PySem PySem.Spec PyProof.Rows
section
variable {X : Cx} {tg : Expr}
def iList (K : PySem.W.Frag) (tl : TE) : TI := fun σ H R => tl σ H fun x H1 => ∃ a, x = .ref a ∧ (∃ xs, SqL K H1 a xs) ∧ R (Itl K a) H1
def iTup (K : PySem.W.Frag) (tl : TE) : TI := fun σ H R => tl σ H fun x H1 => ∃ a, x = .ref a ∧ (∃ xs, SqT K H1 a xs) ∧ R (Itt K a) H1
theorem pi_list {l : Expr} {tl : TE} (hl : PE X l tl) : PI X tg l (iList X.K tl) := by
  intro pins s σ H R I h
  refine thn (hl pins s σ H _ I h) fun v s1 ⟨x, H1, I1, r1, q1⟩ => ?_
  obtain ⟨a, e, ⟨xs, hq⟩, q⟩ := q1
  subst e
  cases r1
  obtain ⟨its, rv, p, hz⟩ := I1.list hq
  refine wpAny_pyIter_list p.isList ?_
  refine ⟨s1.heap.objs.size, [s1.heap.objs.size], _, _, H1, rfl, I1.kept (t' := s1.toks) fun b o e => Heap.get?_push_of_some _ e, turn_list a _, ⟨_, Heap.get?_push_size _ rfl, rfl, rfl⟩, fun b hb => ?_, q⟩
  have e : b = s1.heap.objs.size := by simpa using hb
  subst e
  exact I1.fpOk (Nat.le_refl _) (I1.hok.fresh (Nat.le_refl _))
theorem pi_tup {l : Expr} {tl : TE} (hl : PE X l tl) : PI X tg l (iTup X.K tl) := by
  intro pins s σ H R I h
  refine thn (hl pins s σ H _ I h) fun v s1 ⟨x, H1, I1, r1, q1⟩ => ?_
  obtain ⟨a, e, ⟨xs, hq⟩, q⟩ := q1
  subst e
  cases r1
  obtain ⟨its, rv, p, hz⟩ := I1.tuple hq
  refine wpAny_pyIter_tuple (show s1.heap.IsTuple a its.toArray from p) ?_
  refine ⟨s1.heap.objs.size, [s1.heap.objs.size], _, _, H1, rfl, I1.kept (t' := s1.toks) fun b o e => Heap.get?_push_of_some _ e, turn_tuple a _, ⟨_, Heap.get?_push_size _ rfl, rfl, rfl⟩, fun b hb => ?_, q⟩
  have e : b = s1.heap.objs.size := by simpa using hb
  subst e
  exact I1.fpOk (Nat.le_refl _) (I1.hok.fresh (Nat.le_refl _))
/-- a range object just made, walked -/
theorem range_it {pins : List (Addr × Obj)} {σ : St} {H : Hp} {s : Shared} {R : It → Hp → Prop} {E : Value → Shared → Prop} {lo hi : Int} {t u v : Tok} {tk : Nat} (I : Inv X pins σ H s) (h1 : -(2 ^ 62) ≤ lo) (h2 : lo < 2 ^ 62) (h3 : -(2 ^ 62) ≤ hi) (h4 : hi < 2 ^ 62)
    (q : R (Itr lo (hi - lo).toNat) H) : wpAny (model X.prog X.w) X.A (pyIter (.ref s.heap.objs.size)) (PIE X pins σ tg R) E { s with heap := s.heap.push { cls := .type "range", data := .fields #[.int lo t, .int hi u, .int 1 v] }, toks := tk } := by
  refine wpAny_pyIter_range (IsRange.new ..) (small_one h1 h2 h3 h4) ?_
  have I1 : Inv X pins σ H { s with heap := s.heap.push { cls := .type "range", data := .fields #[.int lo t, .int hi u, .int 1 v] }, toks := tk } := I.kept fun b o e => Heap.get?_push_of_some _ e
  refine ⟨(s.heap.push { cls := .type "range", data := .fields #[.int lo t, .int hi u, .int 1 v] }).objs.size, [(s.heap.push { cls := .type "range", data := .fields #[.int lo t, .int hi u, .int 1 v] }).objs.size], _, _, H, rfl,
    I1.kept (t' := tk) fun b o e => Heap.get?_push_of_some _ e, turn_range _ lo (hi - lo).toNat, ?_, fun b hb => ?_, q⟩
  · have e1 : lo + ((0 : Nat) : Int) * 1 = lo := by simp
    have e2 : (((hi - lo).toNat : Nat) : Int) - ((0 : Nat) : Int) = Builtin.Range.rangeSize lo hi 1 := by rw [rangeSize_one]; split <;> omega
    show IsRangeIter _ _ (lo + ((0 : Nat) : Int) * 1) ((((hi - lo).toNat : Nat) : Int) - ((0 : Nat) : Int)) 1
    rw [e1, e2]
    exact Heap.get?_push_size _ rfl
  · have e : b = (s.heap.push { cls := .type "range", data := .fields #[.int lo t, .int hi u, .int 1 v] }).objs.size := by simpa using hb
    subst e
    exact I1.fpOk (Nat.le_refl _) (I1.hok.fresh (Nat.le_refl _))
def iRng1 (ta : TA) : TI := fun σ H R => ta σ H fun vs H1 => ∃ j : Int, vs = [.int j] ∧ -(2 ^ 62) ≤ j ∧ j < 2 ^ 62 ∧ R (Itr 0 j.toNat) H1
def iRng2 (ta : TA) : TI := fun σ H R => ta σ H fun vs H1 => ∃ i j : Int, vs = [.int i, .int j] ∧ (-(2 ^ 62) ≤ i ∧ i < 2 ^ 62 ∧ -(2 ^ 62) ≤ j ∧ j < 2 ^ 62) ∧ R (Itr i (j - i).toNat) H1
theorem pi_range1 {a : Expr} {ta : TA} {p pos : Pos} (hg : Gl X "range") (hm : X.mg "range" = none) (ha : PA X [a] ta) (hs : starEach [a] X.env = [(false, eval a X.env)] := by rfl) : PI X tg (.Call (.Name "range" p) [a] [] pos) (iRng1 ta) := by
  intro pins s σ H R I h
  refine Call_ (ld_blt I hg hm boot_range (PyProof.Rows.callWith_type1 (thn (ha pos pins s σ H _ I h) fun us s1 ⟨vs, H1, I1, r1, q1⟩ => ?_) hs rfl))
  obtain ⟨j, e, q1, q2, q⟩ := q1
  subst e
  cases r1 with
  | cons r rr =>
    cases rr
    obtain ⟨t, rfl⟩ := r
    exact call_range_1 (range_it I1 (by omega) (by omega) q1 q2 (by simpa using q))
theorem pi_range2 {a b : Expr} {ta : TA} {p pos : Pos} (hg : Gl X "range") (hm : X.mg "range" = none) (ha : PA X [a, b] ta) (hs : starEach [a, b] X.env = [(false, eval a X.env), (false, eval b X.env)] := by rfl) (hs2 : starEach [b] X.env = [(false, eval b X.env)] := by rfl) :
    PI X tg (.Call (.Name "range" p) [a, b] [] pos) (iRng2 ta) := by
  intro pins s σ H R I h
  refine Call_ (ld_blt I hg hm boot_range (PyProof.Rows.callWith_type1 (thn (ha pos pins s σ H _ I h) fun us s1 ⟨vs, H1, I1, r1, q1⟩ => ?_) (by rw [hs, hs2]) (by rw [hs2]; rfl)))
  obtain ⟨i, j, e, ⟨q1, q2, q3, q4⟩, q⟩ := q1
  subst e
  cases r1 with
  | cons r rr =>
    cases rr with
    | cons r' rr =>
      cases rr
      obtain ⟨t, rfl⟩ := r
      obtain ⟨t', rfl⟩ := r'
      exact call_range_2 (range_it I1 q1 q2 q3 q4 q)
/-- W: the invariant by the turn and a measure; N: what the body is to reach -/
def tFor (wi : TI) (g : TG) (tb : TS) : TS := fun D σ H => wi σ H fun J H1 => ∃ W : Nat → Nat → St → Hp → Prop, (∃ m, W 0 m σ H1) ∧ ∀ i m σ H, W i m σ H →
  (J.stop i H ∧ D.nx σ H) ∨ (J.go i H ∧ ∃ N : St → Hp → Prop, (∀ σ' H', N σ' H' → ∃ m', m' < m ∧ W (i + 1) m' σ' H') ∧ ∀ x H', J.yld i H x H' → g x σ H' fun σ2 H2 => tb { D with nx := N, ct := N, bk := D.nx } σ2 H2)
/-- the records at fp as they stand -/
def pinsAt (fp : List Addr) (h : Heap) : List (Addr × Obj) := fp.filterMap fun b => (h.get? b).map fun o => (b, o)
theorem mem_pinsAt {fp : List Addr} {h : Heap} {b : Addr} {o : Obj} (hb : b ∈ fp) (e : h.get? b = some o) : (b, o) ∈ pinsAt fp h := List.mem_filterMap.mpr ⟨b, hb, by rw [e]; rfl⟩
theorem of_pinsAt {fp : List Addr} {h : Heap} {p : Addr × Obj} (hp : p ∈ pinsAt fp h) : p.1 ∈ fp ∧ h.get? p.1 = some p.2 := by
  obtain ⟨b, hb, e⟩ := List.mem_filterMap.mp hp
  cases q : h.get? b with
  | none => rw [q] at e; cases e
  | some o =>
    rw [q] at e
    have e' : (b, o) = p := Option.some.inj e
    subst e'
    exact ⟨hb, q⟩
theorem Inv.pinned {pins : List (Addr × Obj)} {σ : St} {H : Hp} {s : Shared} {fp : List Addr} (I : Inv X pins σ H s) (hf : ∀ b ∈ fp, FpOk X pins H b) (ho : ∀ b ∈ fp, ∃ o, s.heap.get? b = some o ∧ ∀ v, o.data ≠ .cell v) : Inv X (pins ++ pinsAt fp s.heap) σ H s :=
  I.pins_of fun p hp => (List.mem_append.mp hp).elim (fun z => I.pin p (List.mem_append_right _ z)) fun z => by
    obtain ⟨hb, e⟩ := of_pinsAt z
    obtain ⟨f0, f1, f2, _⟩ := hf p.1 hb
    obtain ⟨o, e', d⟩ := ho p.1 hb
    rw [e] at e'; cases e'
    exact ⟨e, f0, f1, f2, d⟩
theorem Inv.unpinned {pins pl : List (Addr × Obj)} {σ : St} {H : Hp} {s : Shared} (I : Inv X (pins ++ pl) σ H s) : Inv X pins σ H s := I.pins_of fun p hp => I.pin p (List.mem_append_right _ (List.mem_append_left _ hp))
theorem ps_for {iter : Expr} {body : List Stmt} {wi : TI} {g : TG} {tb : TS} {pos : Pos} (hp : PassesOwn (model X.prog X.w) X.A X.env X.xe) (hc : X.calm = true) (hi : PI X tg iter wi) (hg : PG X tg g) (hb : PSs X body tb)
    (hs : ∀ x, foldedSetIterable iter X.env x = pure x := by intro _; rfl) : PS X (.For tg iter body [] pos) (tFor wi g tb) := by
  intro pins s σ H D I h
  refine wpAny_For (thn (hi pins s σ H _ I h) fun v s1 h1 => thn h1 fun itv s2 h2 => ?_) hs
  obtain ⟨it, fp, tn, J, H2, e, I2, T, st2, f2, W, ⟨m0, w0⟩, turn⟩ := h2
  subst e
  -- what stays true of the iterator's objects through the loop
  have stat : ∀ {H' : Hp}, (∀ b ∈ fp, H' b = none) → ∀ b ∈ fp, FpOk X pins H' b := fun hn b hb => ⟨hn b hb, (f2 b hb).2⟩
  refine codeAny_forLoop_any (fun n s' => ∃ i σ' H', Inv X pins σ' H' s' ∧ tn i s'.heap ∧ (∀ b ∈ fp, H' b = none) ∧ W i n σ' H') ?_ m0 ⟨0, σ, H2, I2, st2, fun b hb => (f2 b hb).1, w0⟩
  rintro n s3 ⟨i, σ3, H3, I3, st3, fr3, w3⟩
  rcases turn i n σ3 H3 w3 with ⟨stop, qn⟩ | ⟨go, N, hN, step⟩
  · refine wpAny_passesOwn hp (thn (T.done X rfl rfl rfl hc i pins s3 σ3 H3 X.xe I3 (stat fr3) st3 stop) fun r s4 ⟨hr, I4⟩ => ?_)
    subst hr
    exact wpAny_execs_nil ⟨σ3, H3, I4, qn⟩
  · refine wpAny_passesOwn hp (thn (T.item X rfl rfl rfl hc i pins s3 σ3 H3 X.xe I3 (stat fr3) st3 go) fun r s4 ⟨u, hr, h4⟩ => ?_)
    subst hr
    refine wpAny_passesOwn hp (thn h4 fun _ s5 ⟨x, H5, I5, r5, y5, st5, fr5⟩ => ?_)
    have I5' := I5.pinned (stat fr5) (T.obj _ _ st5)
    refine wpAny_passesOwn hp (thn (hg _ s5 σ3 H5 x u _ I5' r5 (step x H5 y5)) fun _ s6 ⟨σ6, H6, I6, q6⟩ => ?_)
    refine wpAny_passesOwn hp (thn (hb _ s6 σ6 H6 _ I6 q6) fun f s7 q7 => ?_)
    have again : ∀ {σ7 : St} {H7 : Hp}, Inv X (pins ++ pinsAt fp s5.heap) σ7 H7 s7 → N σ7 H7 → ∃ m, m < n ∧ ∃ i σ' H', Inv X pins σ' H' s7 ∧ tn i s7.heap ∧ (∀ b ∈ fp, H' b = none) ∧ W i m σ' H' := fun {σ7 H7} I7 n7 => by
      obtain ⟨m', hm, w7⟩ := hN σ7 H7 n7
      refine ⟨m', hm, i + 1, σ7, H7, I7.unpinned, T.keep _ _ _ st5 fun b hb o e => (I7.pin (b, o) (List.mem_append_right _ (List.mem_append_right _ (mem_pinsAt hb e)))).1, fun b hb => ?_, w7⟩
      obtain ⟨o, e, d⟩ := T.obj _ _ st5 b hb
      exact (I7.pin (b, o) (List.mem_append_right _ (List.mem_append_right _ (mem_pinsAt hb e)))).2.1
    cases f with
    | next => obtain ⟨σ7, H7, I7, n7⟩ := q7; exact again I7 n7
    | cont => obtain ⟨σ7, H7, I7, n7⟩ := q7; exact again I7 n7
    | brk => obtain ⟨σ7, H7, I7, q7⟩ := q7; exact ⟨σ7, H7, I7.unpinned, q7⟩
    | ret v => obtain ⟨x7, σ7, H7, I7, r7, q7⟩ := q7; exact ⟨x7, σ7, H7, I7.unpinned, r7, q7⟩
end
/-- over a list that the body leaves as it is -/
theorem for_list {K : PySem.W.Frag} {a : Addr} {xs : List V} {g : TG} {tb : TS} {D : Ends} {σ : St} {H : Hp} (Pv : Nat → St → Hp → Prop) (h0 : Pv 0 σ H) (hl : ∀ i σ H, i ≤ xs.length → Pv i σ H → SqL K H a xs)
    (hs : ∀ i x σ H, xs[i]? = some x → Pv i σ H → g x σ H fun σ2 H2 => tb { D with nx := Pv (i + 1), ct := Pv (i + 1), bk := D.nx } σ2 H2) (hd : ∀ σ H, Pv xs.length σ H → D.nx σ H) :
    ∃ W : Nat → Nat → St → Hp → Prop, (∃ m, W 0 m σ H) ∧ ∀ i m σ H, W i m σ H →
      ((Itl K a).stop i H ∧ D.nx σ H) ∨ ((Itl K a).go i H ∧ ∃ N : St → Hp → Prop, (∀ σ' H', N σ' H' → ∃ m', m' < m ∧ W (i + 1) m' σ' H') ∧ ∀ x H', (Itl K a).yld i H x H' → g x σ H' fun σ2 H2 => tb { D with nx := N, ct := N, bk := D.nx } σ2 H2) := by
  refine ⟨fun i m σ H => m = xs.length - i ∧ i ≤ xs.length ∧ Pv i σ H, ⟨xs.length, by simp, Nat.zero_le _, h0⟩, ?_⟩
  rintro i m σ H ⟨rfl, hi, p⟩
  have q := hl i σ H hi p
  by_cases hlt : i < xs.length
  · refine .inr ⟨⟨xs, xs[i], q, by simp [hlt]⟩, Pv (i + 1), fun σ' H' p' => ⟨xs.length - (i + 1), by omega, rfl, hlt, p'⟩, fun x H' y => ?_⟩
    obtain ⟨e, y⟩ := y
    subst e
    exact hs i x σ _ (y xs q) p
  · have e : i = xs.length := by omega
    subst e
    exact .inl ⟨⟨xs, q, Nat.le_refl _⟩, hd σ H p⟩
theorem for_tup {K : PySem.W.Frag} {a : Addr} {xs : List V} {g : TG} {tb : TS} {D : Ends} {σ : St} {H : Hp} (Pv : Nat → St → Hp → Prop) (h0 : Pv 0 σ H) (hl : ∀ i σ H, i ≤ xs.length → Pv i σ H → SqT K H a xs)
    (hs : ∀ i x σ H, xs[i]? = some x → Pv i σ H → g x σ H fun σ2 H2 => tb { D with nx := Pv (i + 1), ct := Pv (i + 1), bk := D.nx } σ2 H2) (hd : ∀ σ H, Pv xs.length σ H → D.nx σ H) :
    ∃ W : Nat → Nat → St → Hp → Prop, (∃ m, W 0 m σ H) ∧ ∀ i m σ H, W i m σ H →
      ((Itt K a).stop i H ∧ D.nx σ H) ∨ ((Itt K a).go i H ∧ ∃ N : St → Hp → Prop, (∀ σ' H', N σ' H' → ∃ m', m' < m ∧ W (i + 1) m' σ' H') ∧ ∀ x H', (Itt K a).yld i H x H' → g x σ H' fun σ2 H2 => tb { D with nx := N, ct := N, bk := D.nx } σ2 H2) := by
  refine ⟨fun i m σ H => m = xs.length - i ∧ i ≤ xs.length ∧ Pv i σ H, ⟨xs.length, by simp, Nat.zero_le _, h0⟩, ?_⟩
  rintro i m σ H ⟨rfl, hi, p⟩
  have q := hl i σ H hi p
  by_cases hlt : i < xs.length
  · refine .inr ⟨⟨xs, xs[i], q, by simp [hlt]⟩, Pv (i + 1), fun σ' H' p' => ⟨xs.length - (i + 1), by omega, rfl, hlt, p'⟩, fun x H' y => ?_⟩
    obtain ⟨e, y⟩ := y
    subst e
    exact hs i x σ _ (y xs q) p
  · have e : i = xs.length := by omega
    subst e
    exact .inl ⟨⟨xs, q, Nat.le_refl _⟩, hd σ H p⟩
theorem for_range {lo : Int} {n : Nat} {g : TG} {tb : TS} {D : Ends} {σ : St} {H : Hp} (Pv : Nat → St → Hp → Prop) (h0 : Pv 0 σ H)
    (hs : ∀ i σ H, i < n → Pv i σ H → g (.int (lo + i)) σ H fun σ2 H2 => tb { D with nx := Pv (i + 1), ct := Pv (i + 1), bk := D.nx } σ2 H2) (hd : ∀ σ H, Pv n σ H → D.nx σ H) :
    ∃ W : Nat → Nat → St → Hp → Prop, (∃ m, W 0 m σ H) ∧ ∀ i m σ H, W i m σ H →
      ((Itr lo n).stop i H ∧ D.nx σ H) ∨ ((Itr lo n).go i H ∧ ∃ N : St → Hp → Prop, (∀ σ' H', N σ' H' → ∃ m', m' < m ∧ W (i + 1) m' σ' H') ∧ ∀ x H', (Itr lo n).yld i H x H' → g x σ H' fun σ2 H2 => tb { D with nx := N, ct := N, bk := D.nx } σ2 H2) := by
  refine ⟨fun i m σ H => m = n - i ∧ i ≤ n ∧ Pv i σ H, ⟨n, by simp, Nat.zero_le _, h0⟩, ?_⟩
  rintro i m σ H ⟨rfl, hi, p⟩
  by_cases hlt : i < n
  · refine .inr ⟨hlt, Pv (i + 1), fun σ' H' p' => ⟨n - (i + 1), by omega, rfl, hlt, p'⟩, fun x H' y => ?_⟩
    obtain ⟨e, y⟩ := y
    subst e y
    exact hs i σ _ hlt p
  · have e : i = n := by omega
    subst e
    exact .inl ⟨Nat.le_refl _, hd σ H p⟩
end L2
namespace L2
open PySem PySem.Spec PyProof.Rows
abbrev R2 := V → V → Hp → VK → Prop
/-- a two-place operation on values: f is binaryOp op, inplaceOp op or compareOp op -/
def OpR (X : Cx) (f : Value → Value → Sem Value) (r : R2) : Prop :=
  ∀ (pins : List (Addr × Obj)) (s : Shared) (σ : St) (H : Hp) (x y : V) (v u : Value) (Q : VK), Inv X pins σ H s → RelV x v → RelV y u → r x y H Q →
    wpAny (model X.prog X.w) X.A (f v u) (EP X pins σ Q) X.xe s
/-- a one-place operation -/
def UnR (X : Cx) (f : Value → Sem Value) (r : V → Hp → VK → Prop) : Prop :=
  ∀ (pins : List (Addr × Obj)) (s : Shared) (σ : St) (H : Hp) (x : V) (v : Value) (Q : VK), Inv X pins σ H s → RelV x v → r x H Q →
    wpAny (model X.prog X.w) X.A (f v) (EP X pins σ Q) X.xe s
/-- a call of a value that is known (a builtin, a type) with values -/
def CallR (X : Cx) (f : Value) (r : List V → Hp → VK → Prop) : Prop :=
  ∀ (pins : List (Addr × Obj)) (s : Shared) (σ : St) (H : Hp) (xs : List V) (us : List Value) (Q : VK), Inv X pins σ H s → Vals xs us → r xs H Q →
    wpAny (model X.prog X.w) X.A (call f us) (EP X pins σ Q) X.xe s
def tOp (r : R2) (ta tb : TE) : TE := fun σ H Q => ta σ H fun x H1 => tb σ H1 fun y H2 => r x y H2 Q
def tUn (r : V → Hp → VK → Prop) (ta : TE) : TE := fun σ H Q => ta σ H fun x H1 => r x H1 Q
/-- ints in, under C, and a value out -/
def rI (C : Int → Int → Prop) (g : Int → Int → V) : R2 := fun x y H Q => ∃ i j, x = .int i ∧ y = .int j ∧ C i j ∧ Q (g i j) H
def rI0 (g : Int → Int → V) : R2 := fun x y H Q => ∃ i j, x = .int i ∧ y = .int j ∧ Q (g i j) H
def rU (g : Int → V) : V → Hp → VK → Prop := fun x H Q => ∃ i, x = .int i ∧ Q (g i) H
section
variable {X : Cx} {a b c : Expr} {ta tb tc : TE} {pos : Pos}
theorem binT (ha : PE X a ta) (hb : PE X b tb) {pins : List (Addr × Obj)} {s : Shared} {σ : St} {H : Hp} {R : V → V → Hp → Prop} (I : Inv X pins σ H s)
    (h : ta σ H fun x H1 => tb σ H1 fun y H2 => R x y H2) {Q : Value → Shared → Prop} {f : Value → Value → Sem Value}
    (hf : ∀ v u s2 x y H2, Inv X pins σ H2 s2 → RelV x v → RelV y u → R x y H2 → wpAny (model X.prog X.w) X.A (f v u) Q X.xe s2) :
    wpAny (model X.prog X.w) X.A (eval a X.env) (fun v s₁ => wpAny (model X.prog X.w) X.A (eval b X.env) (fun u s₂ => wpAny (model X.prog X.w) X.A (f v u) Q X.xe s₂) X.xe s₁) X.xe s := by
  refine thn (ha pins s σ H _ I h) fun v s1 ⟨x, H1, I1, r1, q1⟩ => ?_
  refine thn (hb pins s1 σ H1 _ I1 q1) fun u s2 ⟨y, H2, I2, r2, q2⟩ => ?_
  exact hf v u s2 x y H2 I2 r1 r2 q2
theorem pe_op {op : Operator} {r : R2} (ho : OpR X (binaryOp op) r) (ha : PE X a ta) (hb : PE X b tb) : PE X (.BinOp a op b pos) (tOp r ta tb) := by
  intro pins s σ H Q I h
  exact wpAny_BinOp (binT ha hb I h fun v u s2 x y H2 I2 rx ry q => ho pins s2 σ H2 x y v u Q I2 rx ry q)
theorem pe_un {op : UnaryOp} {r : V → Hp → VK → Prop} (ho : UnR X (unaryOp op) r) (ha : PE X a ta) : PE X (.UnaryOp op a pos) (tUn r ta) := by
  intro pins s σ H Q I h
  exact UnaryOp_ (thn (ha pins s σ H _ I h) fun v s1 ⟨x, H1, I1, r1, q1⟩ => ho pins s1 σ H1 x v Q I1 r1 q1)
theorem opI {f : Value → Value → Sem Value} {C : Int → Int → Prop} {g : Int → Int → Int}
    (rule : ∀ (i j : Int) (t u : Tok) (s : Shared) (Q : Value → Shared → Prop) (E : Value → Shared → Prop), C i j → Q (.int (g i j) s.toks) { s with toks := s.toks + 1 } → wpAny (model X.prog X.w) X.A (f (.int i t) (.int j u)) Q E s) :
    OpR X f (rI C fun i j => .int (g i j)) := by
  intro pins s σ H x y v u Q I rx ry h
  obtain ⟨i, j, rfl, rfl, hc, q⟩ := h
  obtain ⟨t, rfl⟩ := rx
  obtain ⟨t', rfl⟩ := ry
  exact rule i j t t' s _ _ hc ⟨.int (g i j), H, I.tok _, ⟨_, rfl⟩, q⟩
theorem opI0 {f : Value → Value → Sem Value} {g : Int → Int → Int}
    (rule : ∀ (i j : Int) (t u : Tok) (s : Shared) (Q : Value → Shared → Prop) (E : Value → Shared → Prop), Q (.int (g i j) s.toks) { s with toks := s.toks + 1 } → wpAny (model X.prog X.w) X.A (f (.int i t) (.int j u)) Q E s) :
    OpR X f (rI0 fun i j => .int (g i j)) := by
  intro pins s σ H x y v u Q I rx ry h
  obtain ⟨i, j, rfl, rfl, q⟩ := h
  obtain ⟨t, rfl⟩ := rx
  obtain ⟨t', rfl⟩ := ry
  exact rule i j t t' s _ _ ⟨.int (g i j), H, I.tok _, ⟨_, rfl⟩, q⟩
theorem opB0 {f : Value → Value → Sem Value} {g : Int → Int → Bool}
    (rule : ∀ (i j : Int) (t u : Tok) (s : Shared) (Q : Value → Shared → Prop) (E : Value → Shared → Prop), Q (.bool (g i j)) s → wpAny (model X.prog X.w) X.A (f (.int i t) (.int j u)) Q E s) :
    OpR X f (rI0 fun i j => .bl (g i j)) := by
  intro pins s σ H x y v u Q I rx ry h
  obtain ⟨i, j, rfl, rfl, q⟩ := h
  obtain ⟨t, rfl⟩ := rx
  obtain ⟨t', rfl⟩ := ry
  exact rule i j t t' s _ _ ⟨.bl (g i j), H, I, rfl, q⟩
def CDiv (i j : Int) : Prop := 0 < j ∧ j < 1073741824
def CPow (i j : Int) : Prop := 0 ≤ j ∧ j ≤ 1000000 ∧ i.natAbs < 2 ^ 64
def CMul (i j : Int) : Prop := (-(2 ^ 64) < i ∧ i < 2 ^ 64) ∨ (-(2 ^ 64) < j ∧ j < 2 ^ 64)
theorem CMul.ok {i j : Int} (h : CMul i j) : IntMulOk i j := by
  rcases h with ⟨h1, h2⟩ | ⟨h1, h2⟩
  · exact .of_left (intBits_le_64 h1 h2)
  · exact .of_right (intBits_le_64 h1 h2)
theorem op_add : OpR X (binaryOp .Add) (rI0 fun i j => .int (i + j)) := opI0 fun _ _ _ _ _ _ _ q => add_int q
theorem op_sub : OpR X (binaryOp .Sub) (rI0 fun i j => .int (i - j)) := opI0 fun _ _ _ _ _ _ _ q => sub_int q
theorem op_mul : OpR X (binaryOp .Mult) (rI CMul fun i j => .int (i * j)) := opI fun _ _ _ _ _ _ _ hc q => mul_int q hc.ok
/-- // by a positive divisor -/
theorem op_fdiv : OpR X (binaryOp .FloorDiv) (rI CDiv fun i j => .int (i / j)) := opI fun i j _ _ _ _ _ hc q => by
  have h1 : (0 : Int) < j := hc.1
  have h2 : j < 1073741824 := hc.2
  exact floordiv_int (by omega) (by rw [Int.fdiv_eq_ediv_of_nonneg i (by omega)]; exact q) (.inl (PyProof.noPylong_small (by omega)))
/-- % by a positive divisor of any size -/
theorem op_mod : OpR X (binaryOp .Mod) (rI (fun _ j => 0 < j) fun i j => .int (i % j)) := opI fun i j _ _ _ _ _ hc q => by
  have h1 : (0 : Int) < j := hc
  exact mod_int' (by omega) (by rw [Int.fmod_eq_emod_of_nonneg i (by omega)]; exact q)
theorem op_pow : OpR X (binaryOp .Pow) (rI CPow fun i j => .int (i ^ j.toNat)) := opI fun _ _ _ _ _ _ _ hc q => pow_int_small hc.1 hc.2.1 hc.2.2 q
theorem unI {f : Value → Sem Value} {g : Int → Int}
    (rule : ∀ (i : Int) (t : Tok) (s : Shared) (Q : Value → Shared → Prop) (E : Value → Shared → Prop), Q (.int (g i) s.toks) { s with toks := s.toks + 1 } → wpAny (model X.prog X.w) X.A (f (.int i t)) Q E s) :
    UnR X f (rU fun i => .int (g i)) := by
  intro pins s σ H x v Q I rx h
  obtain ⟨i, rfl, q⟩ := h
  obtain ⟨t, rfl⟩ := rx
  exact rule i t s _ _ ⟨.int (g i), H, I.tok _, ⟨_, rfl⟩, q⟩
theorem un_neg : UnR X (unaryOp .USub) (rU fun i => .int (-i)) := unI fun _ _ _ _ _ q => neg_int q
end
/-- the scalars that == tells apart as data does -/
def scal : V → V → Bool
  | .non, .non => true | .non, .int _ => true | .int _, .non => true | .non, .bl _ => true | .bl _, .non => true | .non, .str _ => true | .str _, .non => true
  | .int _, .int _ => true | .bl _, .bl _ => true | .str _, .str _ => true | .byt _, .byt _ => true
  | .int _, .str _ => true | .str _, .int _ => true | .bl _, .str _ => true | .str _, .bl _ => true
  | _, _ => false
def rEq : R2 := fun x y H Q => scal x y = true ∧ Q (.bl (decide (x = y))) H
def rNe : R2 := fun x y H Q => scal x y = true ∧ Q (.bl (!decide (x = y))) H
theorem dec_int {i j : Int} : decide (V.int i = V.int j) = (i == j) := by
  rw [Bool.eq_iff_iff]
  simp
theorem dec_bl {i j : Bool} : decide (V.bl i = V.bl j) = (i == j) := by
  rw [Bool.eq_iff_iff]
  simp
theorem dec_str {i j : Str} : decide (V.str i = V.str j) = (i == j) := by
  rw [Bool.eq_iff_iff]
  simp
theorem dec_byt {i j : Array UInt8} : decide (V.byt i = V.byt j) = (i.toList == j.toList) := by
  rw [Bool.eq_iff_iff]
  cases i
  cases j
  simp
section
variable {X : Cx} {a b c : Expr} {ta tb tc : TE} {pos : Pos}
theorem fin_bl {pins : List (Addr × Obj)} {σ : St} {H : Hp} {s : Shared} {Q : VK} {k k' : Bool} (I : Inv X pins σ H s) (q : Q (.bl k) H) (e : k = k') : EP X pins σ Q (.bool k') s := by
  subst e
  exact ⟨.bl k, H, I, rfl, q⟩
theorem op_eq : OpR X (compareOp .Eq) rEq := by
  intro pins s σ H x y v u Q I rx ry h
  obtain ⟨hs, q⟩ := h
  cases x with
  | non =>
    cases rx
    cases y with
    | non => cases ry; exact PySem.EqNone.eq_none_none (fin_bl I q (by simp))
    | bl j => cases ry; exact PySem.EqNone.eq_none_bool (fin_bl I q (by simp))
    | int j => obtain ⟨t', rfl⟩ := ry; exact PySem.EqNone.eq_none_int (fin_bl I q (by simp))
    | str j => obtain ⟨t', rfl⟩ := ry; exact PySem.EqNone.eq_none_str (fin_bl I q (by simp))
    | _ => exact absurd (show false = true from hs) Bool.false_ne_true
  | bl i =>
    cases rx
    cases y with
    | non => cases ry; exact PySem.EqNone.eq_bool_none (fin_bl I q (by simp))
    | bl j => cases ry; exact eq_bool (fin_bl I q dec_bl)
    | str j => obtain ⟨t', rfl⟩ := ry; exact PySem.EqMixed.eq_bool_str (fin_bl I q (by simp))
    | _ => exact absurd (show false = true from hs) Bool.false_ne_true
  | int i =>
    obtain ⟨t, rfl⟩ := rx
    cases y with
    | non => cases ry; exact PySem.EqNone.eq_int_none (fin_bl I q (by simp))
    | int j => obtain ⟨t', rfl⟩ := ry; exact eq_int (fin_bl I q dec_int)
    | str j => obtain ⟨t', rfl⟩ := ry; exact PySem.EqMixed.eq_int_str (fin_bl I q (by simp))
    | _ => exact absurd (show false = true from hs) Bool.false_ne_true
  | str i =>
    obtain ⟨t, rfl⟩ := rx
    cases y with
    | non => cases ry; exact PySem.EqNone.eq_str_none (fin_bl I q (by simp))
    | bl j => cases ry; exact PySem.EqMixed.eq_str_bool (fin_bl I q (by simp))
    | int j => obtain ⟨t', rfl⟩ := ry; exact PySem.EqMixed.eq_str_int (fin_bl I q (by simp))
    | str j => obtain ⟨t', rfl⟩ := ry; exact eq_str (fin_bl I q dec_str)
    | _ => exact absurd (show false = true from hs) Bool.false_ne_true
  | byt i =>
    obtain ⟨t, rfl⟩ := rx
    cases y with
    | byt j => obtain ⟨t', rfl⟩ := ry; exact PySem.W.eq_bytes (fin_bl I q dec_byt)
    | _ => exact absurd (show false = true from hs) Bool.false_ne_true
  | _ => cases y <;> exact absurd (show false = true from hs) Bool.false_ne_true
theorem op_ne : OpR X (compareOp .NotEq) rNe := by
  intro pins s σ H x y v u Q I rx ry h
  obtain ⟨hs, q⟩ := h
  cases x with
  | non =>
    cases rx
    cases y with
    | non => cases ry; exact PySem.EqNone.ne_none_none (fin_bl I q (by simp))
    | bl j => cases ry; exact PySem.EqNone.ne_none_bool (fin_bl I q (by simp))
    | int j => obtain ⟨t', rfl⟩ := ry; exact PySem.EqNone.ne_none_int (fin_bl I q (by simp))
    | str j => obtain ⟨t', rfl⟩ := ry; exact PySem.EqNone.ne_none_str (fin_bl I q (by simp))
    | _ => exact absurd (show false = true from hs) Bool.false_ne_true
  | bl i =>
    cases rx
    cases y with
    | non => cases ry; exact PySem.EqNone.ne_bool_none (fin_bl I q (by simp))
    | bl j => cases ry; exact ne_bool (fin_bl I q (congrArg not dec_bl))
    | str j => obtain ⟨t', rfl⟩ := ry; exact PySem.EqMixed.ne_bool_str (fin_bl I q (by simp))
    | _ => exact absurd (show false = true from hs) Bool.false_ne_true
  | int i =>
    obtain ⟨t, rfl⟩ := rx
    cases y with
    | non => cases ry; exact PySem.EqNone.ne_int_none (fin_bl I q (by simp))
    | int j => obtain ⟨t', rfl⟩ := ry; exact ne_int (fin_bl I q (congrArg not dec_int))
    | str j => obtain ⟨t', rfl⟩ := ry; exact PySem.EqMixed.ne_int_str (fin_bl I q (by simp))
    | _ => exact absurd (show false = true from hs) Bool.false_ne_true
  | str i =>
    obtain ⟨t, rfl⟩ := rx
    cases y with
    | non => cases ry; exact PySem.EqNone.ne_str_none (fin_bl I q (by simp))
    | bl j => cases ry; exact PySem.EqMixed.ne_str_bool (fin_bl I q (by simp))
    | int j => obtain ⟨t', rfl⟩ := ry; exact PySem.EqMixed.ne_str_int (fin_bl I q (by simp))
    | str j => obtain ⟨t', rfl⟩ := ry; exact ne_str (fin_bl I q (congrArg not dec_str))
    | _ => exact absurd (show false = true from hs) Bool.false_ne_true
  | byt i =>
    obtain ⟨t, rfl⟩ := rx
    cases y with
    | byt j => obtain ⟨t', rfl⟩ := ry; exact PySem.W.ne_bytes (fin_bl I q (congrArg not dec_byt))
    | _ => exact absurd (show false = true from hs) Bool.false_ne_true
  | _ => cases y <;> exact absurd (show false = true from hs) Bool.false_ne_true
theorem op_lt : OpR X (compareOp .Lt) (rI0 fun i j => .bl (decide (i < j))) := opB0 fun _ _ _ _ _ _ _ q => lt_int q
theorem op_le : OpR X (compareOp .LtE) (rI0 fun i j => .bl (decide (i ≤ j))) := opB0 fun _ _ _ _ _ _ _ q => le_int q
theorem op_gt : OpR X (compareOp .Gt) (rI0 fun i j => .bl (decide (j < i))) := opB0 fun _ _ _ _ _ _ _ q => gt_int q
theorem op_ge : OpR X (compareOp .GtE) (rI0 fun i j => .bl (decide (j ≤ i))) := opB0 fun _ _ _ _ _ _ _ q => ge_int q
theorem nomark (b : Expr) {op : CmpOp} (h : op ≠ .In := by decide) (h2 : op ≠ .NotIn := by decide) : behindInMarks op b = false := by
  have e1 : (op == CmpOp.In) = false := by cases op <;> first | rfl | exact absurd rfl h
  have e2 : (op == CmpOp.NotIn) = false := by cases op <;> first | rfl | exact absurd rfl h2
  cases b <;> simp [behindInMarks, e1, e2]
/-- a comparison as a value; hm: nomark b, or (for in, not in) by with_unfolding_all rfl -/
theorem pe_cmpR {op : CmpOp} {r : R2} (ho : OpR X (compareOp op) r) (ha : PE X a ta) (hb : PE X b tb) (hm : behindInMarks op b = false) : PE X (.Compare a [op] [b] pos) (tOp r ta tb) := by
  intro pins s σ H Q I h
  exact wpAny_Compare1 (binT ha hb I h fun v u s2 x y H2 I2 rx ry q => ho pins s2 σ H2 x y v u Q I2 rx ry q) hm
/-- a reading of a value as a test -/
def tTest (t : TE) : TT := fun σ H Q => t σ H fun x H' => ∃ k, x = .bl k ∧ Q k H'
theorem pt_cmpR {op : CmpOp} {r : R2} (ho : OpR X (compareOp op) r) (ha : PE X a ta) (hb : PE X b tb) (hm : behindInMarks op b = false) : PT X (.Compare a [op] [b] pos) (tTest (tOp r ta tb)) := by
  intro pins s σ H Q I h
  refine wpAny_isTrue_Compare1 (thn (ha pins s σ H _ I h) fun v s1 ⟨x, H1, I1, r1, q1⟩ => thn (hb pins s1 σ H1 _ I1 q1) fun u s2 ⟨y, H2, I2, r2, q2⟩ =>
    thn (ho pins s2 σ H2 x y v u _ I2 r1 r2 q2) fun c s3 ⟨z, H3, I3, r3, k, e, q3⟩ => ?_) hm
  subst e
  cases r3
  exact wpAny_truthy_bool ⟨H3, I3, q3⟩
/-- a op1 b op2 c -/
def tChain (r r' : R2) (ta tb tc : TE) : TE := fun σ H Q => ta σ H fun x H1 => tb σ H1 fun y H2 => r x y H2 fun z H3 => ∃ k, z = .bl k ∧
  (if k = true then tc σ H3 fun w' H4 => r' y w' H4 Q else Q (.bl false) H3)
theorem pe_chain {op op' : CmpOp} {r r' : R2} (ho : OpR X (compareOp op) r) (ho' : OpR X (compareOp op') r') (ha : PE X a ta) (hb : PE X b tb) (hc : PE X c tc)
    (hm : lastMarks [op, op'] [b, c] = false := by with_unfolding_all rfl) : PE X (.Compare a [op, op'] [b, c] pos) (tChain r r' ta tb tc) := by
  intro pins s σ H Q I h
  refine Compare_chain (thn (ha pins s σ H _ I h) fun v s1 ⟨x, H1, I1, r1, q1⟩ => chain_link (thn (hb pins s1 σ H1 _ I1 q1) fun u s2 ⟨y, H2, I2, r2, q2⟩ =>
    thn (ho pins s2 σ H2 x y v u _ I2 r1 r2 q2) fun d s3 ⟨z, H3, I3, r3, k, e, q3⟩ => ?_)) hm
  subst e
  cases r3
  refine wpAny_truthy_bool ?_
  cases k with
  | false => exact ite_ff ⟨.bl false, H3, I3, rfl, q3⟩
  | true => exact ite_tt (chain_last (thn (hc pins s3 σ H3 _ I3 q3) fun w' s4 ⟨z', H4, I4, r4, q4⟩ => ho' pins s4 σ H4 y z' u w' Q I4 r2 r4 q4))
theorem pt_chain {op op' : CmpOp} {r r' : R2} (ho : OpR X (compareOp op) r) (ho' : OpR X (compareOp op') r') (ha : PE X a ta) (hb : PE X b tb) (hc : PE X c tc)
    (hm : lastMarks [op, op'] [b, c] = false := by with_unfolding_all rfl) : PT X (.Compare a [op, op'] [b, c] pos) (tTest (tChain r r' ta tb tc)) := by
  intro pins s σ H Q I h
  refine isTrue_chain (thn (ha pins s σ H _ I h) fun v s1 ⟨x, H1, I1, r1, q1⟩ => test_link (thn (hb pins s1 σ H1 _ I1 q1) fun u s2 ⟨y, H2, I2, r2, q2⟩ =>
    thn (ho pins s2 σ H2 x y v u _ I2 r1 r2 q2) fun d s3 ⟨z, H3, I3, r3, k, e, q3⟩ => ?_)) hm
  subst e
  cases r3
  refine wpAny_truthy_bool ?_
  cases k with
  | false =>
    obtain ⟨k', e', q'⟩ := q3
    cases e'
    exact ite_ff ⟨H3, I3, q'⟩
  | true =>
    refine ite_tt (test_last (thn (hc pins s3 σ H3 _ I3 q3) fun w' s4 ⟨z', H4, I4, r4, q4⟩ => thn (ho' pins s4 σ H4 y z' u w' _ I4 r2 r4 q4) fun d' s5 ⟨z2, H5, I5, r5, k2, e2, q5⟩ => ?_))
    subst e2
    cases r5
    exact wpAny_truthy_bool ⟨H5, I5, q5⟩
theorem line63 : (sizeLine : Nat) < 2 ^ 63 := by rw [sizeLine_eq]; decide
theorem op_add_str : OpR X (binaryOp .Add) (fun x y H Q => ∃ i j, x = .str i ∧ y = .str j ∧ i.length + j.length ≤ sizeLine ∧ Q (.str (i ++ j)) H) := by
  intro pins s σ H x y v u Q I rx ry h
  obtain ⟨i, j, rfl, rfl, hz, q⟩ := h
  obtain ⟨t, rfl⟩ := rx
  obtain ⟨t', rfl⟩ := ry
  exact add_str (fun t' tk => ⟨.str (i ++ j), H, I.tok _, ⟨_, rfl⟩, q⟩) hz
theorem vals1 {x : V} {us : List Value} (r : Vals [x] us) : ∃ u, us = [u] ∧ RelV x u := by
  cases r with
  | cons r1 r2 => cases r2; exact ⟨_, rfl, r1⟩
theorem vals2 {x y : V} {us : List Value} (r : Vals [x, y] us) : ∃ u w', us = [u, w'] ∧ RelV x u ∧ RelV y w' := by
  cases r with
  | cons r1 r2 =>
    cases r2 with
    | cons r3 r4 => cases r4; exact ⟨_, _, rfl, r1, r3⟩
theorem call_max2 (hc : X.calm = true) : CallR X (.builtin "max") (fun xs H Q => ∃ i j, xs = [.int i, .int j] ∧ Q (.int (if j > i then j else i)) H) := by
  intro pins s σ H xs us Q I r h
  obtain ⟨i, j, rfl, q⟩ := h
  obtain ⟨u, w', rfl, ⟨t, rfl⟩, ⟨t', rfl⟩⟩ := vals2 r
  refine max_two_ints (I.ok.hd hc) fun h' tk k => ⟨_, H, I.kept k, ?_, q⟩
  by_cases hj : j > i
  · rw [if_pos hj, if_pos hj]; exact ⟨_, rfl⟩
  · rw [if_neg hj, if_neg hj]; exact ⟨_, rfl⟩
theorem call_min2 (hc : X.calm = true) : CallR X (.builtin "min") (fun xs H Q => ∃ i j, xs = [.int i, .int j] ∧ Q (.int (if j < i then j else i)) H) := by
  intro pins s σ H xs us Q I r h
  obtain ⟨i, j, rfl, q⟩ := h
  obtain ⟨u, w', rfl, ⟨t, rfl⟩, ⟨t', rfl⟩⟩ := vals2 r
  refine min_two_ints (I.ok.hd hc) fun h' tk k => ⟨_, H, I.kept k, ?_, q⟩
  by_cases hj : j < i
  · rw [if_pos hj, if_pos hj]; exact ⟨_, rfl⟩
  · rw [if_neg hj, if_neg hj]; exact ⟨_, rfl⟩
theorem call_int1 : CallR X (.type "int") (fun xs H Q => (∃ i, xs = [.int i] ∧ Q (.int i) H) ∨ ∃ k, xs = [.bl k] ∧ Q (.int (if k then 1 else 0)) H) := by
  intro pins s σ H xs us Q I r h
  rcases h with ⟨i, rfl, q⟩ | ⟨k, rfl, q⟩
  · obtain ⟨u, rfl, t, rfl⟩ := vals1 r
    exact call_int_int ⟨.int i, H, I, ⟨_, rfl⟩, q⟩
  · obtain ⟨u, rfl, r1⟩ := vals1 r
    cases r1
    exact call_int_bool ⟨.int (if k then 1 else 0), H, I.tok _, ⟨_, rfl⟩, q⟩
end
end L2
namespace L2
open PySem PySem.Spec PyProof.Rows
structure ObjM (h : Heap) (x dx C : Addr) (mA : Str → Option Value) : Prop where
  obj : h.get? x = some (PySem.W.instObj C dx)
  ns : h.Ns1 dx mA
  ne : dx ≠ x
theorem lookIn_ns {h : Heap} {dx : Addr} {mA : Str → Option Value} (n : h.Ns1 dx mA) : ∃ od, h.get? dx = some od ∧ ∀ name, PySem.W.lookIn name od = some (mA name) := by
  obtain ⟨o, es, ep, ho, hd, hk, _, hm⟩ := n
  refine ⟨o, ho, fun name => ?_⟩
  have e := hm name
  unfold nsFind findBy at e
  rw [← Array.find?_toList] at e
  unfold PySem.W.lookIn
  rw [hd]
  dsimp only
  split
  · rename_i y q
    rw [q] at e
    exact congrArg some e
  · rename_i q
    rw [q] at e
    have a : es.toList.any (·.refKey) = false := by
      rw [List.any_eq_false]
      intro y hy
      obtain ⟨z, t, hkey⟩ := hk y (Array.mem_toList_iff.mp hy)
      simp [DictEntry.refKey, hkey]
    have a' : ¬ es.toList.any (·.refKey) = true := by rw [a]; exact Bool.false_ne_true
    rw [if_neg a']
    exact congrArg some e
theorem ObjM.look {h : Heap} {x dx C : Addr} {mA : Str → Option Value} (I : ObjM h x dx C mA) : ∃ od, PySem.W.InstAt h x (PySem.W.instObj C dx) C (some od) ∧ ∀ name, PySem.W.lookIn name od = some (mA name) :=
  let ⟨od, ho, hl⟩ := lookIn_ns I.ns
  ⟨od, ⟨I.obj, rfl, rfl, ho⟩, hl⟩
theorem RelO.some_of {v : V} {o : Option Value} (r : RelO (some v) o) : ∃ u, o = some u ∧ RelV v u := by
  cases o with
  | none => exact (show False from r).elim
  | some u => exact ⟨u, rfl, r⟩
section
variable {P : Program} {w : World} {H H' : Hp} {h h' : Heap} {a C dx : Addr} {fs fs' : List (Str × V)}
theorem ins_get (hok : HOk P w H h) (e : H a = some (.ins C dx fs)) : ∃ mA, ObjM h a dx C mA ∧ (∀ f, RelO (fs.lookup f) (mA f)) ∧ PySem.Within mA (fs.map (·.1)) ∧ fs.length ≤ 1000 ∧ H dx = some (.own a) := by
  obtain ⟨d, z, ne, ob, mA, n, r, q⟩ := (show ObjOk P w H h a (.ins C dx fs) from hok a _ e)
  exact ⟨mA, ⟨ob, n, ne⟩, r, q, z, d⟩
end
structure Cls (K : PySem.W.Frag) (C : Addr) : Prop where
  pg : PySem.W.plainGet K C Str.empty = true
  hd : PySem.W.hasDictIn K C = true
  po : PySem.W.plainOver K C = true
  sa : PySem.W.findIn K (.ref C) "__setattr__" = some (some (.builtin "object.__setattr__"))
theorem Cls.get {K : PySem.W.Frag} {C : Addr} (c : Cls K C) (f : Str) : PySem.W.plainGet K C f = true := c.pg
section
variable {X : Cx} {pins : List (Addr × Obj)} {σ : St} {H : Hp} {s : Shared} {A : Around} {E : Value → Shared → Prop} {Q : Value → Shared → Prop} {c : Value} {b : Bool}
/-- the type of a value, as the fragment's deciders take it; for an instance its class -/
inductive TyOf (K : PySem.W.Frag) (H : Hp) : V → Value → Prop where
  | non : TyOf K H .non (.type "NoneType")
  | bl (x : Bool) : TyOf K H (.bl x) (.type "bool")
  | int (i : Int) : TyOf K H (.int i) (.type "int")
  | str (x : Str) : TyOf K H (.str x) (.type "str")
  | flt (x : UInt64) : TyOf K H (.flt x) (.type "float")
  | lst {a : Addr} {xs : List V} (e : H a = some (.lst xs)) : TyOf K H (.ref a) (.type "list")
  | frz {a : Addr} {o : Obj} {xs : List V} (e : H a = some (.frz o (.lst xs))) : TyOf K H (.ref a) (.type "list")
  | tup {a : Addr} {xs : List V} (e : H a = some (.tup xs)) : TyOf K H (.ref a) (.type "tuple")
  | dK {a : Addr} {kvs : List (Key × V)} (e : H a = some (.dK kvs)) : TyOf K H (.ref a) (.type "dict")
  | dT {a : Addr} {kvs : List (List Key × V)} (e : H a = some (.dT kvs)) : TyOf K H (.ref a) (.type "dict")
  | ins {a C dx : Addr} {fs : List (Str × V)} (e : H a = some (.ins C dx fs)) (cl : Cls K C) (ha : PySem.W.findIn K (.ref C) "__class__" = some (some (.builtin "object.__class__")))
      (hn : PySem.W.specialIn K (.builtin "object.__class__") "__get__" = some (some (.builtin "getset_descriptor.__get__"))) (htk : PySem.W.takesIn K (.builtin "object.__class__") = some true)
      (hm : PySem.W.mroIn K C (.type "object") = some true) : TyOf K H (.ref a) (.ref C)
/-- isinstance(x, c) for one class c, a built-in or an own one: kitOne's answer -/
theorem isinst_ok {x : V} {u t : Value} (I : Inv X pins σ H s) (rx : RelV x u) (ty : TyOf X.K H x t) (e : PySem.W.kitOne X.K t c = some b) (h : ∀ tk, Q (.bool b) { s with toks := tk }) :
    wpAny (model X.prog X.w) A (call (.builtin "isinstance") [u, c]) Q E s := by
  cases ty with
  | non => cases (show u = Value.none from rx); exact PySem.W.kia_one PySem.W.kitx_none I.kIn True.intro e (fun z => nomatch z) h
  | bl y => cases (show u = Value.bool y from rx); exact PySem.W.kia_one PySem.W.kitx_bool I.kIn True.intro e (fun z => nomatch z) h
  | int i => obtain ⟨t, q⟩ := (show ∃ t, u = Value.int i t from rx); cases q; exact PySem.W.kia_one PySem.W.kitx_int I.kIn True.intro e (fun z => nomatch z) h
  | str y => obtain ⟨t, q⟩ := (show ∃ t, u = Value.str y t from rx); cases q; exact PySem.W.kia_one PySem.W.kitx_str I.kIn True.intro e (fun z => nomatch z) h
  | flt y => obtain ⟨t, q⟩ := (show ∃ t, u = Value.float y t from rx); cases q; exact PySem.W.kia_one PySem.W.kitx_float I.kIn True.intro e (fun z => nomatch z) h
  | @lst a xs ea =>
    cases (show u = Value.ref a from rx)
    obtain ⟨_, _, n, _, h1⟩ := (show ObjOk X.prog X.w H s.heap a (.lst xs) from I.hok a _ ea)
    exact PySem.W.kia_one PySem.W.kitx_list I.kIn ⟨_, h1, rfl⟩ e (fun z => nomatch z) h
  | @frz a ob xs ea =>
    cases (show u = Value.ref a from rx)
    obtain ⟨_, _, _, n, _, h1⟩ := (show ObjOk X.prog X.w H s.heap a (.frz ob (.lst xs)) from I.hok a _ ea)
    exact PySem.W.kia_one PySem.W.kitx_list I.kIn ⟨_, h1, rfl⟩ e (fun z => nomatch z) h
  | @tup a xs ea =>
    cases (show u = Value.ref a from rx)
    obtain ⟨_, _, _, p⟩ := (show ObjOk X.prog X.w H s.heap a (.tup xs) from I.hok a _ ea)
    obtain ⟨o, h1, h2, _⟩ := p
    exact PySem.W.kia_one PySem.W.kitx_tuple I.kIn ⟨o, h1, h2⟩ e (fun z => nomatch z) h
  | @dK a kvs ea =>
    cases (show u = Value.ref a from rx)
    obtain ⟨_, _, vs, _, p⟩ := (show ObjOk X.prog X.w H s.heap a (.dK kvs) from I.hok a _ ea)
    obtain ⟨o, es, ep, h1, h2, _⟩ := p
    exact PySem.W.kia_one PySem.W.kitx_dict I.kIn ⟨o, h1, h2.1⟩ e (fun z => nomatch z) h
  | @dT a kvs ea =>
    cases (show u = Value.ref a from rx)
    obtain ⟨_, _, xs, _, o, es, ep, h1, h2, _⟩ := (show ObjOk X.prog X.w H s.heap a (.dT kvs) from I.hok a _ ea)
    exact PySem.W.kia_one PySem.W.kitx_dict I.kIn ⟨o, h1, h2.1⟩ e (fun z => nomatch z) h
  | @ins a C dx fs ea cl ha hn htk hm =>
    cases (show u = Value.ref a from rx)
    obtain ⟨mA, O, _⟩ := ins_get I.hok ea
    obtain ⟨od, J, _⟩ := O.look
    exact PySem.W.kia_one (PySem.W.kitx_own (cl.get _) cl.hd ha hn htk hm) I.kIn J e (fun z => nomatch z) h
end
end L2
namespace L2
open PySem PySem.Spec PyProof.Rows
structure Room (k : Nat) (A : Around) : Prop where
  hd : A.handled = none
  dp : A.depth + 3 * k + 5 < recursionLimit
  un : A.units + 16 * k + 200 < cLine
theorem Room.mono {j k : Nat} {A : Around} (r : Room k A) (h : j ≤ k) : Room j A := ⟨r.hd, by have := r.dp; omega, by have := r.un; omega⟩
theorem Room.deeper {k : Nat} {A : Around} (r : Room (k + 1) A) (env : Env) : Room k (A.deeper env) :=
  ⟨r.hd, by have := r.dp; show A.depth + 1 + 3 * k + 5 < _; omega, by have := r.un; show A.units + 3 + 16 * k + 200 < _; omega⟩
theorem Room.depth {k : Nat} {A : Around} (r : Room k A) : A.depth < recursionLimit := by have := r.dp; omega
theorem Room.units {k : Nat} {A : Around} (r : Room k A) : A.units + 64 < cLine := by have := r.un; omega
def tNil : TA := fun _ H Q => Q [] H
def tCons (ta : TE) (tr : TA) : TA := fun σ H Q => ta σ H fun x H1 => tr σ H1 fun xs H2 => Q (x :: xs) H2
section
variable {X : Cx} {e : Expr} {es : List Expr} {te : TE} {t : TA} {pos : Pos}
theorem pa_nil : PA X [] tNil := fun _ _ _ _ H Q I h => Calls.spliced_nil ⟨[], H, I, .nil, h⟩
theorem pa_cons (ha : PE X e te) (hr : PA X es t) (hs : starEach (e :: es) X.env = (false, eval e X.env) :: starEach es X.env := by rfl) : PA X (e :: es) (tCons te t) := by
  intro pos pins s σ H Q I h
  rw [hs]
  show wpAny _ _ (spliced ((false, eval e X.env) :: backTo pos (starEach es X.env))) _ _ s
  refine Calls.spliced_cons (thn (ha pins s σ H _ I h) fun u s1 ⟨x, H1, I1, r1, q1⟩ => ?_)
  exact thn (hr pos pins s1 σ H1 _ I1 q1) fun us s2 ⟨xs, H2, I2, r2, q2⟩ => ⟨x :: xs, H2, I2, .cons r1 r2, q2⟩
def tLst (t : TA) : TE := fun σ H Q => t σ H fun xs H1 => xs.length ≤ sizeLine ∧ ∀ p, H1 p = none → Q (.ref p) (upd H1 p (.lst xs))
theorem pe_lst (h : PA X es t) : PE X (.List es pos) (tLst t) := by
  intro pins s σ H Q I hq
  refine wpAny_List_spliced (thn (h pos pins s σ H _ I hq) fun us s1 ⟨xs, H1, I1, r, z, q⟩ => ⟨by rw [← r.length]; exact z, ?_⟩)
  have hf : H1 s1.heap.objs.size = none := I1.hok.fresh (Nat.le_refl _)
  refine ⟨.ref s1.heap.objs.size, upd H1 s1.heap.objs.size (.lst xs), I1.laid (t' := s1.toks) (fun b u e => Heap.get?_push_of_some _ e) (Nat.le_refl _) ?_, rfl, q _ hf⟩
  exact ⟨z, us, 0, r, Heap.get?_push_size _ rfl⟩
end
/-- a def's promise: the bound arguments in the parameters' order, the heap, the wanted end, the wanted exception -/
abbrev Sp := List V → Hp → VK → XK → Prop
/-- how an exception lies behind a call (file 08 gives it): the callers' frames, abstract heap and state ahead of the call, the wish, the exception, the state -/
abbrev CXT := List Env → Hp → Shared → XK → Value → Shared → Prop
/-- the state at a call -/
structure Env0 (P : Program) (w : World) (K : PySem.W.Frag) (mg : Str → Option Value) (base : Heap) (A : Around) (outer : List Env) (s : Shared) (H : Hp) : Prop where
  frames : A.frames = some outer
  mod : Mod K mg base
  bs : ∀ b o, base.get? b = some o → s.heap.get? b = some o ∧ H b = none
  bsz : base.objs.size ≤ s.heap.objs.size
  funs : s.heap.FunFrames base outer
  frf : ∀ b ∈ frs outer, H b = none
  hok : HOk P w H s.heap
  bare : AllBare s.gens
/-- a call's end -/
def CE (outer : List Env) (P : Program) (w : World) (H : Hp) (s : Shared) (Q : VK) (u : Value) (s' : Shared) : Prop :=
  ∃ v H', s'.os = s.os ∧ AllBare s'.gens ∧ Un (frs outer) [] H H' s.heap s'.heap ∧ HOk P w H' s'.heap ∧ RelV v u ∧ Q v H'
def CR (CX : CXT) (outer : List Env) (P : Program) (w : World) (H : Hp) (s : Shared) (Q : VK) (E : XK) (r : Result) (s' : Shared) : Prop :=
  match r with
  | .ok (.ret u) => CE outer P w H s Q u s'
  | .ok _ => False
  | .error e => CX outer H s E e s'
structure FnOk (P : Program) (w : World) (K : PySem.W.Frag) (mg : Str → Option Value) (base : Heap) (CX : CXT) (k : Nat) (f : Addr) (fd : FuncData) (ps : List Str) (sp : Sp) : Prop where
  len : ∀ vs H Q E, sp vs H Q E → vs.length = ps.length
  run : ∀ (A : Around) (outer : List Env) (s : Shared) (H : Hp) (args : Args) (us : List Value) (vs : List V) (Q : VK) (E : XK), Room k A → Env0 P w K mg base A outer s H → BindsTo s fd args (ps.zip us) → Vals vs us → sp vs H Q E →
    codeAny (model P w) A (.call (.ref f) args) (CR CX outer P w H s Q E) s
theorem FnOk.mono {P : Program} {w : World} {K : PySem.W.Frag} {mg : Str → Option Value} {base : Heap} {CX : CXT} {j k : Nat} {f : Addr} {fd : FuncData} {ps : List Str} {sp : Sp} (F : FnOk P w K mg base CX j f fd ps sp) (h : j ≤ k) :
    FnOk P w K mg base CX k f fd ps sp := ⟨F.len, fun A outer s H args us vs Q E hr => F.run A outer s H args us vs Q E (hr.mono h)⟩
section
variable {X : Cx} {pins : List (Addr × Obj)} {σ : St} {H : Hp} {s s' : Shared}
/-- from a body: what a callee wants -/
theorem Inv.env0 (I : Inv X pins σ H s) : Env0 X.prog X.w X.K X.mg X.base X.A X.stack s H :=
  ⟨I.ok.frames, I.ok.mod, I.bs, Nat.le_trans I.ok.bsz I.sz, I.stack, I.stkFree, I.hok, I.bare⟩
/-- behind a call -/
theorem Inv.after {Q : VK} {u : Value} (I : Inv X pins σ H s) (h : CE X.stack X.prog X.w H s Q u s') : EP X pins σ Q u s' := by
  obtain ⟨v, H', os, bare, un, hok, r, q⟩ := h
  obtain ⟨hh, g, d, t, os'⟩ := s'
  obtain rfl : os' = s.os := os
  exact ⟨v, H', I.call (h' := hh) (g' := g) (d' := d) (t' := t) (ch := []) un hok bare (fun b z => absurd z (by simp)), r, q⟩
end
/-- f(..): the written arguments, then the defaults dvs; E: what is wanted of an exception -/
def tCall (sp : Sp) (dvs : List V) (E : XK) (t : TA) : TE := fun σ H Q => t σ H fun vs H1 => sp (vs ++ dvs) H1 Q E
/-- how the parameters are bound: us the positional arguments, kw the keywords' values by name, ds the defaults that fill up -/
def Binds (K : PySem.W.Frag) (fd : FuncData) (ps : List Str) (ds : List Value) : Prop :=
  ∀ (s : Shared) (us : List Value), K.In s.heap → (us ++ ds).length = ps.length → BindsTo s fd ⟨us, []⟩ (ps.zip (us ++ ds))
/-- every parameter is given -/
theorem Binds.all {K : PySem.W.Frag} {fd : FuncData} {ps : List Str} (h : ∀ us : List Value, us.length = ps.length → bindArgs fd ⟨us, []⟩ = pure (ps.zip us)) : Binds K fd ps [] := fun s us _ hl => by
  rw [List.append_nil] at hl ⊢
  exact .of_eq (h us hl)
/-- an exception of a callee reaches what this body wants of exceptions -/
def Passes (CX : CXT) (X : Cx) (E : XK) : Prop := ∀ (pins : List (Addr × Obj)) (σ : St) (H : Hp) (s : Shared) (e : Value) (s' : Shared), Inv X pins σ H s → CX X.stack H s E e s' → X.xe e s'
section
variable {X : Cx} {CX : CXT} {k : Nat} {f C : Addr} {fd : FuncData} {ps : List Str} {sp : Sp} {dvs : List V} {ds : List Value} {E : XK} {x m : Str} {p pos apos : Pos} {e o : Expr} {es : List Expr} {ta : TE} {t : TA}
/-- the callee runs -/
theorem run_fn {pins : List (Addr × Obj)} {σ : St} {H : Hp} {s : Shared} {Q : VK} {us : List Value} {vs : List V} (F : FnOk X.prog X.w X.K X.mg X.base CX k f fd ps sp) (hr : Room k X.A) (hb : Binds X.K fd ps ds) (hd : Vals dvs ds) (hx : Passes CX X E)
    (I : Inv X pins σ H s) (r : Vals vs us) (h : sp (vs ++ dvs) H Q E) : wpAny (model X.prog X.w) X.A (call (.ref f) us) (EP X pins σ Q) X.xe s := by
  have r2 : Vals (vs ++ dvs) (us ++ ds) := r.append hd
  have hl : (us ++ ds).length = ps.length := by rw [← r2.length]; exact F.len _ _ _ _ h
  refine wpAny_call (codeAny_mono (F.run X.A X.stack s H ⟨us, []⟩ (us ++ ds) (vs ++ dvs) Q E hr I.env0 (hb s us I.kIn hl) r2 h) fun r s' hq => ?_)
  cases r with
  | error e => exact hx pins σ H s e s' I hq
  | ok fl =>
    cases fl with
    | ret u => exact I.after hq
    | next => exact False.elim hq
    | brk => exact False.elim hq
    | cont => exact False.elim hq
theorem pe_call (F : FnOk X.prog X.w X.K X.mg X.base CX k f fd ps sp) (hr : Room k X.A) (hg : Gl X x) (hm : X.mg x = some (.ref f)) (hk : PySem.W.keepIn X.K (.ref f) = true) (hb : Binds X.K fd ps ds) (hd : Vals dvs ds) (hx : Passes CX X E)
    (ha : PA X (e :: es) t) (hdb : (x == ("__debug__" : Str)) = false := by decide) (he : starEach (e :: es) X.env = (false, eval e X.env) :: starEach es X.env := by rfl) (hpl : (backTo pos (starEach es X.env)).any (·.1) = false := by rfl) :
    PE X (.Call (.Name x p) (e :: es) [] pos) (tCall sp dvs E t) := by
  intro pins s σ H Q I h
  refine wpAny_Call_Name_kw (ld_glob I hg hm ?_ hdb)
  refine PySem.W.callWith_K (h₀ := X.base) I.ok.mod.kin hk (thn (ha pos pins s σ H _ I h) fun us s1 ⟨vs, H1, I1, r, q⟩ => ⟨I1.kIn, ?_⟩) he hpl
  exact run_fn F hr hb hd hx I1 r q
end
/-- names: the parameters first -/
structure FnScope (N P : List Str) (sc : Scope) : Prop where
  kind : sc.kind = .function
  co : sc.isCoroutine = false
  gen : sc.isGenerator = false
  nd : N.Nodup
  pre : N.take P.length = P
  par : ∀ x ∈ P, sc.names.lookup x = some .local ∨ sc.names.lookup x = some .cell
  nofree : ∀ y ∈ sc.names, y.2 ≠ .free
theorem bindL_out {kindOf : Str → Option NameKind} {x : Str} : ∀ {binds : List (Str × Value)} {m : Str → Option Value}, (∀ v, (x, v) ∉ binds) → bindL kindOf binds m x = m x
  | [], _, _ => rfl
  | (n, v) :: r, m, h => by
    unfold bindL
    rw [bindL_out fun w hw => h w (List.mem_cons_of_mem _ hw)]
    split
    · have : x ≠ n := by rintro rfl; exact h v List.mem_cons_self
      simp [this]
    · rfl
theorem bindC_out {kindOf : Str → Option NameKind} {x : Str} : ∀ {binds : List (Str × Value)} {m : Str → Option Value}, (∀ v, (x, v) ∉ binds) → bindC kindOf binds m x = m x
  | [], _, _ => rfl
  | (n, v) :: r, m, h => by
    unfold bindC
    rw [bindC_out fun w hw => h w (List.mem_cons_of_mem _ hw)]
    split
    · rfl
    · have : x ≠ n := by rintro rfl; exact h v List.mem_cons_self
      simp [this]
theorem bindL_get {kindOf : Str → Option NameKind} {x : Str} {v : Value} : ∀ {P : List Str} {vs : List Value} {i : Nat} {m : Str → Option Value}, P.Nodup → P[i]? = some x → vs[i]? = some v → kindOf x = some .local →
    bindL kindOf (P.zip vs) m x = some v
  | [], _, _, _, _, h, _, _ => by simp at h
  | _ :: _, [], _, _, _, _, h, _ => by simp at h
  | p :: P, w :: vs, 0, m, nd, h1, h2, hk => by
    simp at h1 h2; subst h1; subst h2
    show bindL kindOf ((p, w) :: P.zip vs) m p = _
    unfold bindL
    rw [bindL_out fun v hv => (List.nodup_cons.mp nd).1 (List.of_mem_zip hv).1, if_pos hk]
    simp
  | p :: P, w :: vs, i + 1, m, nd, h1, h2, hk => by
    show bindL kindOf ((p, w) :: P.zip vs) m x = _
    unfold bindL
    exact bindL_get (i := i) (List.nodup_cons.mp nd).2 (by simpa using h1) (by simpa using h2) hk
theorem bindC_get {kindOf : Str → Option NameKind} {x : Str} {v : Value} : ∀ {P : List Str} {vs : List Value} {i : Nat} {m : Str → Option Value}, P.Nodup → P[i]? = some x → vs[i]? = some v → kindOf x ≠ some .local →
    bindC kindOf (P.zip vs) m x = some v
  | [], _, _, _, _, h, _, _ => by simp at h
  | _ :: _, [], _, _, _, _, h, _ => by simp at h
  | p :: P, w :: vs, 0, m, nd, h1, h2, hk => by
    simp at h1 h2; subst h1; subst h2
    show bindC kindOf ((p, w) :: P.zip vs) m p = _
    unfold bindC
    rw [bindC_out fun v hv => (List.nodup_cons.mp nd).1 (List.of_mem_zip hv).1, if_neg hk]
    simp
  | p :: P, w :: vs, i + 1, m, nd, h1, h2, hk => by
    show bindC kindOf ((p, w) :: P.zip vs) m x = _
    unfold bindC
    exact bindC_get (i := i) (List.nodup_cons.mp nd).2 (by simpa using h1) (by simpa using h2) hk
/-- the names' values at the entry -/
def start (N : List Str) (vs : List V) : St := vs.map some ++ List.replicate (N.length - vs.length) none
/-- the context of a def's body, at its entry; an exception leaves the frame, then lies as CX says -/
def cxOf (CX : CXT) (P : Program) (w : World) (K : PySem.W.Frag) (mg : Str → Option Value) (base : Heap) (N : List Str) (qual : Str) (scope : Scope) (f : Addr) (cd : Value) (A : Around) (outer : List Env) (s : Shared) (H : Hp) (E : XK) : Cx where
  prog := P
  w := w
  K := K
  mg := mg
  base := base
  A := A.deeper (envOfC qual scope s.heap.objs.size f cd)
  N := N
  s₀ := s
  H₀ := H
  env := envOfC qual scope s.heap.objs.size f cd
  outer := outer
  stack := envOfC qual scope s.heap.objs.size f cd :: outer
  ex := []
  calm := true
  fn := fun _ => true
  pn := []
  xe := fun e s' => wpAny (model P w) (A.deeper (envOfC qual scope s.heap.objs.size f cd)) (leaving (envOfC qual scope s.heap.objs.size f cd) e) (fun _ s'' => CX outer H s E e s'') (fun e' s'' => CX outer H s E e' s'') s'
theorem cell_has {sc : Scope} {n : Nat} {x : Str} (h : sc.names.lookup x = some .cell) : ∃ c, (cellsFrom n sc.names []).lookup x = some c := by
  have q := PySem.W.cellsFrom_some sc.names n [] (.inl h)
  exact Option.isSome_iff_exists.mp q
theorem inv_start {CX : CXT} {P : Program} {w : World} {K : PySem.W.Frag} {mg : Str → Option Value} {base : Heap} {N ps : List Str} {qual : Str} {scope : Scope} {f : Addr} {cd : Value} {A : Around} {outer : List Env} {s s1 : Shared} {H : Hp} {E : XK} {us : List Value} {vs : List V}
    (S : FnScope N ps scope) (hd : A.handled = none) (e0 : Env0 P w K mg base A outer s H) (hl : vs.length = ps.length) (r : Vals vs us)
    (x : InCallC s s.heap.objs.size (bindL (envOfC qual scope s.heap.objs.size f cd).kindOf (ps.zip us) fun _ => none) (cellsFrom (s.heap.objs.size + 1) scope.names []) (bindC (envOfC qual scope s.heap.objs.size f cd).kindOf (ps.zip us) fun _ => none) s1) :
    Inv (cxOf CX P w K mg base N qual scope f cd A outer s H E) [] (start N vs) H s1 := by
  have hpl : ps.length ≤ N.length := by have := congrArg List.length S.pre; rw [List.length_take] at this; omega
  obtain ⟨h1, tk, rfl, hk⟩ := x.done
  have noA : ∀ b : Addr, b ∉ (cxOf CX P w K mg base N qual scope f cd A outer s H E).ex := fun b z => absurd (show b ∈ ([] : List Addr) from z) (by simp)
  refine ⟨⟨e0.mod, S.kind, rfl, rfl, Nat.le_refl _, fun y z c h1 h2 => ?_, fun y hy => ?_, fun y c _ h => ?_, fun _ => hd, Around.frames_deeper e0.frames, .inr ⟨rfl, rfl⟩, fun b z => absurd z (noA b), e0.bs, e0.bsz, fun b _ _ => noA b, fun b z => absurd z (noA b), e0.funs, e0.frf⟩,
    rfl, e0.bare, Un.kept hk, ⟨_, x.toInCall.ns, fun i y v h1 h2 h3 => ?_⟩, fun y c h => ⟨_, x.cell y c h⟩, e0.hok.fresh (Nat.le_refl _), fun y c h => ?_, fun p hp => absurd (show p ∈ ([] : List (Addr × Obj)) from hp) (by simp), e0.hok.kept hk, ?_⟩
  · exact name_of_addr x.apart (PySem.mem_of_lookup h1) (PySem.mem_of_lookup h2)
  · have hy : scope.names.lookup y = some .cell ∨ scope.names.lookup y = some .free := hy
    rcases hy with hy | hy
    · exact cell_has hy
    · exact absurd rfl (S.nofree _ (PySem.mem_of_lookup hy))
  · exact Nat.le_of_lt (x.above y c (PySem.mem_of_lookup h))
  · have hi : i < vs.length := by
      unfold start at h2
      by_cases hi : i < vs.length
      · exact hi
      · rw [List.getElem?_append_right (by simpa using hi)] at h2
        rw [List.getElem?_replicate] at h2
        split at h2 <;> cases h2
    have ha : vs[i]? = some v := by
      unfold start at h2
      rw [List.getElem?_append_left (by simpa using hi), List.getElem?_map] at h2
      cases e : vs[i]? with
      | none => rw [e] at h2; cases h2
      | some a => rw [e] at h2; cases h2; rfl
    obtain ⟨u, hu, rv⟩ := r.get ha
    have hp : ps[i]? = some y := by
      rw [← S.pre, List.getElem?_take_of_lt (by omega)]; exact h1
    have ndP : ps.Nodup := by rw [← S.pre]; exact S.nd.sublist (List.take_sublist _ _)
    refine ⟨u, rv, ?_⟩
    rcases S.par y (List.mem_of_getElem? hp) with k | k
    · exact .inl ⟨k, bindL_get ndP hp hu k⟩
    · obtain ⟨c, e⟩ := cell_has (n := s.heap.objs.size + 1) k
      refine .inr ⟨.inl k, c, e, ?_⟩
      have q := x.cell y c e
      rw [bindC_get ndP hp hu (by show scope.names.lookup y ≠ _; rw [k]; decide)] at q
      exact q
  · exact e0.hok.fresh (Nat.le_of_lt (x.above y c (PySem.mem_of_lookup h)))
  · unfold start
    show _ = N.length
    rw [List.length_append, List.length_map, List.length_replicate]
    omega
/-- THE RULE: a def (or a method) of the text, by its body. The body's reading t is chosen for each entry; it is run at the parameters' values -/
theorem fn_of {CX : CXT} {P : Program} {w : World} {K : PySem.W.Frag} {mg : Str → Option Value} {base : Heap} {k : Nat} {f : Addr} {name qual : Str} {params : Arguments} {body : List Stmt} {scope : Scope} {dV kV doc pm cdv ct oc : Value} {an od : Option Addr}
    {osl : Array (Option Value)} {N ps : List Str} {sp : Sp} (lk : K.lookup f = some ⟨oc, od, .func (PySem.W.fnOf name qual params body scope dV kV doc pm an cdv ct), osl⟩) (hcd : PySem.W.codeIn K cdv qual = true) (S : FnScope N ps scope)
    (len : ∀ vs H Q E, sp vs H Q E → vs.length = ps.length)
    (hbody : ∀ (A : Around) (outer : List Env) (s : Shared) (H : Hp) (vs : List V) (Q : VK) (E : XK), Room k (A.deeper (envOfC qual scope s.heap.objs.size f cdv)) → sp vs H Q E →
      ∃ t, PSs (cxOf CX P w K mg base N qual scope f cdv A outer s H E) body t ∧ t { nx := fun _ H' => Q .non H', rt := fun v _ H' => Q v H' } (start N vs) H) :
    FnOk P w K mg base CX (k + 1) f (PySem.W.fnOf name qual params body scope dV kV doc pm an cdv ct) ps sp := by
  refine ⟨len, fun A outer s H args us vs Q E hr e0 hb r hsp => ?_⟩
  have hl := len _ _ _ _ hsp
  have KX : K.In s.heap := e0.mod.kin.keeps fun b o e => (e0.bs b o e).1
  have lim : s.heap.NoLimit := e0.mod.nolimit.keeps fun b o e => (e0.bs b o e).1
  have hkind : ∀ y ∈ ps.zip us, scope.names.lookup y.1 = some .local ∨ (scope.names.lookup y.1 = some .cell ∧ ((cellsFrom (s.heap.objs.size + 1) scope.names []).lookup y.1).isSome = true) := fun ⟨n, v⟩ hy => by
    rcases S.par n (List.of_mem_zip hy).1 with q | q
    · exact .inl q
    · exact .inr ⟨q, PySem.W.cellsFrom_some _ _ _ (.inl q)⟩
  refine codeAny_call_function hr.depth (KX _ _ lk) rfl S.co S.gen rfl (PySem.W.codeRec_of KX hcd) (hb _ _ _ _ ?_)
  refine wpAny_newFunctionEnv_cells S.kind hkind fun env he s1 x => ?_
  subst he
  refine ⟨lim.keeps x.toInCall.keep, codeAny_func ?_⟩
  obtain ⟨t, ht, hq⟩ := hbody A outer s H vs Q E (hr.deeper _) hsp
  have I : Inv (cxOf CX P w K mg base N qual scope f cdv A outer s H E) [] (start N vs) H s1 := inv_start S hr.hd e0 hl r x
  refine wpAny_mono (ht [] s1 (start N vs) H _ I hq) (fun fl s' hs => ?_) fun e s' hs => hs
  have fin : ∀ {σ' : St} {H' : Hp} {v : V} {u : Value}, Inv (cxOf CX P w K mg base N qual scope f cdv A outer s H E) [] σ' H' s' → RelV v u → Q v H' → CE outer P w H s Q u s' :=
    fun {σ' H' v u} J rv q => ⟨v, H', J.os, J.bare, J.base, J.hok, rv, q⟩
  cases fl with
  | ret u =>
    obtain ⟨v, σ', H', J, rv, q⟩ := hs
    exact fin J rv q
  | next =>
    obtain ⟨σ', H', J, q⟩ := hs
    exact fin (v := V.non) (u := Value.none) J rfl q
  | brk =>
    obtain ⟨_, _, _, q⟩ := hs
    exact False.elim q
  | cont =>
    obtain ⟨_, _, _, q⟩ := hs
    exact False.elim q
end L2
namespace L2
open PySem PySem.Spec PyProof.Rows
section
variable {X : Cx} {x : Str} {p pos : Pos} {e : Expr} {es : List Expr} {t : TA} {id T : String} {r : List V → Hp → VK → Prop}
def tCB (r : List V → Hp → VK → Prop) (t : TA) : TE := fun σ H Q => t σ H fun vs H1 => r vs H1 Q
/-- f(e, ..), f a built-in function -/
theorem pe_callB (hc : CallR X (.builtin id) r) (hg : Gl X x) (hm : X.mg x = none) (hv : bootBuiltins x = some (.builtin id)) (ha : PA X (e :: es) t) (hn : x ≠ "__name__" := by decide) (hdb : (x == ("__debug__" : Str)) = false := by decide)
    (he : starEach (e :: es) X.env = (false, eval e X.env) :: starEach es X.env := by rfl) (hpl : (backTo pos (starEach es X.env)).any (·.1) = false := by rfl) : PE X (.Call (.Name x p) (e :: es) [] pos) (tCB r t) := by
  intro pins s σ H Q I h
  refine wpAny_Call_Name_kw (ld_blt I hg hm hv ?_ hn hdb)
  exact PyProof.Rows.callWith_builtin1 (thn (ha pos pins s σ H _ I h) fun us s1 ⟨vs, H1, I1, r1, q1⟩ => hc pins s1 σ H1 vs us Q I1 r1 q1) he hpl
/-- T(e, ..), T a built-in type -/
theorem pe_callTy (hc : CallR X (.type T) r) (hg : Gl X x) (hm : X.mg x = none) (hv : bootBuiltins x = some (.type T)) (ha : PA X (e :: es) t) (hn : x ≠ "__name__" := by decide) (hdb : (x == ("__debug__" : Str)) = false := by decide)
    (he : starEach (e :: es) X.env = (false, eval e X.env) :: starEach es X.env := by rfl) (hpl : (backTo pos (starEach es X.env)).any (·.1) = false := by rfl) : PE X (.Call (.Name x p) (e :: es) [] pos) (tCB r t) := by
  intro pins s σ H Q I h
  refine wpAny_Call_Name_kw (ld_blt I hg hm hv ?_ hn hdb)
  exact PyProof.Rows.callWith_type1 (thn (ha pos pins s σ H _ I h) fun us s1 ⟨vs, H1, I1, r1, q1⟩ => hc pins s1 σ H1 vs us Q I1 r1 q1) he hpl
end
end L2
namespace HT
open PySem PyProof.Rows
section
open PySem.SeqAt
open PySem.AutoSeq1 (wpAny_loadPart')
open PySem.MeetsSeq PySem.MeetsSeq2 PySem.MeetsSeq3
end
section
variable {prog : Program} {w : World} {A : Around} {E : Value → Shared → Prop} {s : Shared}
/-- t + u, t not empty -/
theorem cat_tup {t b : Addr} {vs ws : List Value} {Q : Value → Shared → Prop} (ht : IsTup s.heap t vs.toArray) (hb : IsTup s.heap b ws.toArray) (hv : vs ≠ [])
    (h1 : ws = [] → Q (.ref t) s) (h2 : ws ≠ [] → Q (.ref s.heap.objs.size) { s with heap := s.heap.push { cls := .type "tuple", data := .seq (vs ++ ws).toArray } })
    (hsz : vs.length + ws.length ≤ sizeLine) : wpAny (model prog w) A (binaryOp .Add (.ref t) (.ref b)) Q E s := by
  obtain ⟨⟨cls, dd, data, sl⟩, ho, hc, n, hd⟩ := id ht
  obtain ⟨⟨cls2, dd2, data2, sl2⟩, ho2, hc2, n2, hd2⟩ := id hb
  simp only at hc hd hc2 hd2
  subst hc hd hc2 hd2
  have e : vs.toArray ++ ws.toArray = (vs ++ ws).toArray := by simp
  by_cases hw : ws = []
  · exact concat_meets ⟨_, ho, rfl⟩ ⟨_, ho2, rfl⟩ noFill_tuple_add seq_tuple_add PySem.F.slot_tuple_add PySem.F.entry_tuple_add (PySem.F.args_tuple_add_2 _ _)
      (tuple_addW1 t b vs.toArray ws.toArray n n2 dd dd2 sl sl2 (by simpa using hv) (by simp [hw])) ⟨ho, ho2, h1 hw⟩
  · refine concat_meets ⟨_, ho, rfl⟩ ⟨_, ho2, rfl⟩ noFill_tuple_add seq_tuple_add PySem.F.slot_tuple_add PySem.F.entry_tuple_add (PySem.F.args_tuple_add_2 _ _)
      (tuple_addW2 t b vs.toArray ws.toArray n n2 dd dd2 sl sl2 (by simpa using hv) (by simpa using hw) (by rw [List.size_toArray, List.size_toArray]; exact hsz)) ⟨ho, ho2, ?_⟩
    rw [e]
    exact h2 hw
/-- a slice's bound as a place among n (d where it is left out) -/
def sIx (n d : Nat) : Option Int → Nat
  | none => d
  | some v => if v < 0 then (v + (n : Int)).toNat else min v.toNat n
theorem sIx_none (n d : Nat) : sIx n d none = d := rfl
theorem sIx_nat (n d k : Nat) : sIx n d (some (k : Int)) = min k n := by
  show (if (k : Int) < 0 then ((k : Int) + (n : Int)).toNat else min (k : Int).toNat n) = min k n
  rw [if_neg (by omega), Int.toNat_natCast]
theorem sIx_le (n d : Nat) (hd : d ≤ n) (o : Option Int) : sIx n d o ≤ n := by
  cases o with
  | none => exact hd
  | some v =>
    show (if v < 0 then (v + (n : Int)).toNat else min v.toNat n) ≤ n
    by_cases hv : v < 0
    · rw [if_pos hv]; omega
    · rw [if_neg hv]; exact Nat.min_le_right _ _
theorem clip_eq (v : Int) (n d : Nat) : (if v < 0 then max (v + (n : Int)) 0 else min v (n : Int)) = ((sIx n d (some v) : Nat) : Int) := by
  show (if v < 0 then max (v + (n : Int)) 0 else min v (n : Int)) = (((if v < 0 then (v + (n : Int)).toNat else min v.toNat n) : Nat) : Int)
  by_cases hv : v < 0
  · simp only [if_pos hv]; omega
  · simp only [if_neg hv]; omega
theorem adjust_gen (lo hi : Option Int) (n : Nat) : Builtin.Slice.sliceAdjust lo hi 1 (n : Int) = (((sIx n 0 lo : Nat) : Int), ((sIx n n hi : Nat) : Int)) := by
  have h1 : ¬ ((1 : Int) < 0) := by omega
  unfold Builtin.Slice.sliceAdjust
  simp only [h1, if_false]
  refine Prod.ext ?_ ?_
  · cases lo with
    | none => rfl
    | some v => exact clip_eq v n 0
  · cases hi with
    | none => rfl
    | some v => exact clip_eq v n n
theorem places_gen (i j : Nat) : Builtin.Slice.slicePlaces (i : Int) (j : Int) 1 = j - i := by
  unfold Builtin.Slice.slicePlaces
  have h1 : (1 : Int) > 0 := by omega
  simp only [h1, if_true, Int.ediv_one]
  split <;> omega
theorem slicePart_ {v : Value} {o : Option Int} {Q : Option Int → Shared → Prop} (p : IsPart v o) (h : Q o s) : wpAny (model prog w) A (Builtin.Slice.slicePartIndex v) Q E s := by
  cases p with
  | none => exact slicePart_none h
  | int i t => exact slicePart_int h
theorem sliceApplied_gen {sl : Addr} {vl vu : Value} {lo hi : Option Int} {n : Nat} {Q : Int × Int × Nat → Shared → Prop} (hs : s.heap.IsSliceOf sl vl vu .none) (pl : IsPart vl lo) (pu : IsPart vu hi)
    (h : Q (((sIx n 0 lo : Nat) : Int), 1, sIx n n hi - sIx n 0 lo) s) : wpAny (model prog w) A (Builtin.Slice.sliceApplied (.ref sl) (pure (n : Int))) Q E s := by
  obtain ⟨os, hos, hcs, hds⟩ := id hs
  unfold Builtin.Slice.sliceApplied Builtin.Slice.sliceFields
  refine wpAny_bind (wpAny_bind (wpAny_field hos hds (x := vl) rfl (wpAny_bind (wpAny_field hos hds (x := vu) rfl (wpAny_bind (wpAny_field hos hds (x := .none) rfl (wpAny_pure ?_)))))))
  refine wpAny_bind (slicePart_none ?_)
  show wpAny _ _ (if ((1 : Int) == 0) = true then _ else _) _ _ s
  rw [if_neg (by decide)]
  refine wpAny_bind (slicePart_ pl (wpAny_bind (slicePart_ pu (wpAny_bind (wpAny_pure ?_)))))
  show wpAny _ _ (match Builtin.Slice.sliceAdjust lo hi 1 (n : Int) with | (lo, hi) => pure (lo, (1 : Int), Builtin.Slice.slicePlaces lo hi 1)) _ _ s
  rw [adjust_gen lo hi n]
  show wpAny _ _ (pure (((sIx n 0 lo : Nat) : Int), (1 : Int), Builtin.Slice.slicePlaces ((sIx n 0 lo : Nat) : Int) ((sIx n n hi : Nat) : Int) 1)) _ _ s
  rw [places_gen]
  exact wpAny_pure h
theorem pick_gen (xs : Array Value) (i k : Nat) : ((List.range k).filterMap fun (m : Nat) => xs[((i : Int) + (m : Int) * 1).toNat]?).toArray = ((xs.toList.drop i).take k).toArray := by
  have e : (fun (m : Nat) => xs[((i : Int) + (m : Int) * 1).toNat]?) = fun m => xs[i + m]? := by
    funext m
    have : ((i : Int) + (m : Int) * 1).toNat = i + m := by omega
    rw [this]
  rw [e]
  have := pick_run xs i k
  rw [List.filterMap_map] at this
  have e2 : ((fun x => xs[x]?) ∘ fun x => i + x) = fun m => xs[i + m]? := rfl
  rw [e2] at this
  rw [this]
theorem getItem_tuple_cut {t sl : Addr} {items : Array Value} {vl vu : Value} {lo hi : Option Int} {Q : Value → Shared → Prop} (ht : IsTup s.heap t items) (hs : s.heap.IsSliceOf sl vl vu .none) (pl : IsPart vl lo) (pu : IsPart vu hi)
    (hw : ¬ (sIx items.size 0 lo = 0 ∧ sIx items.size items.size hi = items.size))
    (h : Q (.ref s.heap.objs.size) { s with heap := s.heap.push { cls := .type "tuple", data := .seq ((items.toList.drop (sIx items.size 0 lo)).take (sIx items.size items.size hi - sIx items.size 0 lo)).toArray } })
    (hsz : items.size ≤ sizeLine) : wpAny (model prog w) A (getItem (.ref t) (.ref sl)) Q E s := by
  have htake : sizeOk (.seq ((items.toList.drop (sIx items.size 0 lo)).take (sIx items.size items.size hi - sIx items.size 0 lo)).toArray) := by
    show ((items.toList.drop (sIx items.size 0 lo)).take (sIx items.size items.size hi - sIx items.size 0 lo)).toArray.size ≤ sizeLine
    rw [List.size_toArray, List.length_take, List.length_drop, Array.length_toList]
    omega
  have hj : sIx items.size items.size hi ≤ items.size := sIx_le _ _ (Nat.le_refl _) hi
  obtain ⟨os, hos, hcs, hds⟩ := id hs
  have hTs : s.TypeIs (.ref sl) "slice" := ⟨os, hos, hcs⟩
  unfold getItem
  try with_reducible refine wpAny_holding ?_
  first | refine wpAny_bind (wpAny_pure ?_) | skip
  refine wpAny_bind (wpAny_sequenceKey ht.typeIs (by decide) ?_)
  refine wpAny_bind (wpAny_callSpecial?_slot (name := Str.ofString "__getitem__") ht.typeIs PyProof.Rows.slot_tuple_getitem
    (wpAny_call_entry PyProof.Rows.slot_tuple_getitem ht.typeIs entry_tuple_getitem ?_ (args_tuple_getitem _ _)))
  show wpAny _ _ (Builtin.Tuple.tupleItemsOf (.ref t) >>= _) _ _ s
  refine wpAny_bind (tupleItemsOf_ ht ?_)
  refine wpAny_bind (wpAny_typeOf hTs ?_)
  rw [if_pos (by decide)]
  refine wpAny_bind (sliceApplied_gen hs pl pu ?_)
  have hno : ¬ ((((sIx items.size 0 lo : Nat) : Int) == 0 && (1 : Int) == 1 && (sIx items.size items.size hi - sIx items.size 0 lo) == items.size) = true) := by
    intro q
    rw [Bool.and_eq_true, Bool.and_eq_true] at q
    have q1 : ((sIx items.size 0 lo : Nat) : Int) = 0 := eq_of_beq q.1.1
    have q2 : sIx items.size items.size hi - sIx items.size 0 lo = items.size := eq_of_beq q.2
    exact hw ⟨by omega, by omega⟩
  show wpAny _ _ (if (((sIx items.size 0 lo : Nat) : Int) == 0 && (1 : Int) == 1 && (sIx items.size items.size hi - sIx items.size 0 lo) == items.size) = true then _ else _) _ _ s
  rw [if_neg hno, pick_gen]
  first
    | exact wpAny_bind (m := Builtin.Tuple.tupleExact _) (wpAny_newObj_type (wpAny_pure ⟨_, rfl, wpAny_pure h⟩) htake)
    | exact wpAny_bind (m := Builtin.Tuple.tupleExact _) (wpAny_newObj_type (wpAny_bind (wpAny_pure (wpAny_pure ⟨_, rfl, wpAny_pure h⟩))) htake)
    | exact wpAny_bind (wpAny_bind (m := Builtin.Tuple.tupleExact _) (wpAny_newObj_type (wpAny_pure (wpAny_pure ⟨_, rfl, wpAny_pure h⟩)) htake))
    | exact wpAny_bind (wpAny_bind (m := Builtin.Tuple.tupleExact _) (wpAny_newObj_type (wpAny_pure ⟨_, rfl, wpAny_pure h⟩) htake))
end
end HT
namespace L2
open PySem PySem.Spec PyProof.Rows
abbrev TO := St → Hp → (Option Int → Hp → Prop) → Prop
/-- a slice's part (left out, or an int) -/
def PO (X : Cx) (e : Option Expr) (t : TO) : Prop :=
  ∀ (pins : List (Addr × Obj)) (s : Shared) (σ : St) (H : Hp) (Q : Option Int → Hp → Prop), Inv X pins σ H s → t σ H Q →
    wpAny (model X.prog X.w) X.A (evalPart e X.env) (fun u s' => ∃ o H', Inv X pins σ H' s' ∧ IsPart u o ∧ Q o H') X.xe s
def tNoPart : TO := fun _ H Q => Q none H
def tPart (t : TE) : TO := fun σ H Q => t σ H fun x H1 => ∃ i, x = .int i ∧ Q (some i) H1
section
variable {X : Cx} {e : Expr} {te : TE} {lo hi : Option Expr} {tl th : TO} {pos p2 : Pos}
theorem po_none : PO X none tNoPart := by
  intro pins s σ H Q I h
  rw [evalPart_none]
  exact wpAny_pure ⟨none, H, I, .none, h⟩
theorem po_some (h : PE X e te) : PO X (some e) (tPart te) := by
  intro pins s σ H Q I hw
  rw [evalPart_some]
  refine thn (h pins s σ H _ I hw) fun u s1 ⟨x, H1, I1, r1, q1⟩ => ?_
  obtain ⟨i, rfl, q⟩ := q1
  obtain ⟨t, rfl⟩ := r1
  exact ⟨some i, H1, I1, .int i t, q⟩
/-- what a slice of a value is, by values: the slice object stands at sl -/
def SlR (X : Cx) (r : V → Option Int → Option Int → Hp → VK → Prop) : Prop :=
  ∀ (pins : List (Addr × Obj)) (s : Shared) (σ : St) (H : Hp) (x : V) (v vl vu : Value) (lo hi : Option Int) (sl : Addr) (Q : VK), Inv X pins σ H s → RelV x v → s.heap.IsSliceOf sl vl vu .none → IsPart vl lo → IsPart vu hi → r x lo hi H Q →
    ∃ T id, typeLookup (.type T) "__getitem__" = pure (some (.builtin id)) ∧ s.TypeIs v T ∧ wpAny (model X.prog X.w) X.A (getItem v (.ref sl)) (EP X pins σ Q) X.xe s
def tSl (r : V → Option Int → Option Int → Hp → VK → Prop) (te : TE) (tl th : TO) : TE := fun σ H Q => te σ H fun x H1 => tl σ H1 fun l H2 => th σ H2 fun u H3 => r x l u H3 Q
/-- a[lo:hi], any a -/
theorem pe_slice {r : V → Option Int → Option Int → Hp → VK → Prop} (hr : SlR X r) (he : PE X e te) (hl : PO X lo tl) (hu : PO X hi th) : PE X (.Subscript e (.Slice lo hi none p2) pos) (tSl r te tl th) := by
  intro pins s σ H Q I h
  refine Subscript_ (thn (he pins s σ H _ I h) fun v s1 ⟨x, H1, I1, r1, q1⟩ => ?_)
  refine wpAny_Slice (thn (hl pins s1 σ H1 _ I1 q1) fun vl s2 ⟨l, H2, I2, pl, q2⟩ => thn (hu pins s2 σ H2 _ I2 q2) fun vu s3 ⟨u, H3, I3, pu, q3⟩ => ?_)
  rw [evalPart_none]
  refine wpAny_pure ?_
  have I4 : Inv X pins σ H3 { s3 with heap := s3.heap.push { cls := .type "slice", data := .fields #[vl, vu, .none] } } := I3.kept (t' := s3.toks) fun b ob q => Heap.get?_push_of_some _ q
  obtain ⟨T, id, hT, ht, hg⟩ := hr pins { s3 with heap := s3.heap.push { cls := .type "slice", data := .fields #[vl, vu, .none] } } σ H3 x v vl vu l u s3.heap.objs.size Q I4 r1 (Heap.IsSliceOf.new ..) pl pu q3
  show wpAny (model X.prog X.w) X.A (subscriptTail e (.Slice lo hi none p2) v (.ref s3.heap.objs.size)) (EP X pins σ Q) X.xe { s3 with heap := s3.heap.push { cls := .type "slice", data := .fields #[vl, vu, .none] } }
  exact tail_any (ops := [.ref s3.heap.objs.size, v]) ht hT hg (by with_unfolding_all rfl)
/-- the items of xs[lo:hi] -/
def cutV (xs : List V) (lo hi : Option Int) : List V := (xs.drop (HT.sIx xs.length 0 lo)).take (HT.sIx xs.length xs.length hi - HT.sIx xs.length 0 lo)
theorem cutV_length (xs : List V) (lo hi : Option Int) : (cutV xs lo hi).length ≤ xs.length := by
  unfold cutV
  rw [List.length_take, List.length_drop]
  omega
/-- t[lo:hi], not the whole of it (the whole would be t itself) -/
def rSlT (K : PySem.W.Frag) : V → Option Int → Option Int → Hp → VK → Prop := fun x lo hi H Q => ∃ a xs, x = .ref a ∧ SqT K H a xs ∧
  ¬ (HT.sIx xs.length 0 lo = 0 ∧ HT.sIx xs.length xs.length hi = xs.length) ∧ ∀ p, H p = none → Q (.ref p) (upd H p (.tup (cutV xs lo hi)))
theorem sl_tup : SlR X (rSlT X.K) := by
  intro pins s σ H x v vl vu lo hi sl Q I rx hs pl pu h
  obtain ⟨a, xs, rfl, hx, hw, q⟩ := h
  cases rx
  obtain ⟨its, r, ht, hz⟩ := I.tuple hx
  have hlen : its.toArray.size = xs.length := by rw [List.size_toArray]; exact r.length.symm
  refine ⟨"tuple", _, PyProof.Rows.slot_tuple_getitem.lookup, ht.typeIs, ?_⟩
  refine HT.getItem_tuple_cut ht hs pl pu (by rw [hlen]; exact hw) ?_ (by rw [hlen]; exact hz)
  rw [hlen]
  refine ⟨.ref s.heap.objs.size, _, I.laid (t' := s.toks) (o := .tup (cutV xs lo hi)) (fun b ob q => Heap.get?_push_of_some _ q) (Nat.le_refl _) ?_, rfl, q _ (I.hok.fresh (Nat.le_refl _))⟩
  exact ⟨Nat.le_trans (cutV_length xs lo hi) hz, _, (r.drop (HT.sIx xs.length 0 lo)).take (HT.sIx xs.length xs.length hi - HT.sIx xs.length 0 lo), IsTup.new _ _⟩
/-- t + u, t not empty: u empty gives t itself -/
def rCatT (K : PySem.W.Frag) : R2 := fun x y H Q => ∃ a b xs ys, x = .ref a ∧ y = .ref b ∧ SqT K H a xs ∧ SqT K H b ys ∧ xs ≠ [] ∧ xs.length + ys.length ≤ sizeLine ∧
  (ys = [] → Q (.ref a) H) ∧ (ys ≠ [] → ∀ p, H p = none → Q (.ref p) (upd H p (.tup (xs ++ ys))))
theorem Vals.nil_iff {xs : List V} {us : List Value} (r : Vals xs us) : us = [] ↔ xs = [] := by
  cases r with
  | nil => simp
  | cons _ _ => simp
theorem op_catT : OpR X (binaryOp .Add) (rCatT X.K) := by
  intro pins s σ H x y v u Q I rx ry h
  obtain ⟨a, b, xs, ys, rfl, rfl, ha, hb, hx, hz, q1, q2⟩ := h
  cases rx
  cases ry
  obtain ⟨its, r1, p1, _⟩ := I.tuple ha
  obtain ⟨its2, r2, p2, _⟩ := I.tuple hb
  refine HT.cat_tup p1 p2 (fun z => hx (r1.nil_iff.mp z)) (fun z => ⟨.ref a, H, I, rfl, q1 (r2.nil_iff.mp z)⟩) (fun z => ?_) (by rw [← r1.length, ← r2.length]; exact hz)
  refine ⟨.ref s.heap.objs.size, _, I.laid (t' := s.toks) (o := .tup (xs ++ ys)) (fun b ob q => Heap.get?_push_of_some _ q) (Nat.le_refl _) ?_, rfl, q2 (fun w => z (r2.nil_iff.mpr w)) _ (I.hok.fresh (Nat.le_refl _))⟩
  exact ⟨by rw [List.length_append]; exact hz, _, r1.append r2, IsTup.new _ _⟩
end
end L2
namespace L2
open PySem PySem.Spec PyProof.Rows
/-- the place that an index of any sign means -/
def ixN (n : Nat) (i : Int) : Option Nat := if 0 ≤ i then (if i < n then some i.toNat else none) else if -(n : Int) ≤ i then some (i + n).toNat else none
def atI {α : Type} (xs : List α) (i : Int) : Option α := (ixN xs.length i).bind fun j => xs[j]?
theorem ixN_seq {n : Nat} {i : Int} {j : Nat} (h : ixN n i = some j) : seqIndex? i n = some j ∧ j < n ∧ -(n : Int) ≤ i ∧ i < n := by
  unfold ixN at h
  by_cases h0 : 0 ≤ i
  · rw [if_pos h0] at h
    by_cases h1 : i < n
    · rw [if_pos h1] at h
      have e : i.toNat = j := Option.some.inj h
      exact ⟨by rw [seqIndex_of h0 h1, e], by omega, by omega, h1⟩
    · rw [if_neg h1] at h; cases h
  · rw [if_neg h0] at h
    by_cases h1 : -(n : Int) ≤ i
    · rw [if_pos h1] at h
      have e : (i + n).toNat = j := Option.some.inj h
      exact ⟨by rw [seqIndex_neg (by omega) h1, e], by omega, h1, by omega⟩
    · rw [if_neg h1] at h; cases h
theorem atI_get {α : Type} {xs : List α} {i : Int} {v : α} (h : atI xs i = some v) : ∃ j, seqIndex? i xs.length = some j ∧ xs[j]? = some v ∧ j < xs.length ∧ -(xs.length : Int) ≤ i ∧ i < xs.length := by
  unfold atI at h
  cases e : ixN xs.length i with
  | none => rw [e] at h; cases h
  | some j =>
    rw [e] at h
    obtain ⟨h1, h2, h3, h4⟩ := ixN_seq e
    exact ⟨j, h1, h, h2, h3, h4⟩
theorem atI_nat {α : Type} {xs : List α} {j : Nat} {v : α} (h : xs[j]? = some v) : atI xs (j : Int) = some v := by
  have hj : j < xs.length := (List.getElem?_eq_some_iff.mp h).1
  have e : ixN xs.length (j : Int) = some j := by
    unfold ixN
    rw [if_pos (by omega), if_pos (by omega)]; simp
  unfold atI; rw [e]; exact h
/-- what stands as an index of a plain subscript -/
def PlainIx (b : Expr) : Prop := ∀ o i, subscripted b false o i = operate [o, i] (getItem o i)
/-- a subscript by values -/
def IxR (X : Cx) (r : R2) : Prop :=
  ∀ (value slice : Expr) (pins : List (Addr × Obj)) (s : Shared) (σ : St) (H : Hp) (x y : V) (v u : Value) (Q : VK), Inv X pins σ H s → RelV x v → RelV y u → r x y H Q →
    subscripted slice false v u = operate [v, u] (getItem v u) → wpAny (model X.prog X.w) X.A (subscriptTail value slice v u) (EP X pins σ Q) X.xe s
/-- a call of a builtin's method by values: the receiver, the arguments -/
def MtR (X : Cx) (id : String) (r : V → List V → Hp → VK → Prop) : Prop :=
  ∀ (pins : List (Addr × Obj)) (s : Shared) (σ : St) (H : Hp) (x : V) (xs : List V) (v : Value) (us : List Value) (Q : VK), Inv X pins σ H s → RelV x v → Vals xs us → r x xs H Q →
    wpAny (model X.prog X.w) X.A (call (.builtin id) (v :: us)) (EP X pins σ Q) X.xe s
section
variable {X : Cx} {a b : Expr} {ta tb : TE} {pos : Pos}
/-- a[b] -/
theorem pe_ix {r : R2} (hr : IxR X r) (ha : PE X a ta) (hb : PE X b tb) (hs : PlainIx b) : PE X (.Subscript a b pos) (tOp r ta tb) := by
  intro pins s σ H Q I h
  exact Subscript_ (binT ha hb I h fun v u s2 x y H2 I2 rx ry q => hr a b pins s2 σ H2 x y v u Q I2 rx ry q (hs _ _))
def rIxL (K : PySem.W.Frag) : R2 := fun x y H Q => ∃ p xs i v, x = .ref p ∧ y = .int i ∧ SqL K H p xs ∧ atI xs i = some v ∧ Q v H
def rIxT (K : PySem.W.Frag) : R2 := fun x y H Q => ∃ p xs i v, x = .ref p ∧ y = .int i ∧ SqT K H p xs ∧ atI xs i = some v ∧ Q v H
def rIxS : R2 := fun x y H Q => ∃ z i c, x = .str z ∧ y = .int i ∧ z.length ≤ sizeLine ∧ atI z.cps.toList i = some c ∧ Q (.str ⟨#[c]⟩) H
theorem ix_list : IxR X (rIxL X.K) := by
  intro value slice pins s σ H x y v u Q I rx ry h hs
  obtain ⟨p, xs, i, z, rfl, rfl, hq, he, q⟩ := h
  cases rx
  obtain ⟨t, rfl⟩ := ry
  obtain ⟨its, r, pl, hz⟩ := I.list hq
  obtain ⟨j, h1, h2, h3, h4, h5⟩ := atI_get he
  obtain ⟨w, ew, rw'⟩ := r.get h2
  have hl := r.length
  have hn := line63
  have fin : EP X pins σ Q w s := ⟨z, H, I, rw', q⟩
  by_cases h0 : 0 ≤ i
  · have hj : i.toNat = j := by
      rw [seqIndex_of h0 h5] at h1
      exact Option.some.inj h1
    exact item_listR pl.isList h0 (by omega) (by rw [hj]; simpa using ew) fin hs
  · have hj : (i + (its.toArray.size : Int)).toNat = j := by
      rw [seqIndex_neg (by omega) h4] at h1
      rw [List.size_toArray, ← hl]
      exact Option.some.inj h1
    exact subscriptTail_builtinR (x := w) pl.isList.typeIs slot_list_getitem.lookup
      (wpAny_getItem_list_neg (Q := fun r s' => r = w ∧ EP X pins σ Q r s') pl.isList (by omega) (by rw [List.size_toArray] <;> omega) (by omega) (by rw [hj]; simpa using ew) ⟨rfl, fin⟩) hs
theorem ix_tup : IxR X (rIxT X.K) := by
  intro value slice pins s σ H x y v u Q I rx ry h hs
  obtain ⟨p, xs, i, z, rfl, rfl, hq, he, q⟩ := h
  cases rx
  obtain ⟨t, rfl⟩ := ry
  obtain ⟨its, r, pl, hz⟩ := I.tuple hq
  obtain ⟨j, h1, h2, h3, h4, h5⟩ := atI_get he
  obtain ⟨w, ew, rw'⟩ := r.get h2
  have hl := r.length
  have hn := line63
  have fin : EP X pins σ Q w s := ⟨z, H, I, rw', q⟩
  exact subscriptTail_builtinR (x := w) pl.typeIs slot_tuple_getitem.lookup
    (getItem_tuple (j := j) (Q := fun r s' => r = w ∧ EP X pins σ Q r s') pl (by omega) (by omega) (by rw [List.size_toArray, ← hl]; exact h1) (by simpa using ew) ⟨rfl, fin⟩) hs
theorem ix_str : IxR X rIxS := by
  intro value slice pins s σ H x y v u Q I rx ry h hs
  obtain ⟨z, i, c, rfl, rfl, hz, he, q⟩ := h
  obtain ⟨t, rfl⟩ := rx
  obtain ⟨t', rfl⟩ := ry
  obtain ⟨j, h1, h2, h3, h4, h5⟩ := atI_get he
  have hl : z.cps.toList.length = z.length := by simp [Str.length]
  rw [hl] at h1 h4 h5
  have hn := line63
  exact tail_any (typeIs_str s z t) slot_str_getitem.lookup (getItem_str (c := c) (by
    have e1 : decide (i < -(2 ^ 63 : Int)) = false := decide_eq_false (by omega)
    have e2 : decide (i ≥ 2 ^ 63) = false := decide_eq_false (by omega)
    rw [e1, e2, Bool.or_false]) (by rw [h1]; simpa using h2) ⟨.str ⟨#[c]⟩, H, I.tok _, ⟨_, rfl⟩, q⟩) hs
theorem Inv.lst {pins : List (Addr × Obj)} {σ : St} {H : Hp} {s : Shared} {p : Addr} {xs : List V} (I : Inv X pins σ H s) (h : H p = some (.lst xs)) :
    ∃ (its : List Value) (n : Nat), Vals xs its ∧ s.heap.get? p = some { cls := .type "list", data := .seq its.toArray n } ∧ xs.length ≤ sizeLine := by
  obtain ⟨z, its, n, r, e⟩ := I.hok p _ h
  exact ⟨its, n, r, e, z⟩
theorem slice_bounds (lo hi : Option Int) (n : Nat) : (sliceBounds lo hi none n).1 = ((HT.sIx n 0 lo : Nat) : Int) ∧ (sliceBounds lo hi none n).2.1 = ((HT.sIx n n hi : Nat) : Int) ∧ (sliceBounds lo hi none n).2.2 = 1 := by
  refine ⟨?_, ?_, rfl⟩
  · cases lo with
    | none => simp [sliceBounds, HT.sIx]
    | some i =>
      simp only [sliceBounds, HT.sIx, Option.getD_none, show (1 : Int) > 0 by decide, if_true]
      by_cases h : i < 0
      · simp only [h, if_true] <;> omega
      · simp only [h, if_false] <;> omega
  · cases hi with
    | none => simp [sliceBounds, HT.sIx]
    | some i =>
      simp only [sliceBounds, HT.sIx, Option.getD_none, show (1 : Int) > 0 by decide, if_true]
      by_cases h : i < 0
      · simp only [h, if_true] <;> omega
      · simp only [h, if_false] <;> omega
theorem slicePick_cut (its : List Value) (lo hi : Option Int) : slicePick its.toArray lo hi none = ((its.drop (HT.sIx its.length 0 lo)).take (HT.sIx its.length its.length hi - HT.sIx its.length 0 lo)).toArray := by
  obtain ⟨h1, h2, h3⟩ := slice_bounds lo hi its.toArray.size
  unfold slicePick
  rw [h1, h2, h3]
  simp only [sliceRange_one, pick_run, List.size_toArray] <;> rfl
/-- xs[lo:hi] of a list: a new list -/
def rSlL (K : PySem.W.Frag) : V → Option Int → Option Int → Hp → VK → Prop := fun x lo hi H Q => ∃ a xs, x = .ref a ∧ SqL K H a xs ∧ ∀ p, H p = none → Q (.ref p) (upd H p (.lst (cutV xs lo hi)))
theorem sl_list : SlR X (rSlL X.K) := by
  intro pins s σ H x v vl vu lo hi sl Q I rx hs pl pu h
  obtain ⟨a, xs, rfl, hx, q⟩ := h
  cases rx
  obtain ⟨its, r, ht, hz⟩ := I.list hx
  have hlen := r.length
  refine ⟨"list", _, slot_list_getitem.lookup, ht.isList.typeIs, ?_⟩
  refine wpAny_getItem_list_slice ht.isList hs pl pu .none (by simp) ?_ (by rw [List.size_toArray] <;> omega)
  rw [slicePick_cut, ← hlen]
  refine ⟨.ref s.heap.objs.size, _, I.laid (t' := s.toks) (o := .lst (cutV xs lo hi)) (fun b ob q => Heap.get?_push_of_some _ q) (Nat.le_refl _) ?_, rfl, q _ (I.hok.fresh (Nat.le_refl _))⟩
  exact ⟨Nat.le_trans (cutV_length xs lo hi) hz, _, 0, (r.drop (HT.sIx xs.length 0 lo)).take (HT.sIx xs.length xs.length hi - HT.sIx xs.length 0 lo), Heap.get?_push_size _ rfl⟩
def flatV : V → Bool
  | .non => true
  | .bl _ => true
  | .int _ => true
  | .str _ => true
  | _ => false
/-- == of flat values -/
def eqV : V → V → Bool
  | .non, .non => true
  | .bl a, .bl b => a == b
  | .bl a, .int b => (if a then 1 else 0) == b
  | .int a, .bl b => a == (if b then 1 else 0)
  | .int a, .int b => a == b
  | .str a, .str b => a == b
  | _, _ => false
theorem eqAt_V {A : Around} {s : Shared} {y x : V} {u v : Value} (ry : RelV y u) (rx : RelV x v) (fy : flatV y = true) (fx : flatV x = true) : SeqAt.EqAt A s u v (eqV y x) := by
  cases y with
  | non =>
    cases ry
    cases x with
    | non => cases rx; exact SeqAt.EqAt.same _
    | bl b => cases rx; exact SeqAt.EqAt.none_bool b
    | int b => obtain ⟨t, rfl⟩ := rx; exact SeqAt.EqAt.none_int b t
    | str b => obtain ⟨t, rfl⟩ := rx; exact SeqAt.EqAt.none_str b t
    | _ => exact absurd (show false = true from fx) Bool.false_ne_true
  | bl a =>
    cases ry
    cases x with
    | non => cases rx; exact SeqAt.EqAt.bool_none a
    | bl b => cases rx; exact SeqAt.EqAt.bool_bool a b
    | int b => obtain ⟨t, rfl⟩ := rx; exact SeqAt.EqAt.bool_int a b t
    | str b => obtain ⟨t, rfl⟩ := rx; exact SeqAt.EqAt.bool_str a b t
    | _ => exact absurd (show false = true from fx) Bool.false_ne_true
  | int a =>
    obtain ⟨t', rfl⟩ := ry
    cases x with
    | non => cases rx; exact SeqAt.EqAt.int_none a t'
    | bl b => cases rx; exact SeqAt.EqAt.int_bool a t' b
    | int b => obtain ⟨t, rfl⟩ := rx; exact SeqAt.EqAt.int_int a t' b t
    | str b => obtain ⟨t, rfl⟩ := rx; exact SeqAt.EqAt.int_str a t' b t
    | _ => exact absurd (show false = true from fx) Bool.false_ne_true
  | str a =>
    obtain ⟨t', rfl⟩ := ry
    cases x with
    | non => cases rx; exact SeqAt.EqAt.str_none a t'
    | bl b => cases rx; exact SeqAt.EqAt.str_bool a t' b
    | int b => obtain ⟨t, rfl⟩ := rx; exact SeqAt.EqAt.str_int a t' b t
    | str b => obtain ⟨t, rfl⟩ := rx; exact SeqAt.EqAt.str_str a t' b t
    | _ => exact absurd (show false = true from fx) Bool.false_ne_true
  | _ => exact absurd (show false = true from fy) Bool.false_ne_true
/-- the items' answers, read off the values (a value's own answer does not lean on its token) -/
def eqU (x : V) (u : Value) : Bool := match u with
  | .none => eqV .non x
  | .bool b => eqV (.bl b) x
  | .int i _ => eqV (.int i) x
  | .str z _ => eqV (.str z) x
  | _ => false
theorem eqU_of {x y : V} {u : Value} (r : RelV y u) (f : flatV y = true) : eqU x u = eqV y x := by
  cases y with
  | non => cases r; rfl
  | bl b => cases r; rfl
  | int i => obtain ⟨t, rfl⟩ := r; rfl
  | str z => obtain ⟨t, rfl⟩ := r; rfl
  | _ => exact absurd (show false = true from f) Bool.false_ne_true
theorem any_eqU {x : V} : ∀ {xs : List V} {us : List Value}, Vals xs us → xs.all flatV = true → us.any (eqU x) = xs.any fun y => eqV y x
  | _, _, .nil, _ => rfl
  | y :: xs, u :: us, .cons r t, f => by
    rw [List.all_cons, Bool.and_eq_true] at f
    rw [List.any_cons, List.any_cons, eqU_of r f.1, any_eqU t f.2]
theorem mem_eqAt {A : Around} {s : Shared} {x : V} {v : Value} (rx : RelV x v) (fx : flatV x = true) : ∀ {xs : List V} {us : List Value}, Vals xs us → xs.all flatV = true → ∀ u ∈ us, SeqAt.EqAt A s u v (eqU x u)
  | _, _, .nil, _ => fun u hu => by cases hu
  | y :: xs, u :: us, .cons r t, f => fun u' hu => by
    rw [List.all_cons, Bool.and_eq_true] at f
    rcases List.mem_cons.mp hu with rfl | hu
    · rw [eqU_of r f.1]; exact eqAt_V r rx f.1 fx
    · exact mem_eqAt rx fx t f.2 u' hu
def inV (x : V) (xs : List V) : Bool := xs.any fun y => eqV y x
/-- x in a list or tuple of flat items -/
def rIn (K : PySem.W.Frag) (neg : Bool) : R2 := fun x y H Q => ∃ p xs, y = .ref p ∧ (SqL K H p xs ∨ SqT K H p xs) ∧ flatV x = true ∧ xs.all flatV = true ∧ Q (.bl (if neg then !inV x xs else inV x xs)) H
theorem op_in_seq : OpR X (compareOp .In) (rIn X.K false) := by
  intro pins s σ H x y v u Q I rx ry h
  obtain ⟨p, xs, rfl, hq, fx, fs, q⟩ := h
  cases ry
  rcases hq with hq | hq
  · obtain ⟨its, r, pl, hz⟩ := I.list hq
    refine SeqAt.in_listAt (eqU x) pl.isList (fun w hw => mem_eqAt rx fx r fs w (by simpa using hw)) ⟨.bl _, H, I, rfl, ?_⟩
    rw [show its.toArray.any (eqU x) = its.any (eqU x) by simp, any_eqU r fs]
    exact q
  · obtain ⟨its, r, pl, hz⟩ := I.tuple hq
    refine SeqAt.in_tupleAt (eqU x) pl (fun w hw => mem_eqAt rx fx r fs w (by simpa using hw)) ⟨.bl _, H, I, rfl, ?_⟩
    rw [show its.toArray.any (eqU x) = its.any (eqU x) by simp, any_eqU r fs]
    exact q
theorem call_len_seq : CallR X (.builtin "len") (fun xs H Q => ∃ p ys, xs = [.ref p] ∧ (SqL X.K H p ys ∨ SqT X.K H p ys) ∧ Q (.int ys.length) H) := by
  intro pins s σ H xs us Q I r h
  obtain ⟨p, ys, rfl, hq, q⟩ := h
  obtain ⟨u, rfl, rx⟩ := vals1 r
  cases rx
  have hn := line63
  rcases hq with hq | hq
  · obtain ⟨its, r', pl, hz⟩ := I.list hq
    have hlen := r'.length
    exact Calls.call_len_list pl.isList (by simp only [List.size_toArray] <;> omega) ⟨.int ys.length, H, I.tok _, ⟨s.toks + 1, by rw [List.size_toArray, hlen]⟩, q⟩
  · obtain ⟨its, r', pl, hz⟩ := I.tuple hq
    have hlen := r'.length
    exact len_tuple pl (by simp only [List.size_toArray] <;> omega) ⟨.int ys.length, H, I.tok _, ⟨s.toks + 1, by rw [List.size_toArray, hlen]⟩, q⟩
theorem call_len_str : CallR X (.builtin "len") (fun xs H Q => ∃ z, xs = [.str z] ∧ z.length ≤ sizeLine ∧ Q (.int z.length) H) := by
  intro pins s σ H xs us Q I r h
  obtain ⟨z, rfl, hz, q⟩ := h
  obtain ⟨u, rfl, t, rfl⟩ := vals1 r
  have hn := line63
  exact len_str (by omega) ⟨.int z.length, H, I.tok _, ⟨_, rfl⟩, q⟩
theorem call_list_of : CallR X (.type "list") (fun xs H Q => ∃ p ys, xs = [.ref p] ∧ (SqL X.K H p ys ∨ SqT X.K H p ys) ∧ ∀ l, H l = none → Q (.ref l) (upd H l (.lst ys))) := by
  intro pins s σ H xs us Q I r h
  obtain ⟨p, ys, rfl, hq, q⟩ := h
  obtain ⟨u, rfl, rx⟩ := vals1 r
  cases rx
  have fin : ∀ (its : List Value), Vals ys its → ys.length ≤ sizeLine → ∀ (h' : Heap) (c' : Nat), (∀ b o', s.heap.get? b = some o' → h'.get? b = some o') →
      h'.get? s.heap.objs.size = some { cls := .type "list", dict := none, data := .seq its.toArray c', slots := #[] } → EP X pins σ Q (.ref s.heap.objs.size) { s with heap := h' } := fun its r' hz h' c' kp e =>
    ⟨.ref s.heap.objs.size, _, I.laid (t' := s.toks) kp (Nat.le_refl _) (show ObjOk X.prog X.w _ h' _ (.lst ys) from ⟨hz, its, c', r', e⟩), rfl, q _ (I.hok.fresh (Nat.le_refl _))⟩
  rcases hq with hq | hq
  · obtain ⟨its, r', pl, hz⟩ := I.list hq
    have hlen := r'.length
    obtain ⟨o, ho, hc, n, hd⟩ := pl.isList
    exact call_list_seq p (.inl rfl) ho hc hd (fun h' c' kp e => fin its r' hz h' c' kp e) (by simp only [List.size_toArray] <;> omega)
  · obtain ⟨its, r', pl, hz⟩ := I.tuple hq
    have hlen := r'.length
    obtain ⟨o, ho, hc, n, hd⟩ := pl
    exact call_list_seq p (.inr rfl) ho hc hd (fun h' c' kp e => fin its r' hz h' c' kp e) (by simp only [List.size_toArray] <;> omega)
theorem call_tuple_of : CallR X (.type "tuple") (fun xs H Q => ∃ p ys, xs = [.ref p] ∧ ((SqL X.K H p ys ∧ ∀ l, H l = none → Q (.ref l) (upd H l (.tup ys))) ∨ (SqT X.K H p ys ∧ Q (.ref p) H))) := by
  intro pins s σ H xs us Q I r h
  obtain ⟨p, ys, rfl, h⟩ := h
  obtain ⟨u, rfl, rx⟩ := vals1 r
  cases rx
  rcases h with ⟨hq, q⟩ | ⟨hq, q⟩
  · obtain ⟨its, r', pl, hz⟩ := I.list hq
    have hlen := r'.length
    refine call_tuple_list pl.isList (fun h' kp => ?_) (by simp only [List.size_toArray] <;> omega)
    have I1 : Inv X pins σ H { s with heap := h' } := I.kept (t' := s.toks) kp
    have I2 : Inv X pins σ (upd H h'.objs.size (.tup ys)) { s with heap := h'.push { cls := .type "tuple", data := .seq its.toArray } } :=
      I1.laid (t' := s.toks) (fun b o e => Heap.get?_push_of_some _ e) (Nat.le_refl _) (show ObjOk X.prog X.w _ _ _ (.tup ys) from ⟨hz, its, r', IsTup.new _ _⟩)
    exact ⟨.ref h'.objs.size, _, I2, rfl, q _ (I1.hok.fresh (Nat.le_refl _))⟩
  · obtain ⟨its, r', pl, hz⟩ := I.tuple hq
    exact call_tuple_same pl ⟨.ref p, H, I, rfl, q⟩
/-- the value is of that builtin type -/
def tyV (K : PySem.W.Frag) (T : String) (x : V) (H : Hp) : Prop := match x with
  | .str _ => T = "str"
  | .int _ => T = "int"
  | .ref p => (T = "list" ∧ ∃ xs, SqL K H p xs) ∨ (T = "tuple" ∧ ∃ o, K.lookup p = some o ∧ o.cls = .type "tuple" ∧ o.dict = none) ∨
      (T = "dict" ∧ ((∃ kvs, H p = some (.dK kvs)) ∨ ∃ kvs, H p = some (.dT kvs))) ∨ (T = "set" ∧ ∃ S n, H p = some (.set S n))
  | _ => False
theorem tyV_is {pins : List (Addr × Obj)} {σ : St} {H : Hp} {s : Shared} {T : String} {x : V} {v : Value} (I : Inv X pins σ H s) (r : RelV x v) (ty : tyV X.K T x H) :
    s.TypeIs v T ∧ ∀ a, v = .ref a → ∃ ob, s.heap.get? a = some ob ∧ ob.dict = none := by
  cases x with
  | str z =>
    obtain ⟨t, rfl⟩ := r
    cases (show T = "str" from ty)
    exact ⟨typeIs_str s z t, fun _ e => nomatch e⟩
  | int i =>
    obtain ⟨t, rfl⟩ := r
    cases (show T = "int" from ty)
    exact ⟨typeIs_int s i t, fun _ e => nomatch e⟩
  | ref p =>
    cases r
    rcases ty with ⟨rfl, xs, hq⟩ | ⟨rfl, o, hk, hc, hd⟩ | ⟨rfl, hk⟩ | ⟨rfl, S, n, hk⟩
    · obtain ⟨its, _, pl, _⟩ := I.list hq
      refine ⟨pl.isList.typeIs, fun a e => ?_⟩
      cases e
      obtain ⟨o, n, e, c, hd, _⟩ := pl
      exact ⟨o, e, hd⟩
    · refine ⟨⟨o, I.kIn p o hk, hc⟩, fun a e => ?_⟩
      cases e
      exact ⟨o, I.kIn _ o hk, hd⟩
    · have z : ∃ o, s.heap.get? p = some o ∧ o.ExactDict := by
        rcases hk with ⟨kvs, hk⟩ | ⟨kvs, hk⟩
        · obtain ⟨_, _, _, _, o, _, _, e, ex, _⟩ := I.hok p _ hk
          exact ⟨o, e, ex⟩
        · obtain ⟨_, _, _, _, o, _, _, e, ex, _⟩ := I.hok p _ hk
          exact ⟨o, e, ex⟩
      obtain ⟨o, e, ex⟩ := z
      refine ⟨⟨o, e, ex.1⟩, fun a e2 => ?_⟩
      cases e2
      exact ⟨o, e, ex.2.1⟩
    · obtain ⟨o, _, _, _, e, ex, _⟩ := I.hok p _ hk
      refine ⟨⟨o, e, ex.1⟩, fun a e2 => ?_⟩
      cases e2
      exact ⟨o, e, ex.2.1⟩
  | _ => exact False.elim ty
def tBM (K : PySem.W.Frag) (T : String) (r : V → List V → Hp → VK → Prop) (to : TE) (t : TA) : TE := fun σ H Q => to σ H fun x H1 => tyV K T x H1 ∧ t σ H1 fun xs H2 => r x xs H2 Q
variable {o e : Expr} {es : List Expr} {to : TE} {t : TA} {name : Str} {apos cpos : Pos} {T id : String} {r : V → List V → Hp → VK → Prop}
theorem pe_bm (pa : PlainAttrs T) (slot : Slot T name id) (hty : typeOf (.builtin id) = pure (.type "method_descriptor")) (hm : MtR X id r) (ho : PE X o to) (ha : PA X (e :: es) t)
    (hbase : attributeBase o name X.env (eval o X.env) = eval o X.env := by rfl)
    (hfew : ((backTo cpos (starEach (e :: es) X.env)).all (fun x => !x.1) && (backToKw cpos (keywordEach [] X.env)).all (fun x => x.1.isSome)
      && decide ((e :: es).length + ([] : List Keyword).length + (if ([] : List Keyword).isEmpty then 0 else 1) < 30)) = true := by rfl)
    (hline : (apos.endLine == cpos.line) = true := by rfl) (hs : starEach (e :: es) X.env = (false, eval e X.env) :: starEach es X.env := by rfl) (hplain : (backTo cpos (starEach es X.env)).any (·.1) = false := by rfl) :
    PE X (.Call (.Attribute o name apos) (e :: es) [] cpos) (tBM X.K T r to t) := by
  intro pins s σ H Q I h
  refine wpAny_Call_method_late hbase hfew hline rfl (thn (ho pins s σ H _ I h) fun v s1 ⟨x, H1, I1, r1, ty, q1⟩ => ?_)
  obtain ⟨h1, h2⟩ := tyV_is I1 r1 ty
  refine ⟨T, id, pa, slot, hty, h1, h2, ?_⟩
  have hA := ha cpos pins s1 σ H1 _ I1 q1
  rw [hs] at hA ⊢
  refine Calls.callWith_builtin (by show (false || (backTo cpos (starEach es X.env)).any (·.1)) = false; rw [hplain] <;> rfl) (Calls.evalArgs_plain ?_)
  exact thn hA fun us s2 ⟨vs, H2, I2, r2, q2⟩ => hm pins s2 σ H2 x vs v us Q I2 r1 r2 q2
/- xs.append(e), list.index on a module's tuple .. are MtR facts of 06m -/
end
end L2
namespace L2
open PySem PySem.Spec PyProof.Rows
def MtM (X : Cx) (id : String) (r : V → List V → Hp → VK → Prop) : Prop :=
  ∀ (pins : List (Addr × Obj)) (s : Shared) (σ : St) (H : Hp) (x : V) (xs : List V) (v : Value) (us : List Value) (Q : VK), Inv X pins σ H s → RelV x v → Vals xs us → r x xs H Q →
    wpAny (model X.prog X.w) X.A (call (.builtin id) (v :: us)) (EP X pins σ Q) X.xe s
theorem Vals.one : ∀ {x : V} {us : List Value}, Vals [x] us → ∃ u, us = [u] ∧ RelV x u
  | _, _, .cons r .nil => ⟨_, rfl, r⟩
theorem Vals.reverse {xs : List V} {us : List Value} (h : Vals xs us) : Vals xs.reverse us.reverse := by
  induction h with
  | nil => exact .nil
  | cons r t ih => rw [List.reverse_cons, List.reverse_cons]; exact Vals.append ih (.cons r .nil)
section
variable {X : Cx} {pins : List (Addr × Obj)} {σ : St} {H : Hp} {s : Shared} {l b : Addr} {xs ys zs : List V}
theorem Inv.lset {its its' : List Value} {n : Nat} {f : Array Value → Array Value} {t' : Nat} (I : Inv X pins σ H s) (hH : H l = some (.lst xs))
    (e : s.heap.get? l = some { cls := .type "list", data := .seq its.toArray n }) (hf : f its.toArray = its'.toArray) (hv : Vals ys its') (hz : ys.length ≤ sizeLine) :
    Inv X pins σ (upd H l (.lst ys)) { s with heap := s.heap.update l (Obj.mapSeq f), toks := t' } := by
  have q := PySem.IsL.update e f
  rw [hf] at q
  refine I.write (x := l) (e := l) (by rw [hH]; exact trivial) (.inl rfl) (fun b' u hb hu => (Heap.get?_update_other s.heap (Obj.mapSeq f) (Ne.symm hb)).trans hu) ⟨_, q⟩ ?_
  exact ⟨hz, its', _, hv, q⟩
theorem Inv.lnew {its : List Value} {t' : Nat} (I : Inv X pins σ H s) (hv : Vals ys its) (hz : ys.length ≤ sizeLine) :
    Inv X pins σ (upd H s.heap.objs.size (.lst ys)) { s with heap := s.heap.push { cls := .type "list", data := .seq its.toArray }, toks := t' } :=
  I.laid (fun _ _ q => Heap.get?_push_of_some _ q) (Nat.le_refl _) ⟨hz, its, 0, hv, Heap.get?_push_size _ rfl⟩
theorem Inv.fresh (I : Inv X pins σ H s) : H s.heap.objs.size = none := I.hok.fresh (Nat.le_refl _)
theorem Inv.lstM (I : Inv X pins σ H s) (hH : H l = some (.lst xs)) : xs.length ≤ sizeLine ∧ ∃ (its : List Value) (n : Nat), Vals xs its ∧ xs.length = its.length ∧ s.heap.get? l = some { cls := .type "list", data := .seq its.toArray n } := by
  obtain ⟨z, its, n, r, e⟩ := I.hok l _ hH
  exact ⟨z, its, n, r, r.length, e⟩
theorem notLongL {n : Nat} (h : n ≤ sizeLine) : Builtin.List.listTooLong n = false := by
  unfold Builtin.List.listTooLong
  exact decide_eq_false (by omega)
end
section
variable {X : Cx}
def rAppend : V → List V → Hp → VK → Prop := fun x vs H Q => ∃ l xs y, x = .ref l ∧ vs = [y] ∧ H l = some (.lst xs) ∧ xs.length < sizeLine ∧ Q .non (upd H l (.lst (xs ++ [y])))
theorem mt_append : MtM X "list.append" rAppend := by
  intro pins s σ H x vs v us Q I rx rv h
  obtain ⟨l, xs, y, rfl, rfl, hH, hz, q⟩ := h
  cases rx
  obtain ⟨u, rfl, ru⟩ := rv.one
  obtain ⟨z, its, n, r, hl, e⟩ := I.lstM hH
  refine call_meets F.slot_list_append ⟨_, e, rfl⟩ F.entry_list_append (F.args_list_append_2 _ _) (PySem.list_append l its.toArray n u (by rw [List.size_toArray]; omega)) ⟨e, ?_⟩
  refine ⟨.non, _, I.lset (its' := its ++ [u]) hH e (by simp) (r.append (.cons ru .nil)) ?_, rfl, q⟩
  rw [List.length_append, List.length_singleton]
  omega
def rExtend : V → List V → Hp → VK → Prop := fun x vs H Q => ∃ l b xs zs, x = .ref l ∧ vs = [.ref b] ∧ H l = some (.lst xs) ∧ H b = some (.lst zs) ∧ xs.length + zs.length ≤ sizeLine ∧ Q .non (upd H l (.lst (xs ++ zs)))
theorem mt_extend : MtM X "list.extend" rExtend := by
  intro pins s σ H x vs v us Q I rx rv h
  obtain ⟨l, b, xs, zs, rfl, rfl, hH, hB, hz, q⟩ := h
  cases rx
  obtain ⟨u, rfl, ru⟩ := rv.one
  cases ru
  obtain ⟨z, its, n, r, hl, e⟩ := I.lstM hH
  obtain ⟨z2, its2, n2, r2, hl2, e2⟩ := I.lstM hB
  have hsz : its.toArray.size + its2.toArray.size ≤ sizeLine := by rw [List.size_toArray, List.size_toArray]; omega
  have hlong : ¬ (!its.toArray.isEmpty && Builtin.List.listTooLong (its.toArray.size + its2.toArray.size)) = true := by
    rw [notLongL hsz, Bool.and_false]
    exact Bool.false_ne_true
  refine call_meets F.slot_list_extend ⟨_, e, rfl⟩ F.entry_list_extend (F.args_list_extend_2 _ _)
    (AutoSeq1.list_extend_list_list_0 l its.toArray n b its2.toArray n2 hlong (by rw [List.size_toArray]; omega) (by omega)) ⟨e, e2, ?_⟩
  refine ⟨.non, _, I.lset (its' := its ++ its2) hH e (by simp) (r.append r2) ?_, rfl, q⟩
  rw [List.length_append]
  omega
def rCat : R2 := fun x y H Q => ∃ l b xs zs, x = .ref l ∧ y = .ref b ∧ H l = some (.lst xs) ∧ H b = some (.lst zs) ∧ xs.length + zs.length ≤ sizeLine ∧ ∀ p, H p = none → Q (.ref p) (upd H p (.lst (xs ++ zs)))
theorem op_cat : OpR X (binaryOp .Add) rCat := by
  intro pins s σ H x y v u Q I rx ry h
  obtain ⟨l, b, xs, zs, rfl, rfl, hH, hB, hz, q⟩ := h
  cases rx
  cases ry
  obtain ⟨z, its, n, r, hl, e⟩ := I.lstM hH
  obtain ⟨z2, its2, n2, r2, hl2, e2⟩ := I.lstM hB
  refine PySem.P.add_list e e2 ?_ (by rw [List.size_toArray, List.size_toArray]; omega)
  have ea : its.toArray ++ its2.toArray = (its ++ its2).toArray := by simp
  rw [ea]
  exact ⟨.ref _, _, I.lnew (t' := s.toks) (r.append r2) (by rw [List.length_append]; omega), rfl, q _ I.fresh⟩
end
section
variable {prog : Program} {w : World} {A : Around} {E : Value → Shared → Prop} {s : Shared}
set_option maxRecDepth 100000 in
end
end L2
namespace Att
open PySem PySem.W PySem.Calls PyProof.Rows
theorem ints_of_wellAll {P : Params} {h : Heap} : ∀ (ns : List Int) (vs : List Value), WellAll P h vs (ns.map WData.int) → IntsAre vs ns := by
  intro ns
  induction ns with
  | nil =>
    intro vs w
    rw [List.map_nil] at w
    cases w
    exact .nil
  | cons n ns ih =>
    intro vs w
    rw [List.map_cons] at w
    cases w with
    | cons a b =>
      cases a
      exact .cons _ _ (ih _ b)
theorem script_of {l : OpenLaw} {n : Nat} (hn : l.most = some n) {P : Params} {h : Heap} {args : List WData} {vals : List Value}
    (hpre : l.row.toRowW.claim.pre args = true) (hwl : WellAll P h vals args) :
    ∃ a vs ns, vals = [Value.ref a] ∧ args = [WData.list (ns.map WData.int)] ∧ h.get? a = some { cls := .type "list", data := .seq vs.toArray } ∧ IntsAre vs ns ∧ ns.length ≤ n := by
  have hsh : WShape.hasAll [] args [.list .int] = true := (pre_splitW hpre).1
  have hc : l.pre.holds [] { args := args } = true := (pre_splitW hpre).2
  obtain ⟨d, r, rfl, h1, h2⟩ := hasAllW_cons hsh
  obtain rfl := hasAllW_nil h2
  obtain ⟨xs, rfl, h3⟩ := hasW_list h1
  obtain ⟨ns, rfl⟩ := items_int h3
  have hlen : ns.length ≤ n := by
    unfold OpenLaw.pre at hc
    have h4 : (WTm.not (.lt (.lit (.int (n : Int))) (.len (.arg 0)))).holds [] { args := [.list (ns.map .int)] } = true := by
      have h4 := (holds_andW hc).1
      rw [hn] at h4
      exact h4
    have h5 := condW_of h4 (w_not (w_lt w_lit (w_len_list (w_arg rfl))))
    rw [List.length_map] at h5
    refine Nat.le_of_not_lt fun q => ?_
    have q' : (n : Int) < ((ns.length : Nat) : Int) := by omega
    first
      | (rw [decide_eq_true q'] at h5; exact absurd h5 (by decide))
      | (simp at h5; omega)
  cases hwl with
  | cons w1 w2 =>
    cases w2
    cases w1 with
    | list ho hall => exact ⟨_, _, ns, rfl, rfl, ho, ints_of_wellAll ns _ hall, hlen⟩
theorem post_true (l : OpenLaw) (args : List WData) : l.row.toRowW.claim.post args (.bool true) args = true :=
  postW_of (r := l.row.toRowW) (X := (true == true))
    (show WShape.has [] (.bool true) .bool = true by first | rfl | decide | simp [WShape.has, WShape.arms, WShape.armsAll])
    (show (WTm.eq .res (.lit (.bool true))).value [] { args := args, res := some (.bool true), after := args } = some (.bool (true == true)) from w_eq_bool (w_res rfl) w_lit) rfl
/-- the same from a codeAny of the CALL (for a layer whose function contracts speak of calls) -/
theorem attach_call {l : OpenLaw} {n : Nat} {q : Program} {loose : List Str} {XP : (Str → Option Value) → Heap → Prop} {YP : World → Heap → Prop} {d : DefRec}
    (hn : l.most = some n) (hdf : d.params.defaults = [])
    (call : ∀ (w : World) (s₀ s₁ : Shared) (mg mb : Str → Option Value) (fa : Addr) (o : Obj) (pm cd doc : Value) (a : Addr) (vs : List Value) (ns : List Int),
      Ground q loose [] XP w s₀ mg mb s₁.heap → YP w s₁.heap →
      s₁.heap.get? fa = some o → o.data = .func (docDef d.name d.params d.body d.scope pm cd doc) → s₁.heap.CodeRec cd d.name → mg d.name = some (.ref fa) →
      s₁.heap.get? a = some { cls := .type "list", data := .seq vs.toArray } → IntsAre vs ns → ns.length ≤ n → s₁.gens = #[] →
      codeAny (model l.prog w) callerA (.call (.ref fa) ⟨[.ref a], []⟩) (fun r s' => r = .ok (.ret (.bool true)) ∧ OldK s₁.heap s'.heap ∧ s'.os = s₁.os ∧ AllBare s'.gens) s₁) :
    WalkO q loose XP YP l.row.toRowW d [] (fun f vs => PySem.call f vs) := by
  intro w s₀ s₁ mg mb G Y fa o pm cd doc dV kV ho hd hcd hD hmg hg args vals as hpre hlay hrd hwl hlo
  obtain rfl : dV = .none := Dflts.none hD hdf
  obtain rfl : kV = .none := Dflts.noKw hD
  obtain ⟨a, vs, ns, rfl, rfl, hobj, hints, hlen⟩ := script_of hn hpre hwl
  refine enter_call (codeAny_mono (call w s₀ s₁ mg mb fa o pm cd doc a vs ns G Y ho (fd_plain hd) hcd hmg hobj hints hlen hg) fun r s' hq => ?_)
  obtain ⟨rfl, h2, h3, h4⟩ := hq
  exact ⟨.inl ⟨.bool true, .bool true, [], rfl, fun _ => rfl, .bool true, post_true l _, fun _ => ⟨List.Pairwise.nil, fun _ hm => (nomatch hm)⟩⟩, h2, h3, h4⟩
end Att
namespace L2
open PySem PySem.Spec PyProof.Rows
theorem vals_ints : ∀ {vs : List Value} {ns : List Int}, IntsAre vs ns → Vals (ns.map V.int) vs
  | _, _, .nil => .nil
  | _, _, .cons n t h => .cons ⟨t, rfl⟩ (vals_ints h)
/-- nothing is tracked but the script, known to the object (or it is an object of the module) -/
def Only (H : Hp) : Prop := ∀ b, H b = none ∨ ∃ o xs, H b = some (.frz o (.lst xs))
/-- THE HEAD: the law's promise, at the heap behind the top. F, the promise of the law's def, may use that base is part of the heap (so K.In base, base.Ns mainGlobals mg stand in Mod) -/
theorem law_call {P : Program} {w : World} {K : PySem.W.Frag} {mg mb : Str → Option Value} {CX : CXT} {k : Nat} {fa a : Addr} {fd : FuncData} {x : Str} {sp : Sp} {s₁ : Shared} {vs : List Value} {ns : List Int}
    (KX : K.In s₁.heap) (hns : s₁.heap.Ns mainGlobals mg) (hb : s₁.heap.Ns builtinsNs mb) (hbb : ∀ x : Str, x ≠ "__name__" → mb x = bootBuiltins x) (hlim : s₁.heap.NoLimit) (hg : s₁.gens = #[])
    (ha : s₁.heap.get? a = some { cls := .type "list", data := .seq vs.toArray }) (hi : IntsAre vs ns) (hl : ns.length ≤ sizeLine) (hr : Room k callerA)
    (F : ∀ base : Heap, K.In base → base.Ns mainGlobals mg → FnOk P w K mg base CX k fa fd [x] sp) (hbind : ∀ (s : Shared) (u : Value), BindsTo s fd ⟨[u], []⟩ [(x, u)])
    (hsp : ∀ H : Hp, Only H → SqL K H a (ns.map V.int) → sp [.ref a] H (fun v _ => v = .bl true) fun _ _ _ => False)
    (hCX : ∀ H e s', CX [] H s₁ (fun _ _ _ => False) e s' → False) :
    codeAny (model P w) callerA (.call (.ref fa) ⟨[.ref a], []⟩) (fun r s' => r = .ok (.ret (.bool true)) ∧ OldK s₁.heap s'.heap ∧ s'.os = s₁.os ∧ AllBare s'.gens) s₁ := by
  have rv := vals_ints hi
  have lenV := hi.length
  -- from an abstract heap in which nothing but the script may be tracked
  have core : ∀ H : Hp, Only H → SqL K H a (ns.map V.int) → HOk P w H s₁.heap → (∀ b, H b ≠ none → b = a) → (H a ≠ none → K.lookup a = none) →
      codeAny (model P w) callerA (.call (.ref fa) ⟨[.ref a], []⟩) (fun r s' => r = .ok (.ret (.bool true)) ∧ OldK s₁.heap s'.heap ∧ s'.os = s₁.os ∧ AllBare s'.gens) s₁ := by
    intro H hO hS hok hA hK
    have base_of : ∀ {b : Addr} {o : Obj}, s₁.heap.get? b = some o → H b = none → (hidT s₁.heap H).get? b = some o := fun e n => hidT_get e n
    have noA : ∀ {b : Addr} {o : Obj} {es : Array DictEntry} {ep : Nat}, s₁.heap.get? b = some o → o.data = .dict es ep → H b = none := fun {b o es ep} e d => by
      cases q : H b with
      | none => rfl
      | some u =>
        have e' : b = a := hA b (by rw [q]; simp)
        subst e'
        rw [ha] at e; cases e
        have d' : Data.seq vs.toArray _ = Data.dict es ep := d
        cases d'
    have nsK : ∀ {b : Addr} {m : Str → Option Value}, s₁.heap.Ns b m → (hidT s₁.heap H).Ns b m := fun {b m} ⟨o, es, ep, e, d, r⟩ => ⟨o, es, ep, base_of e (noA e d), d, r⟩
    have hKb : K.In (hidT s₁.heap H) := fun b o e => base_of (KX b o e) (by
      cases q : H b with
      | none => rfl
      | some u =>
        have e' : b = a := hA b (by rw [q]; simp)
        subst e'
        rw [hK (by rw [q]; simp)] at e; cases e)
    have hM : Mod K mg (hidT s₁.heap H) := ⟨hKb, nsK hns, ⟨mb, nsK hb, hbb⟩, let ⟨mc, h1, h2⟩ := hlim; ⟨mc, nsK h1, h2⟩⟩
    have e0 : Env0 P w K mg (hidT s₁.heap H) callerA [] s₁ H := ⟨rfl, hM, fun b o e => of_hidT e, Nat.le_of_eq (hidT_size _ _), trivial, fun b hb => absurd (show b ∈ ([] : List Addr) from hb) (by simp), hok, .of_eq hg⟩
    refine codeAny_mono ((F _ hKb (nsK hns)).run callerA [] s₁ H ⟨[.ref a], []⟩ [.ref a] [.ref a] _ _ hr e0 (hbind s₁ (.ref a)) (.cons rfl .nil) (hsp H hO hS)) fun r s' h => ?_
    cases r with
    | error e => exact (hCX H e s' h).elim
    | ok fl =>
      cases fl with
      | next => exact False.elim h
      | brk => exact False.elim h
      | cont => exact False.elim h
      | ret u =>
        obtain ⟨v, H', os, bare, un, hok', r', q⟩ := h
        have q' : v = .bl true := q
        subst q'
        obtain rfl : u = Value.bool true := r'
        refine ⟨rfl, OldK.of_keep fun b o e => ?_, os, bare⟩
        cases q : H b with
        | none => exact un.keep b o e q (by intro z; exact absurd (show b ∈ ([] : List Addr) from z) (by simp)) (by simp)
        | some u =>
          rcases hO b with z | ⟨ob, xs, z⟩
          · rw [q] at z; cases z
          · have z2 := un.frzs b ob _ z
            obtain ⟨e1, _⟩ := hok b _ z
            obtain ⟨e2, _⟩ := hok' b _ z2
            rw [e] at e1; cases e1
            exact e2
  cases hk : K.lookup a with
  | some o =>
    -- the script is one of the module's own objects
    have e := KX a o hk
    rw [ha] at e
    cases e
    refine core (fun _ => none) (fun _ => .inl rfl) (.inr ⟨_, vs.toArray, _, hk, rfl, rfl, rfl, by rw [List.size_toArray, lenV]; exact hl, by simpa using rv⟩) (fun b u z => by have z' : (none : Option HO) = some u := z; cases z') (fun b z => absurd rfl z) fun z => absurd rfl z
  | none =>
    refine core (fun b => if b = a then some (.frz { cls := .type "list", data := .seq vs.toArray } (.lst (ns.map V.int))) else none) (fun b => ?_) (.inl (.inr ⟨{ cls := .type "list", data := .seq vs.toArray }, if_pos rfl⟩)) (fun b u z => ?_) (fun b z => ?_) fun _ => hk
    · by_cases hb : b = a
      · exact .inr ⟨_, _, if_pos hb⟩
      · exact .inl (if_neg hb)
    · by_cases hb : b = a
      · have z' := (if_pos hb).symm.trans z
        cases z'
        subst hb
        exact ⟨ha, by rw [List.length_map]; exact hl, vs, _, rv, ha⟩
      · have z' := (if_neg hb).symm.trans z
        cases z'
    · by_cases hb : b = a
      · exact hb
      · exact absurd (if_neg hb) z
end L2
namespace L2
open PySem PySem.Spec PyProof.Rows
/-- the goal that k_head leaves (case hc), from the law's promise. F gives the function object fd (K's own) once, then the promise over every base -/
theorem walk_of {l : PySem.W.OpenLaw} {n k : Nat} {q : Program} {loose : List Str} {XP : (Str → Option Value) → Heap → Prop} {YP : World → Heap → Prop} {d : DefRec} {K : Params → PySem.W.Frag} {CX : World → CXT} {sp : World → Sp} {x : Str}
    (hn : l.most = some n) (hn2 : n ≤ sizeLine) (hdf : d.params.defaults = []) (hr : Room k callerA)
    (hY : ∀ (w : World) (h : Heap), YP w h → (K w.params).In h)
    (F : ∀ (w : World) (mg : Str → Option Value) (fa : Addr) (h : Heap), (K w.params).In h → h.Ns mainGlobals mg → mg d.name = some (.ref fa) →
      ∃ fd : FuncData, (∀ (s : Shared) (u : Value), BindsTo s fd ⟨[u], []⟩ [(x, u)]) ∧
        ∀ base : Heap, (K w.params).In base → base.Ns mainGlobals mg → FnOk l.prog w (K w.params) mg base (CX w) k fa fd [x] (sp w))
    (hsp : ∀ (w : World) (H : Hp) (a : Addr) (ns : List Int), ns.length ≤ n → Only H → SqL (K w.params) H a (ns.map V.int) → sp w [.ref a] H (fun v _ => v = .bl true) fun _ _ _ => False)
    (hCX : ∀ (w : World) (H : Hp) (s : Shared) (e : Value) (s' : Shared), CX w [] H s (fun _ _ _ => False) e s' → False) :
    PySem.W.WalkO q loose XP YP l.row.toRowW d [] (fun f vs => PySem.call f vs) := by
  refine Att.attach_call hn hdf fun w s₀ s₁ mg mb fa o pm cd doc a vs ns G Y ho hd hcd hmg hobj hints hlen hg => ?_
  have KX := hY w _ Y
  obtain ⟨fd, hb, hF⟩ := F w mg fa _ KX G.T.g hmg
  exact law_call KX G.T.g G.T.b G.T.builtins G.T.nolimit hg hobj hints (Nat.le_trans hlen hn2) hr hF hb (fun H hO hS => hsp w H a ns hlen hO hS) fun H e s' => hCX w H s₁ e s'
end L2
/- THE LAST THEOREM (shape; LID, My.* are yours):
   My.Adr: a structure of the addresses that your layer names (classes, functions); My.Txt K t: a structure (Prop) of the equations over K;
   My.txt_mk : {K} {implicit addresses ..} (e1 : nsIn K mainGlobals "law" = some (some (.ref f))) (e2 : K.lookup f = some ⟨oc, od, .func (fnOf "law" "law" params body scope dV kV doc pm an cdv ct), sl⟩) (e3 : codeIn K cdv "law" = true) .. : ∃ t, My.Txt K t
set_option maxRecDepth 100000 in
set_option maxHeartbeats 0 in
theorem PySem.Challenge.cw_LID_holds : PySem.Challenge.rw_LID.Holds := by
  w_on; o_law; k_head; (case hw => w_witness2)
  k_fill
  refine L2.walk_of (l := PySem.Challenge.rw_LID) (n := 63) (k := 40) (x := "script") (CX := fun w => ..) (sp := fun _ => My.sp_law) rfl (by decide) rfl ⟨rfl, by decide, by decide⟩ (fun w h Y => PySem.W.kIn_of Y) ?F ?S ?C
  case F =>
    intro w mg fa h KX G hmg
    have T : ∃ t, My.Txt (L2.KOf KX) t := by
      dsimp only [L2.KOf]                          -- K must stand as «<heap const> w.params» for k_is
      refine' My.txt_mk ?e1 ?e2 ?e3 ..
      (case e1 => PySem.W.k_is)                    -- in the order: a name -> its address -> its object -> its parts
      (case e2 => PySem.W.k_is)
      ..
    obtain ⟨t, T⟩ := T
    have e0 := hmg.symm.trans (PySem.W.mg_of KX G T.law)
    cases e0                                       -- fa is the law's own address
    exact ⟨_, fun s u => .of_eq rfl, fun base kb nb => My.law_fn T kb nb⟩     -- if «.of_eq rfl» comes too early: refine' ⟨_, ?b, fun base kb nb => My.law_fn T kb nb⟩; exact fun s u => .of_eq rfl
  case S => exact fun w H a ns hl hO hS => ..
  case C => exact ..
(the tactic k_is has no namespace: write k_is) -/
namespace L2
open PySem PySem.Spec PyProof.Rows
def defArgs (s : Stmt) : Arguments := match s with
  | .FunctionDef _ a _ _ _ _ _ _ _ _ => a
  | _ => { posonlyargs := [], args := [], vararg := none, kwonlyargs := [], kw_defaults := [], kwarg := none, defaults := [] }
def defBody (s : Stmt) : List Stmt := match s with
  | .FunctionDef _ _ b _ _ _ _ _ _ _ => b
  | _ => []
def defScope (s : Stmt) : Scope := match s with
  | .FunctionDef _ _ _ _ _ _ sc _ _ _ => sc
  | _ => { kind := .function, names := [], isGenerator := false, isCoroutine := false }
abbrev CX0 : CXT := fun _ _ _ _ _ _ => False
abbrev E0 : XK := fun _ _ _ => False
theorem pass0 {X : Cx} : Passes CX0 X E0 := fun _ _ _ _ _ _ _ h => h.elim
structure Fun (K : PySem.W.Frag) (x qual : Str) (st : Stmt) (f : Addr) (fd : FuncData) : Prop where
  ex : ∃ (oc : Value) (od : Option Addr) (kV doc pm : Value) (an : Option Addr) (cdv ct : Value) (osl : Array (Option Value)),
    fd = PySem.W.fnOf x qual (defArgs st) (defBody st) (defScope st) .none kV doc pm an cdv ct ∧ K.lookup f = some ⟨oc, od, .func fd, osl⟩ ∧ PySem.W.codeIn K cdv qual = true
  kp : PySem.W.keepIn K (.ref f) = true
section
variable {P : Program} {w : World} {K : PySem.W.Frag} {mg : Str → Option Value} {base : Heap}
/-- THE RULE for a def: its body as a term of rules, and the reading of that term -/
theorem Fun.ok {x qual : Str} {st : Stmt} {f : Addr} {fd : FuncData} {N ps : List Str} {k : Nat} {sp : Sp} (F : Fun K x qual st f fd) (S : FnScope N ps (defScope st)) (len : ∀ vs H Q E, sp vs H Q E → vs.length = ps.length)
    (hbody : ∀ (cdv : Value) (A : Around) (outer : List Env) (s : Shared) (H : Hp) (vs : List V) (Q : VK) (E : XK), Room k (A.deeper (envOfC qual (defScope st) s.heap.objs.size f cdv)) → sp vs H Q E →
      ∃ t, PSs (cxOf CX0 P w K mg base N qual (defScope st) f cdv A outer s H E).nox (defBody st) t ∧ t { nx := fun _ H' => Q .non H', rt := fun v _ H' => Q v H' } (start N vs) H) : FnOk P w K mg base CX0 (k + 1) f fd ps sp := by
  obtain ⟨oc, od, kV, doc, pm, an, cdv, ct, osl, rfl, lk, hcd⟩ := F.ex
  refine fn_of lk hcd S len fun A outer s H vs Q E hr hsp => ?_
  obtain ⟨t, h, q⟩ := hbody cdv A outer s H vs Q E hr hsp
  exact ⟨t, h.nox, q⟩
/-- how its arguments bind (no defaults): h is «fun _ _ _ _ _ _ us hl => match us, hl with | [_, _], _ => rfl», one _ a parameter -/
theorem Fun.binds {x qual : Str} {st : Stmt} {f : Addr} {fd : FuncData} {ps : List Str} (F : Fun K x qual st f fd)
    (h : ∀ (kV doc pm : Value) (an : Option Addr) (cdv ct : Value) (us : List Value), us.length = ps.length → bindArgs (PySem.W.fnOf x qual (defArgs st) (defBody st) (defScope st) .none kV doc pm an cdv ct) ⟨us, []⟩ = pure (ps.zip us)) : Binds K fd ps [] := by
  obtain ⟨oc, od, kV, doc, pm, an, cdv, ct, osl, rfl, lk, hcd⟩ := F.ex
  exact .all (h kV doc pm an cdv ct)
theorem fun_mk {x qual : Str} {st : Stmt} {f : Addr} {oc : Value} {od an : Option Addr} {osl : Array (Option Value)} {kV doc pm cdv ct : Value} (l : K.lookup f = some ⟨oc, od, .func (PySem.W.fnOf x qual (defArgs st) (defBody st) (defScope st) .none kV doc pm an cdv ct), osl⟩)
    (c : PySem.W.codeIn K cdv qual = true) (k : PySem.W.keepIn K (.ref f) = true) : Fun K x qual st f (PySem.W.fnOf x qual (defArgs st) (defBody st) (defScope st) .none kV doc pm an cdv ct) := ⟨⟨oc, od, kV, doc, pm, an, cdv, ct, osl, rfl, l, c⟩, k⟩
end
theorem hu_of {A : Around} {k : Nat} (hr : Room k A) : A.units + 1 < cLine := Nat.lt_of_le_of_lt (Nat.add_le_add_left (by decide : 1 ≤ 64) _) hr.units
theorem small1000 {n : Nat} (h : n ≤ 1000) : n < sizeLine := Nat.lt_of_le_of_lt h (by decide)
section
variable {X : Cx}
theorem pv (i : Nat) {x : Str} {pos : Pos} (hN : X.N[i]? = some x := by rfl) (hv : Vis X.env.scope x := by first | exact Or.inl rfl | exact Or.inr (Or.inl rfl) | exact Or.inr (Or.inr rfl)) (hd : (x == ("__debug__" : Str)) = false := by decide)
    (hcd : (x == ("__classdict__" : Str)) = false := by decide) : PE X (.Name x pos) (tVar i) := pe_var hN hv hd hcd
end
theorem iteF {A B : Prop} (h : B) : if false = true then A else B := by
  rw [if_neg Bool.false_ne_true]
  exact h
theorem iteT {A B : Prop} (h : A) : if true = true then A else B := by
  rw [if_pos rfl]
  exact h
theorem ite2 {c A B : Prop} [Decidable c] (h1 : c → A) (h2 : ¬ c → B) : if c then A else B := by
  by_cases h : c
  · rw [if_pos h]
    exact h1 h
  · rw [if_neg h]
    exact h2 h
/-- all that was tracked is as it was -/
def Same (H H' : Hp) : Prop := ∀ b o, H b = some o → H' b = some o
theorem Same.refl (H : Hp) : Same H H := fun _ _ h => h
theorem Same.trans {H H1 H2 : Hp} (a : Same H H1) (b : Same H1 H2) : Same H H2 := fun c o h => b c o (a c o h)
theorem Same.free {H H' : Hp} (e : Same H H') {l : Addr} (h : H' l = Option.none) : H l = Option.none := by
  cases q : H l with
  | none => rfl
  | some o =>
    rw [e l o q] at h
    cases h
theorem Same.seq {K : PySem.W.Frag} {H H' : Hp} {a : Addr} {xs : List V} (e : Same H H') (h : SqL K H a xs) : SqL K H' a xs := by
  rcases h with (h | ⟨o, h⟩) | h
  · exact .inl (.inl (e _ _ h))
  · exact .inl (.inr ⟨o, e _ _ h⟩)
  · exact .inr h
end L2
namespace L2
open PySem PySem.Spec PyProof.Rows
/-- the cells that a block takes from the frame around it -/
def clOf (cells : List (Str × Addr)) : List (Str × NameKind) → List (Str × Addr) → List (Str × Addr)
  | [], acc => acc
  | (n, k) :: r, acc => if k == .free then clOf cells r ((n, (cells.lookup n).getD 0) :: acc) else clOf cells r acc
theorem forIn_cl {cells : List (Str × Addr)} {f : Str × NameKind → List (Str × Addr) → Sem (ForInStep (List (Str × Addr)))} : ∀ (l : List (Str × NameKind)) (acc : List (Str × Addr)),
    (∀ y ∈ l, ∀ acc, f y acc = pure (.yield (if y.2 == .free then (y.1, (cells.lookup y.1).getD 0) :: acc else acc))) → forIn l acc f = pure (clOf cells l acc)
  | [], acc, _ => rfl
  | (n, k) :: r, acc, h => by
    rw [List.forIn_cons, h _ List.mem_cons_self, pure_bind]
    dsimp only
    rw [forIn_cl r _ fun y hy => h y (List.mem_cons_of_mem _ hy)]
    rw [clOf]
    split <;> rfl
theorem closure_clOf {scope : Scope} {env : Env} (h : ∀ y ∈ scope.names, y.2 = .free → ∃ c, env.cells.lookup y.1 = some c) : closureFor scope env = pure (clOf env.cells scope.names []) := by
  simp only [closureFor]
  rw [forIn_cl (cells := env.cells) scope.names [] (fun y hy acc => by
    obtain ⟨n, k⟩ := y
    by_cases hk : k = .free
    · obtain ⟨c, e⟩ := h _ hy hk
      subst hk
      simp [cellOf, e]
    · have hb : (k == NameKind.free) = false := by simpa using hk
      simp [hb])]
  rfl
theorem clOf_lookup {cells : List (Str × Addr)} {x : Str} {c : Addr} : ∀ (l : List (Str × NameKind)) (acc : List (Str × Addr)), (∀ y ∈ l, y.2 = .free → ∃ c, cells.lookup y.1 = some c) →
    (clOf cells l acc).lookup x = some c → acc.lookup x = some c ∨ cells.lookup x = some c
  | [], acc, _, e => .inl e
  | (n, k) :: r, acc, h, e => by
    rw [clOf] at e
    have h' : ∀ y ∈ r, y.2 = .free → ∃ c, cells.lookup y.1 = some c := fun y hy => h y (List.mem_cons_of_mem _ hy)
    by_cases hk : (k == NameKind.free) = true
    · rw [if_pos hk] at e
      rcases clOf_lookup r _ h' e with q | q
      · rw [List.lookup_cons] at q
        cases hx : x == n with
        | true =>
          rw [hx] at q
          have hxn : x = n := by simpa using hx
          subst hxn
          obtain ⟨c0, e0⟩ := h _ List.mem_cons_self (by simpa using hk)
          dsimp only at q e0
          rw [e0] at q
          refine .inr ?_
          rw [e0]
          simpa using q
        | false =>
          rw [hx] at q
          exact .inl q
      · exact .inr q
    · rw [if_neg hk] at e
      exact clOf_lookup r _ h' e
theorem clOf_has {cells : List (Str × Addr)} {x : Str} : ∀ (l : List (Str × NameKind)) (acc : List (Str × Addr)), ((x, NameKind.free) ∈ l ∨ ∃ c, acc.lookup x = some c) → ∃ c, (clOf cells l acc).lookup x = some c
  | [], acc, h => by
    rcases h with h | h
    · cases h
    · exact h
  | (n, k) :: r, acc, h => by
    rw [clOf]
    by_cases hk : (k == NameKind.free) = true
    · rw [if_pos hk]
      refine clOf_has r _ ?_
      by_cases hx : x = n
      · subst hx
        exact .inr ⟨(cells.lookup x).getD 0, by rw [List.lookup_cons]; simp⟩
      · rcases h with h | ⟨c, e⟩
        · rcases List.mem_cons.mp h with z | z
          · exact absurd (congrArg Prod.fst z) hx
          · exact .inl z
        · refine .inr ⟨c, ?_⟩
          rw [List.lookup_cons]
          have hb : (x == n) = false := by simpa using hx
          rw [hb]
          exact e
    · rw [if_neg hk]
      refine clOf_has r _ ?_
      rcases h with h | h
      · rcases List.mem_cons.mp h with z | z
        · cases z
          exact absurd rfl hk
        · exact .inl z
      · exact .inr h
theorem relabel_free {scope : Scope} {env : Env} {x : Str} (h : (relabel scope env).names.lookup x = some .cell ∨ (relabel scope env).names.lookup x = some .free) (hc : ∀ y ∈ scope.names, y.2 ≠ .cell) : (x, NameKind.free) ∈ scope.names := by
  have key : ∀ k, (x, k) ∈ (relabel scope env).names → (k = .cell ∨ k = .free) → (x, NameKind.free) ∈ scope.names := fun k hm hk => by
    obtain ⟨⟨n, j⟩, hy, e⟩ := List.mem_map.mp hm
    dsimp only at e
    split at e
    · rename_i hcond
      cases e
      have : j = .free := by
        have := (Bool.and_eq_true _ _).mp hcond
        have := ((Bool.and_eq_true _ _).mp this.1).1
        simpa using this
      subst this
      exact hy
    · cases e
      rcases hk with hk | hk
      · exact absurd hk (hc _ hy)
      · subst hk; exact hy
  rcases h with h | h
  · exact key _ (PySem.mem_of_lookup h) (.inl rfl)
  · exact key _ (PySem.mem_of_lookup h) (.inr rfl)
theorem lookup_relabel_free {env : Env} : ∀ {names : List (Str × NameKind)} {x : Str}, names.lookup x = some .free →
    (names.map fun (n, k) => if (k == NameKind.free && env.scope.kind == .function && env.kindOf n == some .cell) then (n, NameKind.cell) else (n, k)).lookup x = some .cell ∨
    (names.map fun (n, k) => if (k == NameKind.free && env.scope.kind == .function && env.kindOf n == some .cell) then (n, NameKind.cell) else (n, k)).lookup x = some .free
  | [], _, h => by simp at h
  | (n, k) :: r, x, h => by
    have ih := @lookup_relabel_free env r x
    rw [List.map_cons]
    rw [List.lookup_cons] at h
    by_cases hc : (k == NameKind.free && env.scope.kind == .function && env.kindOf n == some .cell) = true
    · dsimp only
      rw [if_pos hc, List.lookup_cons]
      cases hx : x == n with
      | true => exact .inl rfl
      | false => rw [hx] at h; exact ih h
    · dsimp only
      rw [if_neg hc, List.lookup_cons]
      cases hx : x == n with
      | true => rw [hx] at h; cases h; exact .inr rfl
      | false => rw [hx] at h; exact ih h
/-- one turn of the loop, the letting go of the iterator's own tuple within -/
theorem compLoop_any {prog : Program} {w : World} {A : Around} {R : Result → Shared → Prop} {s : Shared} {elt target iter : Expr} {scope : Scope} {pos : Pos} {it acc : Value} {env : Env} (I : Nat → Shared → Prop)
    (turn : ∀ n s, I n s → wpAny (model prog w) A (pyNext it) (fun r s₁ => match r with
      | none => R (.ok .next) s₁
      | some v => wpAny (model prog w) A (letOwnedTupleGo target it v) (fun _ s₂ => wpAny (model prog w) A (assign target env v) (fun _ s₃ => wpAny (model prog w) A (eval elt env) (fun x s₄ =>
          wpAny (model prog w) A (call (.builtin "list.append") [acc, x]) (fun _ s₅ => ∃ m, m < n ∧ I m s₅) (fun _ _ => False) s₄) (fun _ _ => False) s₃) (fun _ _ => False) s₂) (fun _ _ => False) s₁) (fun _ _ => False) s)
    (n : Nat) (h : I n s) : codeAny (model prog w) A (.compLoop (.ListComp elt [⟨target, iter, [], 0⟩] scope pos) 0 it acc env) R s := by
  have nv : ∀ {α : Type} {t : Sem α} {Q Q' : α → Shared → Prop} {E : Value → Shared → Prop} {s : Shared}, wpAny (model prog w) A t Q (fun _ _ => False) s → (∀ a s, Q a s → Q' a s) → wpAny (model prog w) A t Q' E s := fun h hq => wpAny_mono h hq fun _ _ f => f.elim
  refine codeAny_loop rfl I (fun n s hI => ?_) n h
  show wpAny _ _ ((compTurn (.ListComp elt [⟨target, iter, [], 0⟩] scope pos) 0 it acc env).onRaise (fun x => do noteFrame x env; theTreesLotGoes x)) _ _ s
  refine wpAny_noted ?_
  rw [compTurn_list1]
  refine wpAny_bind (wpAny_standAt (wpAny_bind (nv (turn n s hI) fun r s₁ h₁ => ?_)))
  cases r with
  | none => exact wpAny_pure h₁
  | some v =>
    exact wpAny_bind (nv h₁ fun _ s₂ h₂ => wpAny_bind (nv h₂ fun _ s₃ h₃ => wpAny_bind (wpAny_bind (nv h₃ fun x s₄ h₄ => wpAny_bind (nv h₄ fun _ s₅ h₅ => wpAny_pure (wpAny_pure ⟨rfl, h₅⟩))))))
/-- the names of a comprehension's block: sc, NX are the scope and the names of the frame around it; fr: the names it takes from there, each with its slot -/
structure CompSc (sc : Scope) (NX : List Str) (scope : Scope) (fr : List (Str × Nat)) : Prop where
  kind : scope.kind = .function
  cell : ∀ y ∈ scope.names, y.2 ≠ .cell
  loc : ∀ y ∈ scope.names, y.2 = .local → scope.names.lookup y.1 = some .local
  free : ∀ y ∈ scope.names, y.2 = .free → sc.names.lookup y.1 = some .cell ∨ sc.names.lookup y.1 = some .free
  frN : ∀ p ∈ fr, NX[p.2]? = some p.1 ∧ scope.names.lookup p.1 = some .free ∧ (sc.names.lookup p.1 = some .cell ∨ sc.names.lookup p.1 = some .free)
/-- the context of the block: s, H the state and the abstract heap when it is entered, fp the iterator's own objects -/
def cxComp (X : Cx) (scope : Scope) (N : List Str) (s : Shared) (H : Hp) (fp : List Addr) : Cx where
  prog := X.prog
  w := X.w
  K := X.K
  mg := X.mg
  base := X.base
  A := X.A
  N := N
  s₀ := s
  H₀ := H
  env := compEnvC scope (clOf X.env.cells scope.names []) s.heap.objs.size X.env
  outer := X.stack
  stack := X.stack
  ex := fp
  fn := fun _ => false
  calm := X.calm
  pn := []
  xe := fun _ _ => False
/-- the block's values at its begin -/
def compSt (k : Nat) (fr : List (Str × Nat)) (σ : St) : St := List.replicate k none ++ fr.map fun p => (σ[p.2]?).getD none
def tComp (k : Nat) (fr : List (Str × Nat)) (wi : TI) (g : TG) (te : TE) : TE := fun σ H Q => wi σ H fun J H1 => ∀ l, H1 l = none →
  ∃ W : Nat → Nat → St → Hp → Prop, (∃ m, W 0 m (compSt k fr σ) (upd H1 l (.lst []))) ∧ ∀ i m σ' H', W i m σ' H' →
    (J.stop i H' ∧ Q (.ref l) H') ∨ (J.go i H' ∧ ∃ N : St → Hp → Prop, (∀ σ2 H2, N σ2 H2 → ∃ m', m' < m ∧ W (i + 1) m' σ2 H2) ∧
      ∀ x H2, J.yld i H' x H2 → g x σ' H2 fun σ3 H3 => te σ3 H3 fun y H4 => ∃ ys, H4 l = some (.lst ys) ∧ ys.length < sizeLine ∧ N σ3 (upd H4 l (.lst (ys ++ [y]))))
section
variable {X : Cx} {tg iter elt : Expr} {scope : Scope} {pos : Pos} {wi : TI} {g : TG} {te : TE} {own : List Str} {fr : List (Str × Nat)} {sc : Scope} {NX : List Str}
theorem compInv {pins : List (Addr × Obj)} {σ : St} {H : Hp} {s : Shared} {h1 : Heap} {fp : List Addr} {tk : Nat} (hsc : X.env.scope = sc) (hNX : X.N = NX) (S : CompSc sc NX scope fr) (I : Inv X pins σ H s)
    (hfp : ∀ b ∈ fp, FpOk X pins H b ∧ b < s.heap.objs.size) (hns : h1.Ns s.heap.objs.size (fun _ => none)) (keep : ∀ b o, s.heap.get? b = some o → h1.get? b = some o) :
    Inv (cxComp X scope (own ++ fr.map (·.1)) s H fp) [] (compSt own.length fr σ) H { s with heap := h1, toks := tk } := by
  have hfree : ∀ y ∈ scope.names, y.2 = .free → ∃ c, X.env.cells.lookup y.1 = some c := fun y hy e => I.ok.has y.1 (by have z := S.free y hy e; rw [← hsc] at z; exact z)
  have hcl : ∀ x c, (clOf X.env.cells scope.names []).lookup x = some c → X.env.cells.lookup x = some c := fun x c e => by
    rcases clOf_lookup scope.names [] hfree e with z | z
    · simp at z
    · exact z
  have ok : (cxComp X scope (own ++ fr.map (·.1)) s H fp).Ok :=
    { mod := I.ok.mod
      kind := S.kind
      glob := I.ok.glob
      blt := I.ok.blt
      above := Nat.le_refl _
      inj := fun x y c h1 h2 => I.ok.inj x y c (hcl x c h1) (hcl y c h2)
      has := fun x hx => clOf_has scope.names [] (.inl (relabel_free hx S.cell))
      cab := fun x c hx => nomatch hx
      hd := I.ok.hd
      frames := I.ok.frames
      stk := .inl rfl
      exf := fun b hb => ⟨Nat.ne_of_lt (hfp b hb).2, fun x c e => (hfp b hb).1.2.2.2.2.1 x c (hcl x c e)⟩
      bs := I.bs
      bsz := Nat.le_trans I.ok.bsz I.sz
      noex := fun b o e hb => by
        rcases (hfp b hb).1.2.2.2.1 with z | z
        · exact I.ok.noex b o e z
        · exact absurd (Nat.lt_of_lt_of_le (Heap.lt_size (I.ok.bs b o e).1) z) (Nat.lt_irrefl _)
      exfs := fun b hb z => (List.mem_cons.mp (I.stkSub b z)).elim (hfp b hb).1.2.1 (hfp b hb).1.2.2.1
      funs := I.stack
      frf := I.stkFree }
  refine ⟨ok, rfl, I.bare, Un.kept keep, ⟨_, hns, fun i x v e1 e2 e3 => ?_⟩, fun x c e => ?_, I.hok.fresh (Nat.le_refl _), fun x c e => I.freeC x c (hcl x c e), fun p hp => absurd (show p ∈ ([] : List (Addr × Obj)) from hp) (by simp), I.hok.kept keep, ?_⟩
  · have e2' : (List.replicate own.length none ++ fr.map fun p => (σ[p.2]?).getD none)[i]? = some (some v) := e2
    have e1' : (own ++ fr.map (·.1))[i]? = some x := e1
    by_cases hi : i < own.length
    · rw [List.getElem?_append_left (by simpa using hi), List.getElem?_replicate, if_pos hi] at e2'
      cases e2'
    · rw [List.getElem?_append_right (by simpa using hi), List.length_replicate, List.getElem?_map] at e2'
      rw [List.getElem?_append_right (by omega), List.getElem?_map] at e1'
      cases ef : fr[i - own.length]? with
      | none => rw [ef] at e1'; cases e1'
      | some p =>
        rw [ef] at e1' e2'
        have hx : p.1 = x := Option.some.inj e1'
        have hv : (σ[p.2]?).getD none = some v := Option.some.inj e2'
        have hs : σ[p.2]? = some (some v) := by
          cases eo : σ[p.2]? with
          | none => rw [eo] at hv; cases hv
          | some o => rw [eo] at hv; exact congrArg some hv
        obtain ⟨f1, f2, f3⟩ := S.frN p (List.mem_of_getElem? ef)
        subst hx
        obtain ⟨m, hn, hl⟩ := I.loc
        have f3' : X.env.kindOf p.1 = some .cell ∨ X.env.kindOf p.1 = some .free := by rw [← hsc] at f3; exact f3
        obtain ⟨u, ru, lk⟩ := hl p.2 p.1 v (by rw [hNX]; exact f1) hs (.inr f3')
        refine ⟨u, ru, .inr ⟨lookup_relabel_free f2, ?_⟩⟩
        rcases lk with ⟨k, _⟩ | ⟨_, c, ec, ic⟩
        · rcases f3' with z | z <;> · rw [k] at z; cases z
        · obtain ⟨c', ec'⟩ := clOf_has (cells := X.env.cells) (x := p.1) scope.names [] (.inl (PySem.mem_of_lookup f2))
          have := hcl _ _ ec'
          rw [ec] at this
          cases this
          exact ⟨c, ec', ic.keeps keep⟩
  · obtain ⟨v, z⟩ := I.cell x c (hcl x c e)
    exact ⟨v, z.keeps keep⟩
  · show (List.replicate own.length none ++ fr.map fun (p : Str × Nat) => (σ[p.2]?).getD none).length = (own ++ fr.map (·.1)).length
    simp
/-- [elt for tg in iter] -/
theorem pe_comp (hsc : X.env.scope = sc) (hNX : X.N = NX) (S : CompSc sc NX scope fr) (hc : X.calm = true) (hi : PI X tg iter wi)
    (hg : ∀ (s : Shared) (H : Hp) (fp : List Addr), PG (cxComp X scope (own ++ fr.map (·.1)) s H fp) tg g)
    (he : ∀ (s : Shared) (H : Hp) (fp : List Addr), PE (cxComp X scope (own ++ fr.map (·.1)) s H fp) elt te)
    (hs : ∀ x, foldedSetIterable iter X.env x = pure x := by intro _; rfl) : PE X (.ListComp elt [⟨tg, iter, [], 0⟩] scope pos) (tComp own.length fr wi g te) := by
  intro pins s σ H Q I h
  have hfree : ∀ y ∈ scope.names, y.2 = .free → ∃ c, X.env.cells.lookup y.1 = some c := fun y hy e => I.ok.has y.1 (by have z := S.free y hy e; rw [← hsc] at z; exact z)
  rw [eval_ListComp]
  refine wpAny_comprehension_free (use := none) rfl hs (closure_clOf hfree) S.kind S.loc (thn (hi pins s σ H _ I h) fun v s1 h1 => thn h1 fun itv s2 h2 => ?_)
  obtain ⟨it, fp, tn, J, H2, e, I2, T, st2, f2, R⟩ := h2
  subst e
  have fpl : ∀ b ∈ fp, b < s2.heap.objs.size := fun b hb => by
    obtain ⟨o, e, _⟩ := T.obj _ _ st2 b hb
    exact Heap.lt_size e
  obtain ⟨W, ⟨m0, w0⟩, turn⟩ := R s2.heap.objs.size I2.fresh
  refine wpAny_newList ?_ (Nat.zero_le _)
  have I3 : Inv X pins σ (upd H2 s2.heap.objs.size (.lst [])) { s2 with heap := s2.heap.push { cls := .type "list", data := .seq ([] : List Value).toArray } } := I2.lnew (its := []) (t' := s2.toks) .nil (Nat.zero_le _)
  have k23 : ∀ b o, s2.heap.get? b = some o → (s2.heap.push { cls := .type "list", data := .seq ([] : List Value).toArray }).get? b = some o := fun b o q => Heap.get?_push_of_some _ q
  have sz23 : s2.heap.objs.size ≤ (s2.heap.push { cls := .type "list", data := .seq ([] : List Value).toArray }).objs.size := by rw [Heap.size_push]; exact Nat.le_succ _
  generalize hh3 : s2.heap.push { cls := .type "list", data := .seq ([] : List Value).toArray } = h3 at I3 k23 sz23 ⊢
  generalize hl : s2.heap.objs.size = l at *
  have f3 : ∀ b ∈ fp, FpOk X pins (upd H2 l (.lst [])) b ∧ b < h3.objs.size := fun b hb => by
    have hb' := fpl b hb
    refine ⟨⟨?_, (f2 b hb).2⟩, Nat.lt_of_lt_of_le hb' sz23⟩
    rw [upd_ne (Nat.ne_of_lt hb')]
    exact (f2 b hb).1
  refine wpAny_newFunctionEnv S.cell (by intro y hy; simp at hy) (fun h4 hns hsb => ?_) S.kind
  have k34 : ∀ b o, h3.get? b = some o → h4.get? b = some o := fun b o q => hsb.extBut b o (Nat.ne_of_lt (Heap.lt_size q)) (Heap.get?_push_of_some _ q)
  have I4 : Inv (cxComp X scope (own ++ fr.map (·.1)) { s2 with heap := h3 } (upd H2 l (.lst [])) fp) [] (compSt own.length fr σ) (upd H2 l (.lst [])) { s2 with heap := h4, toks := s2.toks + ([] : List (Str × Value)).length } :=
    compInv (s := { s2 with heap := h3 }) (h1 := h4) hsc hNX S I3 f3 hns k34
  have st4 : tn 0 h4 := T.keep _ _ _ st2 fun b _ o q => k34 b o (k23 b o q)
  have nofs : ∀ b ∈ fp, b ∉ frs X.stack := fun b hb z => (List.mem_cons.mp (I3.stkSub b z)).elim (f3 b hb).1.2.1 (f3 b hb).1.2.2.1
  have hfree' := hfree
  have hcl : ∀ x c, (clOf X.env.cells scope.names []).lookup x = some c → X.env.cells.lookup x = some c := fun x c e => by
    rcases clOf_lookup scope.names [] hfree e with z | z
    · simp at z
    · exact z
  have stat : ∀ {H' : Hp}, (∀ b ∈ fp, H' b = none) → ∀ b ∈ fp, FpOk (cxComp X scope (own ++ fr.map (·.1)) { s2 with heap := h3 } (upd H2 l (.lst [])) fp) [] H' b := fun hn b hb =>
    ⟨hn b hb, Nat.ne_of_lt (f3 b hb).2, nofs b hb, .inl hb, fun x c e => (f3 b hb).1.2.2.2.2.1 x c (hcl x c e), fun p hp => absurd (show p ∈ ([] : List (Addr × Obj)) from hp) (by simp)⟩
  have loop : codeAny (model X.prog X.w) X.A (.compLoop (.ListComp elt [⟨tg, iter, [], 0⟩] scope pos) 0 (.ref it) (.ref l) (compEnvC scope (clOf X.env.cells scope.names []) h3.objs.size X.env))
      (compPost (model X.prog X.w) X.A X.xe none (EP X pins σ Q) (.ref l) h3.objs.size) { s2 with heap := h4, toks := s2.toks + ([] : List (Str × Value)).length } := by
    refine compLoop_any (fun n s' => ∃ i σ' H', Inv (cxComp X scope (own ++ fr.map (·.1)) { s2 with heap := h3 } (upd H2 l (.lst [])) fp) [] σ' H' s' ∧ tn i s'.heap ∧ (∀ b ∈ fp, H' b = none) ∧ W i n σ' H') ?_ m0
      ⟨0, _, _, I4, st4, fun b hb => (f3 b hb).1.1, w0⟩
    rintro n s5 ⟨i, σ5, H5, I5, st5, fr5, w5⟩
    rcases turn i n σ5 H5 w5 with ⟨stop, q⟩ | ⟨go, N', hN', step⟩
    · refine thn (T.done (cxComp X scope (own ++ fr.map (·.1)) { s2 with heap := h3 } (upd H2 l (.lst [])) fp) rfl rfl rfl hc i [] s5 σ5 H5 _ I5 (stat fr5) st5 stop) fun r s6 ⟨hr, I6⟩ => ?_
      subst hr
      obtain ⟨m, hn, _⟩ := I6.loc
      refine ⟨m, hn, fun h' sb => ⟨.ref l, H5, ?_, rfl, q⟩⟩
      have hb6 : Un (frs X.stack) fp (upd H2 l (.lst [])) H5 h3 s6.heap := I6.base
      have hC : H5 h3.objs.size = none := I6.free
      have ne3 : ∀ b o, h3.get? b = some o → b ≠ h3.objs.size := fun b o e => Nat.ne_of_lt (Heap.lt_size e)
      refine I3.call' (s' := { s6 with heap := h' }) (ch := fp) I6.os ⟨fun b o e n hb hx => ?_, fun b o e n hb hx => ?_, fun b o e n hx => hb6.free b o e n hx, fun b o e hx => ?_, hb6.tups, hb6.frzs, hb6.tbls⟩ (fun a o e => ?_) I6.bare
        fun b hb => ⟨(f3 b hb).1.2.2.2.1, (f3 b hb).1.2.1, (f3 b hb).1.2.2.2.2.1, (f3 b hb).1.2.2.2.2.2⟩
      · exact sb.extBut b o (ne3 b o e) (hb6.keep b o e n hb hx)
      · obtain ⟨sl, z⟩ := hb6.slot b o e n hb hx
        exact ⟨sl, sb.extBut b _ (ne3 b o e) z⟩
      · obtain ⟨o', z⟩ := hb6.there b o e hx
        exact ⟨o', sb.extBut b _ (ne3 b o e) z⟩
      · refine (I6.hok a o e).stay (fun b u hb z => sb.extBut b u ?_ z) (fun _ z => z) fun _ _ z => z
        rintro rfl
        rcases hb with z | z
        · rw [← z, hC] at e; cases e
        · rw [hC] at z; cases z
    · refine thn (T.item (cxComp X scope (own ++ fr.map (·.1)) { s2 with heap := h3 } (upd H2 l (.lst [])) fp) rfl rfl rfl hc i [] s5 σ5 H5 _ I5 (stat fr5) st5 go) fun r s6 ⟨u, hr, h6⟩ => ?_
      subst hr
      refine thn h6 fun _ s7 ⟨x, H7, I7, r7, y7, st7, fr7⟩ => ?_
      have I7' := I7.pinned (stat fr7) (T.obj _ _ st7)
      refine thn (hg _ _ _ _ s7 σ5 H7 x u _ I7' r7 (step x H7 y7)) fun _ s8 ⟨σ8, H8, I8, q8⟩ => ?_
      refine thn (he _ _ _ _ s8 σ8 H8 _ I8 q8) fun v s9 ⟨y, H9, I9, r9, ys, hl9, hz9, n9⟩ => ?_
      refine thn (mt_append _ s9 σ8 H9 (.ref l) [y] (.ref l) [v] (fun _ H' => H' = upd H9 l (.lst (ys ++ [y]))) I9 rfl (.cons r9 .nil) ⟨l, ys, y, rfl, rfl, hl9, hz9, rfl⟩) fun _ s10 ⟨z, H10, I10, _, e10⟩ => ?_
      subst e10
      obtain ⟨m', hm, w10⟩ := hN' _ _ n9
      refine ⟨m', hm, i + 1, σ8, _, I10.unpinned, T.keep _ _ _ st7 fun b hb o e => (I10.pin (b, o) (List.mem_append_right _ (List.mem_append_right _ (mem_pinsAt hb e)))).1, fun b hb => ?_, w10⟩
      obtain ⟨o, e, d⟩ := T.obj _ _ st7 b hb
      exact (I10.pin (b, o) (List.mem_append_right _ (List.mem_append_right _ (mem_pinsAt hb e)))).2.1
  exact codeAny_compStart_list loop (T.self _ 0 _ _ _ st4 loop)
end
end L2
namespace L2
open PySem PySem.Spec PyProof.Rows
section
variable {X : Cx}
theorem kt {K : PySem.W.Frag} {T c : String} {b : Bool} (h : (if (Value.type T == Value.type c) = true then some true else if PySem.W.kitMeta c = true then (fastBuiltinMro T).map (·.contains (Value.type c)) else none) = some b) :
    PySem.W.kitOne K (.type T) (.type c) = some b := h
theorem pe_ty {x : Str} {T : String} {pos : Pos} (hg : Gl X x) (hm : X.mg x = none) (hv : bootBuiltins x = some (.type T)) (hn : x ≠ "__name__" := by decide) (hd : (x == ("__debug__" : Str)) = false := by decide) : PE X (.Name x pos) (tC (.ty T)) :=
  pe_bltn hg hm hv rfl hn hd
theorem call_isinst : CallR X (.builtin "isinstance") (fun xs H Q => ∃ (x : V) (T U : String) (b : Bool), xs = [x, .ty T] ∧ TyOf X.K H x (.type U) ∧ PySem.W.kitOne X.K (.type U) (.type T) = some b ∧ Q (.bl b) H) := by
  intro pins s σ H xs us Q I r h
  obtain ⟨x, T, U, b, rfl, ty, e, q⟩ := h
  obtain ⟨u, v, rfl, ru, rv⟩ := vals2 r
  cases rv
  exact isinst_ok I ru ty e fun tk => ⟨.bl b, H, I.tok tk, rfl, q⟩
/-- all([..]) of truths -/
theorem call_all (hc : X.calm = true) : CallR X (.builtin "all") (fun xs H Q => ∃ (l : Addr) (bs : List Bool), xs = [.ref l] ∧ SqL X.K H l (bs.map V.bl) ∧ Q (.bl (bs.all id)) H) := by
  intro pins s σ H xs us Q I r h
  obtain ⟨l, bs, rfl, hl, q⟩ := h
  obtain ⟨u, rfl, ru⟩ := vals1 r
  cases ru
  obtain ⟨its, rv, pl, hz⟩ := I.list hl
  have hb : ∀ {its : List Value} {bs : List Bool}, Vals (bs.map V.bl) its → LSm.BoolsAre its bs := by
    intro its bs
    induction bs generalizing its with
    | nil => intro r; rw [List.map_nil] at r; cases r; exact .nil
    | cons b bs ih =>
      intro r
      rw [List.map_cons] at r
      cases r with
      | cons r1 r2 => cases r1; exact .cons b (ih r2)
  have hb := hb rv
  have hl' : s.heap.IsList l its.toArray := pl.isList
  have hlt : l < s.heap.objs.size := by obtain ⟨_, e, _⟩ := hl'; exact Heap.lt_size e
  refine call_all_walk (wpAny_pyIter_list hl' ?_)
  refine ⟨s.heap.objs.size, [s.heap.objs.size, l], [s.heap.objs.size], its.toArray.size, _, _, fun i => (bs[i]?).getD true, rfl, Walks.list (A := X.A.in1) (I.ok.hd hc) _ l (Nat.ne_of_lt hlt) its.toArray,
    ⟨⟨_, Heap.get?_push_size _ rfl, rfl, rfl⟩, hl'.push _⟩, fun i v s' Q' E' hP hQ => ?_, fun h' tk hk => ?_⟩
  · obtain ⟨b, e, rfl⟩ := hb.get i v (by simpa using hP)
    simp only [e, Option.getD_some] at hQ
    exact wpAny_truthy_bool hQ
  · have e : ((List.range its.toArray.size).all fun i => (bs[i]?).getD true) = bs.all id := by
      rw [List.size_toArray, hb.length]; exact LSm.range_all bs
    rw [e]
    exact ⟨.bl (bs.all id), H, I.kept (t' := tk) (LSm.kept_iter hk), rfl, q⟩
end
theorem Same.upd {H H' : Hp} {l : Addr} {o : HO} (e : Same H H') (h : H' l = Option.none) : Same H (upd H' l o) := fun b u q => by
  have z := e b u q
  rw [upd_ne (ne_of_none z h)]
  exact z
end L2
namespace HT
open PySem PyProof.Rows
section
variable {prog : Program} {w : World} {A : Around} {E : Value → Shared → Prop} {s : Shared}
/-- () + u is u -/
theorem cat_tup0 {t b : Addr} {ws : List Value} {Q : Value → Shared → Prop} (ht : IsTup s.heap t ([] : List Value).toArray) (hb : IsTup s.heap b ws.toArray) (h : Q (.ref b) s) : wpAny (model prog w) A (binaryOp .Add (.ref t) (.ref b)) Q E s := by
  obtain ⟨⟨cls, dd, data, sl⟩, ho, hc, n, hd⟩ := id ht
  obtain ⟨⟨cls2, dd2, data2, sl2⟩, ho2, hc2, n2, hd2⟩ := id hb
  simp only at hc hd hc2 hd2
  subst hc hd hc2 hd2
  exact concat_meets ⟨_, ho, rfl⟩ ⟨_, ho2, rfl⟩ noFill_tuple_add seq_tuple_add PySem.F.slot_tuple_add PySem.F.entry_tuple_add (PySem.F.args_tuple_add_2 _ _)
    (tuple_addW0 t b ([] : List Value).toArray ws.toArray n n2 dd dd2 sl sl2 (by simp)) ⟨ho, ho2, h⟩
/-- the whole of a tuple is that tuple -/
theorem getItem_tuple_whole {t sl : Addr} {items : Array Value} {vl vu : Value} {lo hi : Option Int} {Q : Value → Shared → Prop} (ht : IsTup s.heap t items) (hs : s.heap.IsSliceOf sl vl vu .none) (pl : IsPart vl lo) (pu : IsPart vu hi)
    (h0 : sIx items.size 0 lo = 0) (h1 : sIx items.size items.size hi = items.size) (h : Q (.ref t) s) : wpAny (model prog w) A (getItem (.ref t) (.ref sl)) Q E s := by
  obtain ⟨os, hos, hcs, hds⟩ := id hs
  have hTs : s.TypeIs (.ref sl) "slice" := ⟨os, hos, hcs⟩
  unfold getItem
  try with_reducible refine wpAny_holding ?_
  first | refine wpAny_bind (wpAny_pure ?_) | skip
  refine wpAny_bind (wpAny_sequenceKey ht.typeIs (by decide) ?_)
  refine wpAny_bind (wpAny_callSpecial?_slot (name := Str.ofString "__getitem__") ht.typeIs PyProof.Rows.slot_tuple_getitem
    (wpAny_call_entry PyProof.Rows.slot_tuple_getitem ht.typeIs entry_tuple_getitem ?_ (args_tuple_getitem _ _)))
  show wpAny _ _ (Builtin.Tuple.tupleItemsOf (.ref t) >>= _) _ _ s
  refine wpAny_bind (tupleItemsOf_ ht ?_)
  refine wpAny_bind (wpAny_typeOf hTs ?_)
  rw [if_pos (by decide)]
  refine wpAny_bind (sliceApplied_gen hs pl pu ?_)
  rw [h0, h1]
  show wpAny _ _ (if ((((0 : Nat) : Int) == 0 && (1 : Int) == 1 && (items.size - 0) == items.size)) = true then _ else _) _ _ s
  rw [if_pos (by simp)]
  refine wpAny_bind (m := Builtin.Tuple.tupleIsExact _) (wpAny_bind (wpAny_typeOf ht.typeIs (wpAny_pure ?_)))
  show wpAny _ _ (if (Value.type "tuple" == Value.type "tuple") = true then _ else _) _ _ s
  rw [if_pos (by decide)]
  first
    | exact wpAny_bind (wpAny_rule (wpAny_bind (wpAny_pure (wpAny_pure ⟨_, rfl, wpAny_pure h⟩))))
    | exact wpAny_bind (wpAny_rule (wpAny_pure ⟨_, rfl, wpAny_pure h⟩))
    | exact wpAny_bind (wpAny_rule (wpAny_bind (wpAny_pure ⟨_, rfl, wpAny_pure h⟩)))
    | exact wpAny_bind (wpAny_bind (wpAny_rule (wpAny_pure (wpAny_pure ⟨_, rfl, wpAny_pure h⟩))))
    | exact wpAny_bind (wpAny_rule (wpAny_bind (wpAny_pure (wpAny_bind (wpAny_pure (wpAny_pure ⟨_, rfl, wpAny_pure h⟩))))))
end
end HT
namespace L2
open PySem PySem.Spec PyProof.Rows
section
variable {X : Cx} {pos : Pos}
theorem dk_empty {P : Program} {w : World} {H : Hp} (h : Heap) (hb : sysModules < h.objs.size) : ObjOk P w H (h.push { cls := .type "dict", data := .dict #[] }) h.objs.size (.dK []) :=
  ⟨Nat.zero_le _, beq_eq_false_iff_ne.mpr (Ne.symm (Nat.ne_of_lt hb)), [], .nil, Heap.DictOf.new h⟩
theorem Inv.big {pins : List (Addr × Obj)} {σ : St} {H : Hp} {s : Shared} (I : Inv X pins σ H s) : sysModules < s.heap.objs.size := by
  have h : mainGlobals < s.heap.objs.size := (I.mod.glob.keeps I.bk).lt
  exact Nat.lt_trans (by decide) h
def tDNewK : TE := fun _ H Q => ∀ p, H p = none → Q (.ref p) (upd H p (.dK []))
theorem pe_dnewK : PE X (.Dict [] [] pos) tDNewK := fun pins s σ H Q I h =>
  wpAny_Dict_empty ⟨.ref s.heap.objs.size, _, I.laid (a := s.heap.objs.size) (o := .dK []) (t' := s.toks) (fun _ _ q => Heap.get?_push_of_some _ q) (Nat.le_refl _) (dk_empty s.heap I.big), rfl, h _ (I.hok.fresh (Nat.le_refl _))⟩
/-- t + u of two tracked tuples, whichever object it is -/
def rCatH : R2 := fun x y H Q => ∃ a b xs ys, x = .ref a ∧ y = .ref b ∧ H a = some (.tup xs) ∧ H b = some (.tup ys) ∧ xs.length + ys.length ≤ sizeLine ∧ ∀ p H', Same H H' → H' p = some (.tup (xs ++ ys)) → Q (.ref p) H'
theorem op_catH : OpR X (binaryOp .Add) rCatH := by
  intro pins s σ H x y v u Q I rx ry h
  obtain ⟨a, b, xs, ys, rfl, rfl, ha, hb, hz, q⟩ := h
  by_cases hx : xs = []
  · subst hx
    cases rx
    cases ry
    obtain ⟨its, r1, p1, _⟩ := I.tuple (SqT.of (K := X.K) ha)
    obtain ⟨its2, r2, p2, _⟩ := I.tuple (SqT.of (K := X.K) hb)
    cases r1
    exact HT.cat_tup0 p1 p2 ⟨.ref b, H, I, rfl, q b H (Same.refl H) (by simpa using hb)⟩
  · refine op_catT pins s σ H _ _ v u Q I rx ry ⟨a, b, xs, ys, rfl, rfl, SqT.of ha, SqT.of hb, hx, hz, fun hy => ?_, fun hy p hp => ?_⟩
    · subst hy
      exact q a H (Same.refl H) (by simpa using ha)
    · exact q p _ ((Same.refl H).upd hp) upd_same
/-- t[lo:hi] of a tracked tuple, whichever object it is -/
def rSlH : V → Option Int → Option Int → Hp → VK → Prop := fun x lo hi H Q => ∃ a xs, x = .ref a ∧ H a = some (.tup xs) ∧ ∀ p H', Same H H' → H' p = some (.tup (cutV xs lo hi)) → Q (.ref p) H'
theorem sl_tupH : SlR X rSlH := by
  intro pins s σ H x v vl vu lo hi sl Q I rx hs pl pu h
  obtain ⟨a, xs, rfl, ha, q⟩ := h
  by_cases hw : HT.sIx xs.length 0 lo = 0 ∧ HT.sIx xs.length xs.length hi = xs.length
  · cases rx
    obtain ⟨its, r, ht, hz⟩ := I.tuple (SqT.of (K := X.K) ha)
    have hlen : its.toArray.size = xs.length := by rw [List.size_toArray]; exact r.length.symm
    refine ⟨"tuple", _, PyProof.Rows.slot_tuple_getitem.lookup, ht.typeIs, ?_⟩
    refine HT.getItem_tuple_whole ht hs pl pu (by rw [hlen]; exact hw.1) (by rw [hlen]; exact hw.2) ⟨.ref a, H, I, rfl, q a H (Same.refl H) ?_⟩
    rw [ha, cutV, hw.1, hw.2]
    simp
  · exact sl_tup pins s σ H _ v vl vu lo hi sl Q I rx hs pl pu ⟨a, xs, rfl, SqT.of ha, hw, fun p hp => q p _ ((Same.refl H).upd hp) upd_same⟩
end
theorem cutV_take (xs : List V) (k : Nat) : cutV xs none (some (k : Int)) = xs.take k := by
  rw [cutV, HT.sIx_none, HT.sIx_nat, List.drop_zero, Nat.sub_zero]
  by_cases h : k ≤ xs.length
  · rw [Nat.min_eq_left h]
  · rw [Nat.min_eq_right (by omega), List.take_length, List.take_of_length_le (by omega)]
end L2
namespace LtL
open PySem PyProof.Rows
open PySem.SeqAt
open PySem.AutoSeq1 (wpAny_loadPart')
open PySem.MeetsSeq PySem.MeetsSeq2 PySem.MeetsSeq3 PySem.SeqRoads2
end LtL
namespace L2
open PySem PySem.Spec PyProof.Rows
end L2
namespace L2
open PySem PySem.Spec PyProof.Rows
section
variable {X : Cx} {tg iter elt : Expr} {scope : Scope} {pos : Pos} {wi : TI} {g : TG} {te : TE} {own : List Str} {fr : List (Str × Nat)} {sc : Scope} {NX : List Str}
/-- y = [elt for tg in iter]: the store comes ahead of the block's end -/
theorem ps_comp {i : Nat} {y : Str} {py spos : Pos} (hN : X.N.Nodup) (hi' : X.N[i]? = some y) (hy : Loc X.env.scope y) (hsc : X.env.scope = sc) (hNX : X.N = NX) (S : CompSc sc NX scope fr) (hc : X.calm = true) (hi : PI X tg iter wi)
    (hg : ∀ (s : Shared) (H : Hp) (fp : List Addr), PG (cxComp X scope (own ++ fr.map (·.1)) s H fp) tg g)
    (he : ∀ (s : Shared) (H : Hp) (fp : List Addr), PE (cxComp X scope (own ++ fr.map (·.1)) s H fp) elt te)
    (hsw : swapsWith (.ListComp elt [⟨tg, iter, [], 0⟩] scope pos) (some (.Name y py)) spos.line X.env = pure true := by rfl)
    (hs : ∀ x, foldedSetIterable iter X.env x = pure x := by intro _; rfl) (hf : X.fn y = true ∨ X.env.scope.names.lookup y = some .local := by first | exact .inl rfl | exact .inr rfl | assumption) :
    PS X (.Assign [.Name y py] (.ListComp elt [⟨tg, iter, [], 0⟩] scope pos) spos) (tAsg (tComp own.length fr wi g te) (gName i)) := by
  intro pins s σ H D I h
  have hfree : ∀ y ∈ scope.names, y.2 = .free → ∃ c, X.env.cells.lookup y.1 = some c := fun y hy e => I.ok.has y.1 (by have z := S.free y hy e; rw [← hsc] at z; exact z)
  rw [exec_Assign_Name_used _ _ _ _ hsw]
  refine wpAny_bind (wpAny_standAt (wpAny_bind ?_))
  show wpAny _ X.A (do let _ ← comprehension (.ListComp elt [⟨tg, iter, [], 0⟩] scope pos) scope X.env _ (newList []) false (eval iter X.env) (some (assign (.Name y py) X.env))) _ _ s
  refine wpAny_bind (wpAny_mono (wpAny_comprehension_free (use := some (assign (.Name y py) X.env)) (Q := fun _ s' => SP X pins D .next s') rfl hs (closure_clOf hfree) S.kind S.loc (thn (hi pins s σ H _ I h) fun v s1 h1 => thn h1 fun itv s2 h2 => ?_)) (fun _ s' hq => wpAny_pure (wpAny_pure hq)) fun _ _ e => e)
  obtain ⟨it, fp, tn, J, H2, e, I2, T, st2, f2, R⟩ := h2
  subst e
  have fpl : ∀ b ∈ fp, b < s2.heap.objs.size := fun b hb => by
    obtain ⟨o, e, _⟩ := T.obj _ _ st2 b hb
    exact Heap.lt_size e
  obtain ⟨W, ⟨m0, w0⟩, turn⟩ := R s2.heap.objs.size I2.fresh
  refine wpAny_newList ?_ (Nat.zero_le _)
  have I3 : Inv X pins σ (upd H2 s2.heap.objs.size (.lst [])) { s2 with heap := s2.heap.push { cls := .type "list", data := .seq ([] : List Value).toArray } } := I2.lnew (its := []) (t' := s2.toks) .nil (Nat.zero_le _)
  have k23 : ∀ b o, s2.heap.get? b = some o → (s2.heap.push { cls := .type "list", data := .seq ([] : List Value).toArray }).get? b = some o := fun b o q => Heap.get?_push_of_some _ q
  have sz23 : s2.heap.objs.size ≤ (s2.heap.push { cls := .type "list", data := .seq ([] : List Value).toArray }).objs.size := by rw [Heap.size_push]; exact Nat.le_succ _
  generalize hh3 : s2.heap.push { cls := .type "list", data := .seq ([] : List Value).toArray } = h3 at I3 k23 sz23 ⊢
  generalize hl : s2.heap.objs.size = l at *
  have f3 : ∀ b ∈ fp, FpOk X pins (upd H2 l (.lst [])) b ∧ b < h3.objs.size := fun b hb => by
    have hb' := fpl b hb
    refine ⟨⟨?_, (f2 b hb).2⟩, Nat.lt_of_lt_of_le hb' sz23⟩
    rw [upd_ne (Nat.ne_of_lt hb')]
    exact (f2 b hb).1
  refine wpAny_newFunctionEnv S.cell (by intro y hy; simp at hy) (fun h4 hns hsb => ?_) S.kind
  have k34 : ∀ b o, h3.get? b = some o → h4.get? b = some o := fun b o q => hsb.extBut b o (Nat.ne_of_lt (Heap.lt_size q)) (Heap.get?_push_of_some _ q)
  have I4 : Inv (cxComp X scope (own ++ fr.map (·.1)) { s2 with heap := h3 } (upd H2 l (.lst [])) fp) [] (compSt own.length fr σ) (upd H2 l (.lst [])) { s2 with heap := h4, toks := s2.toks + ([] : List (Str × Value)).length } :=
    compInv (s := { s2 with heap := h3 }) (h1 := h4) hsc hNX S I3 f3 hns k34
  have st4 : tn 0 h4 := T.keep _ _ _ st2 fun b _ o q => k34 b o (k23 b o q)
  have nofs : ∀ b ∈ fp, b ∉ frs X.stack := fun b hb z => (List.mem_cons.mp (I3.stkSub b z)).elim (f3 b hb).1.2.1 (f3 b hb).1.2.2.1
  have hfree' := hfree
  have hcl : ∀ x c, (clOf X.env.cells scope.names []).lookup x = some c → X.env.cells.lookup x = some c := fun x c e => by
    rcases clOf_lookup scope.names [] hfree e with z | z
    · simp at z
    · exact z
  have stat : ∀ {H' : Hp}, (∀ b ∈ fp, H' b = none) → ∀ b ∈ fp, FpOk (cxComp X scope (own ++ fr.map (·.1)) { s2 with heap := h3 } (upd H2 l (.lst [])) fp) [] H' b := fun hn b hb =>
    ⟨hn b hb, Nat.ne_of_lt (f3 b hb).2, nofs b hb, .inl hb, fun x c e => (f3 b hb).1.2.2.2.2.1 x c (hcl x c e), fun p hp => absurd (show p ∈ ([] : List (Addr × Obj)) from hp) (by simp)⟩
  have loop : codeAny (model X.prog X.w) X.A (.compLoop (.ListComp elt [⟨tg, iter, [], 0⟩] scope pos) 0 (.ref it) (.ref l) (compEnvC scope (clOf X.env.cells scope.names []) h3.objs.size X.env))
      (compPost (model X.prog X.w) X.A X.xe (some (assign (.Name y py) X.env)) (fun _ s' => SP X pins D .next s') (.ref l) h3.objs.size) { s2 with heap := h4, toks := s2.toks + ([] : List (Str × Value)).length } := by
    refine compLoop_any (fun n s' => ∃ i σ' H', Inv (cxComp X scope (own ++ fr.map (·.1)) { s2 with heap := h3 } (upd H2 l (.lst [])) fp) [] σ' H' s' ∧ tn i s'.heap ∧ (∀ b ∈ fp, H' b = none) ∧ W i n σ' H') ?_ m0
      ⟨0, _, _, I4, st4, fun b hb => (f3 b hb).1.1, w0⟩
    rintro n s5 ⟨i, σ5, H5, I5, st5, fr5, w5⟩
    rcases turn i n σ5 H5 w5 with ⟨stop, q⟩ | ⟨go, N', hN', step⟩
    · refine thn (T.done (cxComp X scope (own ++ fr.map (·.1)) { s2 with heap := h3 } (upd H2 l (.lst [])) fp) rfl rfl rfl hc i [] s5 σ5 H5 _ I5 (stat fr5) st5 stop) fun r s6 ⟨hr, I6⟩ => ?_
      subst hr
      obtain ⟨m, ⟨oC, es, ep, eC, dC, rC⟩, _⟩ := I6.loc
      have hb6 : Un (frs X.stack) fp (upd H2 l (.lst [])) H5 h3 s6.heap := I6.base
      have hC : H5 h3.objs.size = none := I6.free
      have J6 : Inv X pins σ H5 s6 := I3.call' (s' := s6) (ch := fp) I6.os hb6 I6.hok I6.bare fun b hb => ⟨(f3 b hb).1.2.2.2.1, (f3 b hb).1.2.1, (f3 b hb).1.2.2.2.2.1, (f3 b hb).1.2.2.2.2.2⟩
      have fC : FpOk X pins H5 h3.objs.size := I3.fpOk (Nat.le_refl _) hC
      have J7 : Inv X (pins ++ [(h3.objs.size, oC)]) σ H5 s6 := J6.pins_of fun p hp => (List.mem_append.mp hp).elim (fun z => J6.pin p (List.mem_append_right _ z)) fun z => by
        rw [List.mem_singleton.mp z]
        exact ⟨eC, hC, fC.2.1, fC.2.2.1, fun v z => by rw [dC] at z; cases z⟩
      refine wpAny_assign_Name (store_ok (v := .ref l) J7 hN hi' hy rfl (fun s7 I7 => ?_) hf)
      have eC7 := (I7.pin (h3.objs.size, oC) (List.mem_append_right _ (List.mem_append_right _ (List.mem_singleton.mpr rfl)))).1
      exact ⟨m, ⟨oC, es, ep, eC7, dC, rC⟩, fun h' sb => ⟨_, H5, I7.unpinned.turned (t' := s7.toks) (fun b o hb e => sb.extBut b o hb e) hC fC.2.1 fC.2.2.2.1 fC.2.2.2.2.1 fC.2.2.2.2.2, q⟩⟩
    · refine thn (T.item (cxComp X scope (own ++ fr.map (·.1)) { s2 with heap := h3 } (upd H2 l (.lst [])) fp) rfl rfl rfl hc i [] s5 σ5 H5 _ I5 (stat fr5) st5 go) fun r s6 ⟨u, hr, h6⟩ => ?_
      subst hr
      refine thn h6 fun _ s7 ⟨x, H7, I7, r7, y7, st7, fr7⟩ => ?_
      have I7' := I7.pinned (stat fr7) (T.obj _ _ st7)
      refine thn (hg _ _ _ _ s7 σ5 H7 x u _ I7' r7 (step x H7 y7)) fun _ s8 ⟨σ8, H8, I8, q8⟩ => ?_
      refine thn (he _ _ _ _ s8 σ8 H8 _ I8 q8) fun v s9 ⟨y, H9, I9, r9, ys, hl9, hz9, n9⟩ => ?_
      refine thn (mt_append _ s9 σ8 H9 (.ref l) [y] (.ref l) [v] (fun _ H' => H' = upd H9 l (.lst (ys ++ [y]))) I9 rfl (.cons r9 .nil) ⟨l, ys, y, rfl, rfl, hl9, hz9, rfl⟩) fun _ s10 ⟨z, H10, I10, _, e10⟩ => ?_
      subst e10
      obtain ⟨m', hm, w10⟩ := hN' _ _ n9
      refine ⟨m', hm, i + 1, σ8, _, I10.unpinned, T.keep _ _ _ st7 fun b hb o e => (I10.pin (b, o) (List.mem_append_right _ (List.mem_append_right _ (mem_pinsAt hb e)))).1, fun b hb => ?_, w10⟩
      obtain ⟨o, e, d⟩ := T.obj _ _ st7 b hb
      exact (I10.pin (b, o) (List.mem_append_right _ (List.mem_append_right _ (mem_pinsAt hb e)))).2.1
  exact codeAny_compStart_list loop (T.self _ 0 _ _ _ st4 loop)
end
end L2
namespace L2
open PySem PySem.Spec PyProof.Rows
end L2
namespace L2
open PySem PySem.Spec PyProof.Rows
end L2
namespace L2
open PySem PySem.Spec PyProof.Rows
end L2
namespace L2
open PySem PySem.Spec PyProof.Rows
end L2
namespace L2
open PySem PySem.Spec PyProof.Rows
end L2
namespace Z3
open PySem PySem.Spec PyProof.Rows
theorem nq {a b : Nat} (h : a ≠ b) : a ≠ b := h
end Z3
namespace L2
open PySem PySem.Spec PyProof.Rows
section
variable {X : Cx} {pins : List (Addr × Obj)} {σ : St} {H : Hp} {s : Shared} {h' : Heap}
/-- the records at fp have turned, and a tuple was laid -/
theorem Inv.zipped {fp : List Addr} {vs : List V} {us : List Value} {t' : Nat} (I : Inv X pins σ H s) (hf : ∀ b ∈ fp, FpOk X pins H b) (k : ∀ b o, b ∉ fp → s.heap.get? b = some o → h'.get? b = some o)
    (r : Vals vs us) (hz : vs.length ≤ sizeLine) (hT : IsTup h' s.heap.objs.size us.toArray) : Inv X pins σ (upd H s.heap.objs.size (.tup vs)) { s with heap := h', toks := t' } := by
  have fr : H s.heap.objs.size = none := I.hok.fresh (Nat.le_refl _)
  have old : ∀ b o, s.heap.get? b = some o → b ≠ s.heap.objs.size := fun b o e => Nat.ne_of_lt (Heap.lt_size e)
  have at_ : ∀ b o, H b = some o → (upd H s.heap.objs.size (.tup vs)) b = some o := fun b o e => by rw [upd_ne (Nat.ne_of_lt (I.hok.lt e))]; exact e
  have nfp : ∀ b o, H b = some o → b ∉ fp := fun b o e z => by rw [(hf b z).1] at e; cases e
  refine I.call' (s' := { s with heap := h', toks := t' }) (ch := fp) rfl ⟨fun b o e n _ hx => k b o hx e, fun b o e n _ hx => ⟨o.slots, k b o hx e⟩, fun b o e n _ => by rw [upd_ne (old b o e)]; exact n, fun b o e hx => ⟨o, k b o hx e⟩, fun b xs e => at_ b _ e, fun b o u e => at_ b _ e, fun b ps e => ⟨#[], by rw [at_ b _ e]; simp⟩⟩
    (fun b o e => ?_) I.bare fun b hb => ⟨(hf b hb).2.2.2.1, (hf b hb).2.1, (hf b hb).2.2.2.2.1, (hf b hb).2.2.2.2.2⟩
  by_cases q : b = s.heap.objs.size
  · subst q
    rw [upd_same] at e; cases e
    exact ⟨hz, us, r, hT⟩
  · rw [upd_ne q] at e
    refine (I.hok b o e).stay (fun c u hc g => k c u ?_ g) (fun c g => at_ c _ g) fun c xs g => at_ c _ g
    rcases hc with z | z
    · rw [z]; exact nfp b o e
    · exact nfp c _ z
/-- the records at fp have turned -/
theorem Inv.turnedL {fp : List Addr} {t' : Nat} (I : Inv X pins σ H s) (hf : ∀ b ∈ fp, FpOk X pins H b) (k : ∀ b o, b ∉ fp → s.heap.get? b = some o → h'.get? b = some o) : Inv X pins σ H { s with heap := h', toks := t' } := by
  have nfp : ∀ b o, H b = some o → b ∉ fp := fun b o e z => by rw [(hf b z).1] at e; cases e
  refine I.call' (s' := { s with heap := h', toks := t' }) (ch := fp) rfl ⟨fun b o e n _ hx => k b o hx e, fun b o e n _ hx => ⟨o.slots, k b o hx e⟩, fun b o e n _ => n, fun b o e hx => ⟨o, k b o hx e⟩, fun b xs e => e, fun b o u e => e, fun b ps e => ⟨#[], by rw [e]; simp⟩⟩
    (fun b o e => ?_) I.bare fun b hb => ⟨(hf b hb).2.2.2.1, (hf b hb).2.1, (hf b hb).2.2.2.2.1, (hf b hb).2.2.2.2.2⟩
  refine (I.hok b o e).stay (fun c u hc g => k c u ?_ g) (fun c g => g) fun c xs g => g
  rcases hc with z | z
  · rw [z]; exact nfp b o e
  · exact nfp c _ z
end
end L2
namespace L2
open PySem PySem.Spec PyProof.Rows
section
variable {X : Cx} {st : Stmt} {rest : List Stmt} {t u : TS} {e : Expr} {te : TE} {pos : Pos} {es : List Expr} {ta : TA}
/-- a statement, a word of what stands behind it, the rest -/
def tSeqM (t u : TS) : TS := fun D σ H => ∃ M : St → Hp → Prop, t { D with nx := M } σ H ∧ ∀ σ' H', M σ' H' → u D σ' H'
theorem pss_consM (h1 : PS X st t) (h2 : PSs X rest u) : PSs X (st :: rest) (tSeqM t u) := by
  intro pins s σ H D I h
  obtain ⟨M, h, hM⟩ := h
  refine wpAny_execs_cons (thn (h1 pins s σ H { D with nx := M } I h) fun f s1 q => ?_)
  cases f with
  | next =>
    obtain ⟨σ', H', I', q⟩ := q
    exact h2 pins s1 σ' H' D I' (hM _ _ q)
  | ret v => exact q
  | brk => exact q
  | cont => exact q
/-- a tuple, a list, two lists together: by what is tracked behind -/
def tTupS (t : TA) : TE := fun σ H Q => t σ H fun xs H1 => xs.length ≤ sizeLine ∧ ∀ p H', Same H1 H' → H' p = some (.tup xs) → Q (.ref p) H'
def tLstS (t : TA) : TE := fun σ H Q => t σ H fun xs H1 => xs.length ≤ sizeLine ∧ ∀ p H', Same H1 H' → H' p = some (.lst xs) → Q (.ref p) H'
theorem pe_tupS {x1} (h : PA X es ta) : PE X (.Tuple es x1 pos) (tTupS ta) := by
  intro pins s σ H Q I hq
  refine wpAny_Tuple_spliced (thn (h pos pins s σ H _ I hq) fun us s1 ⟨xs, H1, I1, r, z, q⟩ => ⟨by rw [← r.length]; exact z, ?_⟩)
  have hf : H1 s1.heap.objs.size = none := I1.hok.fresh (Nat.le_refl _)
  refine ⟨.ref s1.heap.objs.size, upd H1 s1.heap.objs.size (.tup xs), I1.laid (t' := s1.toks) (fun b u e => Heap.get?_push_of_some _ e) (Nat.le_refl _) ?_, rfl, q _ _ ((Same.refl H1).upd hf) upd_same⟩
  exact ⟨z, us, r, ⟨_, Heap.get?_push_size _ rfl, rfl, _, rfl⟩⟩
theorem pe_lstS (h : PA X es ta) : PE X (.List es pos) (tLstS ta) := by
  intro pins s σ H Q I hq
  refine wpAny_List_spliced (thn (h pos pins s σ H _ I hq) fun us s1 ⟨xs, H1, I1, r, z, q⟩ => ⟨by rw [← r.length]; exact z, ?_⟩)
  have hf : H1 s1.heap.objs.size = none := I1.hok.fresh (Nat.le_refl _)
  refine ⟨.ref s1.heap.objs.size, upd H1 s1.heap.objs.size (.lst xs), I1.laid (t' := s1.toks) (fun b u e => Heap.get?_push_of_some _ e) (Nat.le_refl _) ?_, rfl, q _ _ ((Same.refl H1).upd hf) upd_same⟩
  exact ⟨z, us, 0, r, Heap.get?_push_size _ rfl⟩
theorem OpR.imp {f : Value → Value → Sem Value} {r r' : R2} (h : OpR X f r) (k : ∀ x y H Q, r' x y H Q → r x y H Q) : OpR X f r' := fun pins s σ H x y v u Q I rx ry q => h pins s σ H x y v u Q I rx ry (k _ _ _ _ q)
def rCatS : R2 := fun x y H Q => ∃ l b xs zs, x = .ref l ∧ y = .ref b ∧ H l = some (.lst xs) ∧ H b = some (.lst zs) ∧ xs.length + zs.length ≤ sizeLine ∧ ∀ p H', Same H H' → H' p = some (.lst (xs ++ zs)) → Q (.ref p) H'
theorem op_catS : OpR X (binaryOp .Add) rCatS := op_cat.imp fun x y H Q ⟨l, b, xs, zs, e1, e2, h1, h2, h3, q⟩ => ⟨l, b, xs, zs, e1, e2, h1, h2, h3, fun p hp => q p _ ((Same.refl H).upd hp) upd_same⟩
end
end L2
namespace Z3
open PySem PySem.Spec PyProof.Rows
section
variable {prog : Program} {w : World} {A : Around} {E : Value → Shared → Prop} {s : Shared}
/-- a zip of two, begun at the place n -/
structure At2 (h : Heap) (n l1 l2 : Addr) (f0 : Value) (k : Nat) : Prop where
  z : IsZip h (n + 4) (n + 2) (n + 3) f0
  ti : IsPair h (n + 2) (.ref n) (.ref (n + 1))
  to : ∃ a b, IsPair h (n + 3) a b
  i1 : h.IsListIter n l1 k
  i2 : h.IsListIter (n + 1) l2 k
def Off2 (n l : Addr) : Prop := l ≠ n ∧ l ≠ n + 1 ∧ l ≠ n + 3 ∧ l ≠ n + 4
theorem apart2 {n l1 l2 : Nat} (a : Off2 n l1) (b : Off2 n l2) : ZipApart (n + 4) (n + 2) (n + 3) n (n + 1) l1 l2 := by
  obtain ⟨a0, a1, a3, a4⟩ := a
  obtain ⟨b0, b1, b3, b4⟩ := b
  constructor <;> first | assumption | exact nq (by omega)
theorem call_zip2 {l1 l2 : Addr} {xs ys : Array Value} {Q : Value → Shared → Prop} (p1 : s.heap.IsList l1 xs) (p2 : s.heap.IsList l2 ys)
    (h : ∀ h', At2 h' s.heap.objs.size l1 l2 .none 0 → (∀ c o, s.heap.get? c = some o → h'.get? c = some o) → Q (.ref (s.heap.objs.size + 4)) { s with heap := h' }) : wpAny (model prog w) A (call (.type "zip") [.ref l1, .ref l2]) Q E s :=
  call_zip_2 p1 p2 fun h' a1 a2 a3 a4 a5 _ a7 => h h' ⟨a1, a2, ⟨_, _, a3⟩, a4, a5⟩ a7
end
end Z3
namespace L2
open PySem PySem.Spec PyProof.Rows
theorem in5 {b n m : Nat} (hb : b = n ∨ b = n + 1 ∨ b = n + 2 ∨ b = n + 3 ∨ b = n + 4) (lt : n + 4 < m) : b < m := by omega
theorem ge5 {b n : Nat} (hb : b = n ∨ b = n + 1 ∨ b = n + 2 ∨ b = n + 3 ∨ b = n + 4) : n ≤ b := by omega
/-- what a comprehension's walk comes to, by the walk's own form -/
theorem comp_by {J : It} {n : Nat} {l : Addr} {g : TG} {te : TE} {σ0 : St} {H0 : Hp} {Q : Hp → Prop} (Pv : Nat → St → Hp → Prop) (h0 : Pv 0 σ0 H0) (hgo : ∀ i σ H, i < n → Pv i σ H → J.go i H) (hst : ∀ σ H, Pv n σ H → J.stop n H)
    (hs : ∀ i σ H x H', i < n → Pv i σ H → J.yld i H x H' → g x σ H' fun σ3 H3 => te σ3 H3 fun y H4 => ∃ ys, H4 l = some (.lst ys) ∧ ys.length < sizeLine ∧ Pv (i + 1) σ3 (upd H4 l (.lst (ys ++ [y])))) (hd : ∀ σ H, Pv n σ H → Q H) :
    ∃ W : Nat → Nat → St → Hp → Prop, (∃ m, W 0 m σ0 H0) ∧ ∀ i m σ' H', W i m σ' H' →
    (J.stop i H' ∧ Q H') ∨ (J.go i H' ∧ ∃ N : St → Hp → Prop, (∀ σ2 H2, N σ2 H2 → ∃ m', m' < m ∧ W (i + 1) m' σ2 H2) ∧
      ∀ x H2, J.yld i H' x H2 → g x σ' H2 fun σ3 H3 => te σ3 H3 fun y H4 => ∃ ys, H4 l = some (.lst ys) ∧ ys.length < sizeLine ∧ N σ3 (upd H4 l (.lst (ys ++ [y])))) := by
  refine ⟨fun i m σ H => m = n - i ∧ i ≤ n ∧ Pv i σ H, ⟨n, by simp, Nat.zero_le _, h0⟩, ?_⟩
  rintro i m σ H ⟨rfl, hi, p⟩
  by_cases hlt : i < n
  · exact .inr ⟨hgo i σ H hlt p, Pv (i + 1), fun σ' H' p' => ⟨n - (i + 1), by omega, rfl, hlt, p'⟩, fun x H' y => hs i σ H x H' hlt p y⟩
  · have e : i = n := by omega
    subst e
    exact .inl ⟨hst σ H p, hd σ H p⟩
end L2
namespace L2
open PySem PySem.Spec PyProof.Rows
end L2
namespace ZT
open PySem PySem.Spec PyProof.Rows
end ZT
namespace ZT
open PySem PySem.Spec PyProof.Rows
open AutoSeq1 (wpAny_loadPart')
end ZT
namespace L2
open PySem PySem.Spec PyProof.Rows
end L2
namespace ZT
open PySem PySem.Spec PyProof.Rows HT
theorem fm_congr {f g : Nat → Option Value} : ∀ {l : List Nat}, (∀ k ∈ l, f k = g k) → l.filterMap f = l.filterMap g
  | [], _ => rfl
  | k :: l, h => by rw [List.filterMap_cons, List.filterMap_cons, h k (.head _), fm_congr (fun x hx => h x (.tail _ hx))]
theorem rev_pick (xs : Array Value) : ((List.range xs.size).filterMap fun (k : Nat) => xs[(((xs.size : Nat) : Int) - 1 + (k : Int) * (-1)).toNat]?).toArray = xs.toList.reverse.toArray := by
  have e : ((List.range xs.size).filterMap fun (k : Nat) => xs[(((xs.size : Nat) : Int) - 1 + (k : Int) * (-1)).toNat]?) = ((List.range xs.size).filterMap fun (k : Nat) => xs.toList.reverse.toArray[(((0 : Nat) : Int) + (k : Int) * 1).toNat]?) := by
    refine fm_congr fun k hk => ?_
    have hk' : k < xs.size := List.mem_range.mp hk
    have e1 : (((xs.size : Nat) : Int) - 1 + (k : Int) * (-1)).toNat = xs.size - 1 - k := by omega
    have e2 : (((0 : Nat) : Int) + (k : Int) * 1).toNat = k := by omega
    rw [e1, e2]
    have z1 : xs.toList.reverse.toArray[k]? = xs.toList.reverse[k]? := by simp
    have z2 : xs[xs.size - 1 - k]? = xs.toList[xs.size - 1 - k]? := by simp
    rw [z1, z2, List.getElem?_reverse (by rw [Array.length_toList]; exact hk'), Array.length_toList]
  rw [e]
  have z := pick_gen xs.toList.reverse.toArray 0 xs.size
  rw [z]
  rw [List.drop_zero, List.take_of_length_le (by simp)]
section
variable {prog : Program} {w : World} {A : Around} {E : Value → Shared → Prop} {s : Shared}
theorem getItem_rev {t sl : Addr} {its : Array Value} {tk : Tok} {Q : Value → Shared → Prop} (ht : IsTup s.heap t its) (hs : s.heap.IsSliceOf sl .none .none (.int (-1) tk)) (hsz : its.size ≤ sizeLine)
    (h : Q (.ref s.heap.objs.size) { s with heap := s.heap.push { cls := .type "tuple", data := .seq its.toList.reverse.toArray } }) : wpAny (model prog w) A (getItem (.ref t) (.ref sl)) Q E s := by
  have hok : sizeOk (.seq its.toList.reverse.toArray) := by
    show its.toList.reverse.toArray.size ≤ sizeLine
    simpa using hsz
  obtain ⟨os, hos, hcs, hds⟩ := id hs
  have hTs : s.TypeIs (.ref sl) "slice" := ⟨os, hos, hcs⟩
  unfold getItem; try with_reducible refine wpAny_holding ?_
  first | refine wpAny_bind (wpAny_pure ?_) | skip
  refine wpAny_bind (wpAny_sequenceKey ht.typeIs (by decide) (wpAny_bind (wpAny_callSpecial?_slot (name := Str.ofString "__getitem__") ht.typeIs PyProof.Rows.slot_tuple_getitem (wpAny_call_entry PyProof.Rows.slot_tuple_getitem ht.typeIs entry_tuple_getitem ?_ (args_tuple_getitem _ _)))))
  show wpAny _ _ (Builtin.Tuple.tupleItemsOf (.ref t) >>= _) _ _ s
  refine wpAny_bind (tupleItemsOf_ ht (wpAny_bind (wpAny_typeOf hTs ?_)))
  rw [if_pos (by decide)]; refine wpAny_bind ?_
  unfold Builtin.Slice.sliceApplied Builtin.Slice.sliceFields; refine wpAny_bind (wpAny_bind (wpAny_field hos hds (x := .none) rfl (wpAny_bind (wpAny_field hos hds (x := .none) rfl (wpAny_bind (wpAny_field hos hds (x := .int (-1) tk) rfl (wpAny_pure ?_)))))))
  refine wpAny_bind (slicePart_int ?_)
  show wpAny _ _ (if ((-1 : Int) == 0) = true then _ else _) _ _ s
  rw [if_neg (by decide)]
  refine wpAny_bind (slicePart_none (wpAny_bind (slicePart_none (wpAny_bind (wpAny_pure ?_)))))
  have ea : Builtin.Slice.sliceAdjust none none (-1) (its.size : Int) = (((its.size : Nat) : Int) - 1, -1) := rfl
  have ep : Builtin.Slice.slicePlaces (((its.size : Nat) : Int) - 1) (-1) (-1) = its.size := by
    unfold Builtin.Slice.slicePlaces
    rw [if_neg (by decide)]
    by_cases z : ((its.size : Nat) : Int) - 1 > -1
    · rw [if_pos z]
      have e2 : (((its.size : Nat) : Int) - 1 - -1 - 1) / (- -1) = ((its.size : Nat) : Int) - 1 := by
        show (((its.size : Nat) : Int) - 1 - -1 - 1) / 1 = _
        rw [Int.ediv_one]; omega
      rw [e2]; omega
    · rw [if_neg z]; omega
  show wpAny _ _ (match Builtin.Slice.sliceAdjust none none (-1) (its.size : Int) with | (lo, hi) => pure (lo, (-1 : Int), Builtin.Slice.slicePlaces lo hi (-1))) _ _ s
  rw [ea]
  show wpAny _ _ (pure ((((its.size : Nat) : Int) - 1), (-1 : Int), Builtin.Slice.slicePlaces (((its.size : Nat) : Int) - 1) (-1) (-1))) _ _ s
  rw [ep]; refine wpAny_pure ?_
  show wpAny _ _ (if (((((its.size : Nat) : Int) - 1) == 0) && ((-1 : Int) == 1) && (its.size == its.size)) = true then _ else _) _ _ s
  rw [if_neg (by simp), rev_pick]
  first
    | exact wpAny_bind (m := Builtin.Tuple.tupleExact _) (wpAny_newObj_type (wpAny_pure ⟨_, rfl, wpAny_pure h⟩) hok)
    | exact wpAny_bind (m := Builtin.Tuple.tupleExact _) (wpAny_newObj_type (wpAny_bind (wpAny_pure (wpAny_pure ⟨_, rfl, wpAny_pure h⟩))) hok)
    | exact wpAny_bind (wpAny_bind (m := Builtin.Tuple.tupleExact _) (wpAny_newObj_type (wpAny_pure (wpAny_pure ⟨_, rfl, wpAny_pure h⟩)) hok))
    | exact wpAny_bind (wpAny_bind (m := Builtin.Tuple.tupleExact _) (wpAny_newObj_type (wpAny_pure ⟨_, rfl, wpAny_pure h⟩) hok))
end
end ZT
namespace L2
open PySem PySem.Spec PyProof.Rows
section
variable {X : Cx} {e : Expr} {te : TE} {p0 p1 p2 pos : Pos} {k0 : Nat}
/-- t[::-1] -/
def tRev (K : PySem.W.Frag) (te : TE) : TE := fun σ H Q => te σ H fun x H1 => ∃ a xs, x = .ref a ∧ SqT K H1 a xs ∧ ∀ p H', Same H1 H' → H' p = some (.tup xs.reverse) → Q (.ref p) H'
theorem pe_rev (he : PE X e te) : PE X (.Subscript e (.Slice none none (some (.UnaryOp .USub (.Constant (.int 1) k0 p0) p1)) p2) pos) (tRev X.K te) := by
  intro pins s σ H Q I h
  refine Subscript_ (thn (he pins s σ H _ I h) fun v s1 ⟨x, H1, I1, r1, a, xs, ex, hq, q⟩ => ?_)
  subst ex
  cases r1
  refine wpAny_Slice ?_
  rw [evalPart_none]
  refine wpAny_pure (wpAny_pure ?_)
  rw [evalPart_some]
  refine thn (pe_un un_neg pe_int pins s1 σ H1 (fun y H2 => y = .int (-1) ∧ H2 = H1) I1 ⟨1, rfl, rfl, rfl⟩) fun vs s2 ⟨y, H2, I2, r2, ey, eH⟩ => ?_
  subst ey eH
  obtain ⟨tk, rfl⟩ := r2
  have I3 : Inv X pins σ H2 { s2 with heap := s2.heap.push { cls := .type "slice", data := .fields #[.none, .none, .int (-1) tk] } } := I2.kept (t' := s2.toks) fun b ob q => Heap.get?_push_of_some _ q
  obtain ⟨its, rv, p, hz⟩ := I3.tuple hq
  have hl := rv.length
  show wpAny (model X.prog X.w) X.A (subscriptTail e (.Slice none none (some (.UnaryOp .USub (.Constant (.int 1) k0 p0) p1)) p2) (.ref a) (.ref s2.heap.objs.size)) (EP X pins σ Q) X.xe { s2 with heap := s2.heap.push { cls := .type "slice", data := .fields #[.none, .none, .int (-1) tk] } }
  refine tail_any (ops := [.ref a, .ref s2.heap.objs.size]) p.typeIs PyProof.Rows.slot_tuple_getitem.lookup ?_ (by with_unfolding_all rfl)
  have fr : H2 (s2.heap.push { cls := .type "slice", data := .fields #[.none, .none, .int (-1) tk] }).objs.size = none := I3.hok.fresh (Nat.le_refl _)
  refine ZT.getItem_rev p (Heap.IsSliceOf.new ..) (by simpa using (hl ▸ hz)) ⟨.ref _, _, I3.laid (t' := s2.toks) (o := .tup xs.reverse) (fun b ob q => Heap.get?_push_of_some _ q) (Nat.le_refl _) ⟨by simpa using hz, its.reverse, rv.reverse, ?_⟩, rfl, q _ _ ((Same.refl H2).upd fr) upd_same⟩
  exact IsTup.new _ _
end
end L2
namespace L2
open PySem PySem.Spec PyProof.Rows
section
variable {κ : Type} [DecidableEq κ]
def valV (kvs : List (κ × V)) (k : κ) : Option V := (kvs.find? fun kv => decide (kv.1 = k)).map (·.2)
/-- in its place, or at the end -/
def putK (kvs : List (κ × V)) (k : κ) (v : V) : List (κ × V) :=
  if (kvs.any fun kv => decide (kv.1 = k)) = true then kvs.map (fun kv => if kv.1 = k then (kv.1, v) else kv) else kvs ++ [(k, v)]
theorem valV_pos {p : κ × V} {r : List (κ × V)} {k : κ} (e : p.1 = k) : valV (p :: r) k = some p.2 := by simp [valV, List.find?_cons, e]
theorem valV_neg {p : κ × V} {r : List (κ × V)} {k : κ} (e : ¬ p.1 = k) : valV (p :: r) k = valV r k := by simp [valV, List.find?_cons, e]
theorem valV_any (k : κ) : ∀ kvs : List (κ × V), (kvs.any fun kv => decide (kv.1 = k)) = (valV kvs k).isSome
  | [] => rfl
  | p :: r => by
    rw [List.any_cons]
    by_cases e : p.1 = k
    · simp only [valV_pos e, decide_eq_true e, Bool.true_or, Option.isSome_some]
    · rw [valV_neg e, decide_eq_false e, Bool.false_or]; exact valV_any k r
theorem valV_map (k j : κ) (y : V) : ∀ kvs : List (κ × V), valV (kvs.map fun kv => if kv.1 = k then (kv.1, y) else kv) j = (valV kvs j).map fun x => if j = k then y else x
  | [] => rfl
  | p :: r => by
    have ih := valV_map k j y r
    rw [List.map_cons]
    by_cases h : p.1 = k
    · rw [if_pos h]
      by_cases e : p.1 = j
      · rw [valV_pos (p := (p.1, y)) e, valV_pos e, Option.map_some, if_pos (e.symm.trans h)]
      · rw [valV_neg (p := (p.1, y)) e, valV_neg e, ih]
    · rw [if_neg h]
      by_cases e : p.1 = j
      · rw [valV_pos (p := p) e, valV_pos e, Option.map_some, if_neg (fun z => h (e.trans z))]
      · rw [valV_neg (p := p) e, valV_neg e, ih]
theorem valV_snoc (k j : κ) (y : V) : ∀ kvs : List (κ × V), valV kvs k = none → valV (kvs ++ [(k, y)]) j = if j = k then some y else valV kvs j
  | [], _ => by
    by_cases e : k = j
    · rw [if_pos e.symm]; exact valV_pos (p := (k, y)) e
    · rw [if_neg (fun z => e z.symm)]; exact valV_neg (p := (k, y)) e
  | p :: r, hn => by
    rw [List.cons_append]
    have hk : ¬ p.1 = k := fun z => by rw [valV_pos z] at hn; cases hn
    rw [valV_neg hk] at hn
    have ih := valV_snoc k j y r hn
    by_cases e : p.1 = j
    · rw [valV_pos e, valV_pos e, if_neg (fun z => hk (e.trans z))]
    · rw [valV_neg e, valV_neg e, ih]
theorem valV_put (kvs : List (κ × V)) (k j : κ) (y : V) : valV (putK kvs k y) j = if j = k then some y else valV kvs j := by
  unfold putK
  by_cases a : (kvs.any fun kv => decide (kv.1 = k)) = true
  · rw [if_pos a, valV_map]
    rw [valV_any] at a
    by_cases e : j = k
    · obtain ⟨x, hx⟩ := Option.isSome_iff_exists.mp a
      rw [if_pos e, e, hx, Option.map_some, if_pos rfl]
    · rw [if_neg e]
      cases valV kvs j with
      | none => rfl
      | some x => rw [Option.map_some, if_neg e]
  · rw [if_neg a]
    refine valV_snoc k j y kvs ?_
    rw [valV_any] at a
    cases q : valV kvs k with
    | none => rfl
    | some x => rw [q] at a; exact (a rfl).elim
theorem length_putK (kvs : List (κ × V)) (k : κ) (v : V) : (putK kvs k v).length ≤ kvs.length + 1 := by
  unfold putK
  split
  · rw [List.length_map]; omega
  · rw [List.length_append, List.length_cons, List.length_nil]; omega
theorem RelO.isSome_eq {o : Option V} {u : Option Value} (r : RelO o u) : o.isSome = u.isSome := by
  cases o with
  | none => cases u with
    | none => rfl
    | some _ => exact (show False from r).elim
  | some _ => cases u with
    | none => exact (show False from r).elim
    | some _ => rfl
/-- raw tables of the same keys -/
theorem KV.val {kvs : List (κ × V)} {vs : List (κ × Value)} (r : KV kvs vs) (k : κ) : RelO (valV kvs k) (valueAt vs k) := by
  unfold KV at r
  induction r with
  | nil => exact True.intro
  | @cons p q ps qs h t ih =>
    obtain ⟨h1, h2⟩ := h
    by_cases e : p.1 = k
    · have e' : q.1 = k := h1.symm.trans e
      have b : valueAt (q :: qs) k = some q.2 := by simp [valueAt, List.find?_cons, e']
      rw [valV_pos e, b]; exact h2
    · have e' : ¬ q.1 = k := fun z => e (h1.trans z)
      have b : valueAt (q :: qs) k = valueAt qs k := by simp [valueAt, List.find?_cons, e']
      rw [valV_neg e, b]; exact ih
theorem KV.any {kvs : List (κ × V)} {vs : List (κ × Value)} (r : KV kvs vs) (k : κ) : (kvs.any fun kv => decide (kv.1 = k)) = vs.any fun kv => decide (kv.1 = k) := by
  unfold KV at r
  induction r with
  | nil => rfl
  | cons h t ih => rw [List.any_cons, List.any_cons, ih, h.1]
theorem KV.repl {kvs : List (κ × V)} {vs : List (κ × Value)} (r : KV kvs vs) (k : κ) {y : V} {u : Value} (ry : RelV y u) :
    KV (kvs.map fun kv => if kv.1 = k then (kv.1, y) else kv) (vs.map fun kv => if kv.1 = k then (kv.1, u) else kv) := by
  unfold KV at r ⊢
  induction r with
  | nil => exact .nil
  | @cons p q ps qs h t ih =>
    rw [List.map_cons, List.map_cons]
    refine .cons ?_ ih
    obtain ⟨h1, h2⟩ := h
    by_cases e : p.1 = k
    · rw [if_pos e, if_pos (h1.symm.trans e)]; exact ⟨h1, ry⟩
    · rw [if_neg e, if_neg (fun z => e (h1.trans z))]; exact ⟨h1, h2⟩
theorem KV.put {kvs : List (κ × V)} {vs : List (κ × Value)} (r : KV kvs vs) (k : κ) {y : V} {u : Value} (ry : RelV y u) : KV (putK kvs k y) (stored vs k u) := by
  unfold putK stored
  rw [r.any k]
  by_cases e : (vs.any fun kv => decide (kv.1 = k)) = true
  · rw [if_pos e, if_pos e]; exact r.repl k ry
  · rw [if_neg e, if_neg e]; exact Paired.snoc r ⟨rfl, ry⟩
theorem KV.keys {kvs : List (κ × V)} {vs : List (κ × Value)} (r : KV kvs vs) : kvs.map (·.1) = vs.map (·.1) := by
  unfold KV at r
  induction r with
  | nil => rfl
  | cons h t ih => rw [List.map_cons, List.map_cons, ih, h.1]
theorem KV.length {kvs : List (κ × V)} {vs : List (κ × Value)} (r : KV kvs vs) : kvs.length = vs.length := Paired.length r
end
theorem kV_is {P : Program} {w : World} {k : Key} {u : Value} (r : RelV (kV k) u) : (mixKind P w).is k u = true := by
  cases k with
  | inl i => obtain ⟨t, e⟩ := (show ∃ t, u = Value.int i t from r); subst e; exact mixKind_int P w i t
  | inr x => obtain ⟨t, e⟩ := (show ∃ t, u = Value.str x t from r); subst e; exact mixKind_str P w x t
theorem items_are {P : Program} {w : World} : ∀ {ks : List Key} {us : List Value}, Vals (ks.map kV) us → ItemsAre (mixKind P w) ks us
  | [], _, r => by rw [List.map_nil] at r; cases r; exact .nil
  | k :: ks, _, r => by
    rw [List.map_cons] at r
    cases r with
    | cons h t => exact .cons (kV_is h) (items_are t)
/-- raw entries of a dict with tuple keys -/
abbrev KT (H : Hp) : List (List Key × V) → List (List Key × Addr × Value) → Prop := Paired fun p q => p.1 = q.1 ∧ H q.2.1 = some (.tup (p.1.map kV)) ∧ RelV p.2 q.2.2
theorem KT.val {H : Hp} {kvs : List (List Key × V)} {xs : List (List Key × Addr × Value)} (r : KT H kvs xs) (k : List Key) : RelO (valV kvs k) ((atKey xs k).map (·.2)) := by
  induction r with
  | nil => exact True.intro
  | @cons p q ps qs h t ih =>
    obtain ⟨h1, _, h2⟩ := h
    by_cases e : p.1 = k
    · have e' : q.1 = k := h1.symm.trans e
      have b : atKey (q :: qs) k = some q.2 := by simp [atKey, List.find?_cons, e']
      rw [valV_pos e, b]; exact h2
    · have e' : ¬ q.1 = k := fun z => e (h1.trans z)
      have b : atKey (q :: qs) k = atKey qs k := by simp [atKey, List.find?_cons, e']
      rw [valV_neg e, b]; exact ih
theorem KT.repl {H : Hp} {kvs : List (List Key × V)} {xs : List (List Key × Addr × Value)} (r : KT H kvs xs) (k : List Key) {y : V} {u : Value} (ry : RelV y u) :
    KT H (kvs.map fun kv => if kv.1 = k then (kv.1, y) else kv) (xs.map (putAt k u)) := by
  induction r with
  | nil => exact .nil
  | @cons p q ps qs h t ih =>
    rw [List.map_cons, List.map_cons]
    refine .cons ?_ ih
    obtain ⟨h1, h2, h3⟩ := h
    unfold putAt
    by_cases e : p.1 = k
    · rw [if_pos e, if_pos (h1.symm.trans e)]; exact ⟨h1, h2, ry⟩
    · rw [if_neg e, if_neg (fun z => e (h1.trans z))]; exact ⟨h1, h2, h3⟩
theorem KT.put {H : Hp} {kvs : List (List Key × V)} {xs : List (List Key × Addr × Value)} (r : KT H kvs xs) (k : List Key) {b : Addr} {y : V} {u : Value} (hb : H b = some (.tup (k.map kV))) (ry : RelV y u) :
    KT H (putK kvs k y) (storedH xs k b u) := by
  have e : (kvs.any fun kv => decide (kv.1 = k)) = (atKey xs k).isSome := by
    rw [valV_any, (r.val k).isSome_eq, Option.isSome_map]
  unfold putK storedH
  rw [e]
  by_cases q : (atKey xs k).isSome = true
  · rw [if_pos q, if_pos q]; exact r.repl k ry
  · rw [if_neg q, if_neg q]; exact Paired.snoc r ⟨rfl, hb, ry⟩
theorem KT.keeps {H H' : Hp} {kvs : List (List Key × V)} {xs : List (List Key × Addr × Value)} (r : KT H kvs xs) (ht : ∀ b ys, H b = some (.tup ys) → H' b = some (.tup ys)) : KT H' kvs xs :=
  Paired.mapP r fun _ _ z => ⟨z.1, ht _ _ z.2.1, z.2.2⟩
section
variable {P : Program} {w : World} {H : Hp} {h : Heap} {a : Addr}
theorem rd_of {u : HO} (ok : HOk P w H h) (e : Rd H a u) : ObjOk P w H h a u := e.ok ok
theorem dk_rd {kvs : List (Key × V)} (ok : HOk P w H h) (e : Rd H a (.dK kvs)) : kvs.length ≤ sizeLine ∧ (a == sysModules) = false ∧ ∃ vs, KV kvs vs ∧ h.DictOf (mixKind P w) a vs :=
  show ObjOk P w H h a (.dK kvs) from rd_of ok e
theorem dk_of {kvs : List (Key × V)} (ok : HOk P w H h) (e : H a = some (.dK kvs)) : kvs.length ≤ sizeLine ∧ (a == sysModules) = false ∧ ∃ vs, KV kvs vs ∧ h.DictOf (mixKind P w) a vs := dk_rd ok (.inl e)
/-- a tracked tuple of ints and texts is a key -/
theorem key_of {ks : List Key} (ok : HOk P w H h) (e : H a = some (.tup (ks.map kV))) : (tupleKind (mixKind P w)).is h ks a := by
  obtain ⟨_, its, r, o, h1, h2, n, h3⟩ := (show ObjOk P w H h a (.tup (ks.map kV)) from ok a _ e)
  exact ⟨o, its.toArray, n, h1, h2, h3, by simpa using items_are r⟩
theorem dt_rd {kvs : List (List Key × V)} (ok : HOk P w H h) (e : Rd H a (.dT kvs)) : kvs.length ≤ sizeLine ∧ (a == sysModules) = false ∧
    ∃ xs, KT H kvs xs ∧ h.DictOfH (tupleKind (mixKind P w)) a xs := by
  obtain ⟨z, y, xs, r, o, es, ep, h1, h2, h3, h4, h5⟩ := (show ObjOk P w H h a (.dT kvs) from rd_of ok e)
  refine ⟨z, y, xs, r, o, es, ep, h1, h2, h3, h4, fun x hx => ?_, h5⟩
  have all : ∀ {l : List (List Key × V)} {m : List (List Key × Addr × Value)}, KT H l m → ∀ x ∈ m, (tupleKind (mixKind P w)).is h x.1 x.2.1 := by
    intro l m q
    induction q with
    | nil => intro x hx; exact nomatch hx
    | @cons p q ps qs hq t ih =>
      intro x hx
      rcases List.mem_cons.mp hx with e | hx
      · subst e
        exact key_of ok (by rw [← hq.1]; exact hq.2.1)
      · exact ih x hx
  exact all r x hx
theorem dt_of {kvs : List (List Key × V)} (ok : HOk P w H h) (e : H a = some (.dT kvs)) : kvs.length ≤ sizeLine ∧ (a == sysModules) = false ∧
    ∃ xs, KT H kvs xs ∧ h.DictOfH (tupleKind (mixKind P w)) a xs := dt_rd ok (.inl e)
end
/-- what the dict at a holds at the key y -/
def DGet (H : Hp) (a : Addr) (y : V) (r : Option V) : Prop :=
  (∃ kvs k, Rd H a (.dK kvs) ∧ y = kV k ∧ r = valV kvs k) ∨ ∃ kvs k b, Rd H a (.dT kvs) ∧ y = .ref b ∧ H b = some (.tup (k.map kV)) ∧ r = valV kvs k
/-- the heap behind a[y] = v -/
def DPut (H : Hp) (a : Addr) (y v : V) (H' : Hp) : Prop :=
  (∃ kvs k, H a = some (.dK kvs) ∧ y = kV k ∧ kvs.length < sizeLine ∧ H' = upd H a (.dK (putK kvs k v))) ∨
  ∃ kvs k b, H a = some (.dT kvs) ∧ y = .ref b ∧ H b = some (.tup (k.map kV)) ∧ kvs.length < sizeLine ∧ H' = upd H a (.dT (putK kvs k v))
theorem DGet.k {H : Hp} {a : Addr} {kvs : List (Key × V)} {k : Key} (e : H a = some (.dK kvs)) : DGet H a (kV k) (valV kvs k) := .inl ⟨kvs, k, .inl e, rfl, rfl⟩
theorem DPut.k {H : Hp} {a : Addr} {kvs : List (Key × V)} {k : Key} {v : V} (e : H a = some (.dK kvs)) (hl : kvs.length < sizeLine) : DPut H a (kV k) v (upd H a (.dK (putK kvs k v))) := .inl ⟨kvs, k, e, rfl, hl, rfl⟩
section
variable {X : Cx} {pins : List (Addr × Obj)} {σ : St} {H : Hp} {s : Shared} {a : Addr} {y v : V} {u r : Value} {o : Option V} {A : Around} {E : Value → Shared → Prop}
/-- d[y], there -/
theorem d_getItem {Q : Value → Shared → Prop} (hu : A.units + 1 < cLine) (I : Inv X pins σ H s) (g : DGet H a y (some v)) (ry : RelV y u) (h : ∀ w' s', Inv X pins σ H s' → RelV v w' → Q w' s') :
    wpAny (model X.prog X.w) A (getItem (.ref a) u) Q E s := by
  rcases g with ⟨kvs, k, e, ey, l⟩ | ⟨kvs, k, b, e, ey, eb, l⟩
  · subst ey
    obtain ⟨z, hd, vs, rel, dd⟩ := dk_rd I.hok e
    obtain ⟨w', hw, rw'⟩ := RelO.some_of (v := v) (o := valueAt vs k) (by rw [l]; exact rel.val k)
    exact wpAny_getItem_of (kV_is ry) dd.mapOf hw (h w' _ (I.tok _) rw')
  · subst ey
    cases (show u = Value.ref b from ry)
    obtain ⟨z, hd, xs, rel, dd⟩ := dt_rd I.hok e
    obtain ⟨w', hw, rw'⟩ := RelO.some_of (v := v) (o := (atKey xs k).map (·.2)) (by rw [l]; exact rel.val k)
    obtain ⟨p, hp, hp2⟩ := Option.map_eq_some_iff.mp hw
    refine wpAny_getItem_heap (tupleKind_room_in1 hu) (key_of I.hok eb) dd hp ?_
    rw [hp2]
    exact h w' _ (I.tok _) rw'
/-- y in d -/
theorem d_in {Q : Value → Shared → Prop} (hu : A.units + 1 < cLine) (I : Inv X pins σ H s) (g : DGet H a y o) (ry : RelV y u) (h : ∀ s', Inv X pins σ H s' → Q (.bool o.isSome) s') :
    wpAny (model X.prog X.w) A (compareOp .In u (.ref a)) Q E s := by
  rcases g with ⟨kvs, k, e, ey, l⟩ | ⟨kvs, k, b, e, ey, eb, l⟩
  · subst ey
    obtain ⟨z, hd, vs, rel, dd⟩ := dk_rd I.hok e
    refine wpAny_in_of (kV_is ry) hd dd.mapOf ?_
    rw [← (rel.val k).isSome_eq, ← l]
    exact h _ (I.tok _)
  · subst ey
    cases (show u = Value.ref b from ry)
    obtain ⟨z, hd, xs, rel, dd⟩ := dt_rd I.hok e
    refine wpAny_in_heap (tupleKind_room_in1 hu) (key_of I.hok eb) hd dd ?_
    have q := (rel.val k).isSome_eq
    rw [Option.isSome_map] at q
    rw [← q, ← l]
    exact h _ (I.tok _)
theorem d_notIn {Q : Value → Shared → Prop} (hu : A.units + 1 < cLine) (I : Inv X pins σ H s) (g : DGet H a y o) (ry : RelV y u) (h : ∀ s', Inv X pins σ H s' → Q (.bool (!o.isSome)) s') :
    wpAny (model X.prog X.w) A (compareOp .NotIn u (.ref a)) Q E s := by
  rcases g with ⟨kvs, k, e, ey, l⟩ | ⟨kvs, k, b, e, ey, eb, l⟩
  · subst ey
    obtain ⟨z, hd, vs, rel, dd⟩ := dk_rd I.hok e
    refine wpAny_notIn_of (kV_is ry) hd dd.mapOf ?_
    rw [← (rel.val k).isSome_eq, ← l]
    exact h _ (I.tok _)
  · subst ey
    cases (show u = Value.ref b from ry)
    obtain ⟨z, hd, xs, rel, dd⟩ := dt_rd I.hok e
    refine wpAny_notIn_heap (tupleKind_room_in1 hu) (key_of I.hok eb) hd dd ?_
    have q := (rel.val k).isSome_eq
    rw [Option.isSome_map] at q
    rw [← q, ← l]
    exact h _ (I.tok _)
/-- a dict's object is replaced -/
theorem d_write {h' : Heap} {t' : Nat} {ob : HO} (I : Inv X pins σ H s) (mu : Mut (H a)) (hs : Heap.SameBut a s.heap h') (he : ∃ q, h'.get? a = some q) (new : ObjOk X.prog X.w (upd H a ob) h' a ob) :
    Inv X pins σ (upd H a ob) { s with heap := h', toks := t' } :=
  I.write (x := a) (e := a) mu (.inl rfl) (fun b q hb z => (hs.2 b hb).trans z) he new
theorem dk_new {P : Program} {w : World} {H' : Hp} {h' : Heap} {kvs : List (Key × V)} {vs : List (Key × Value)} (z : kvs.length ≤ sizeLine) (hd : (a == sysModules) = false) (rel : KV kvs vs) (dd : h'.DictOf (mixKind P w) a vs) :
    ObjOk P w H' h' a (.dK kvs) := ⟨z, hd, vs, rel, dd⟩
/-- d[y] = v -/
theorem d_setItem {H' : Hp} {Q : Unit → Shared → Prop} (hu : A.units + 1 < cLine) (I : Inv X pins σ H s) (g : DPut H a y v H') (ry : RelV y u) (rv : RelV v r) (h : ∀ s', Inv X pins σ H' s' → Q () s') :
    wpAny (model X.prog X.w) A (setItem (.ref a) u r) Q E s := by
  rcases g with ⟨kvs, k, e, ey, l, eH⟩ | ⟨kvs, k, b, e, ey, eb, l, eH⟩
  · subst ey eH
    obtain ⟨z, hd, vs, rel, dd⟩ := dk_of I.hok e
    have hz : vs.length ≤ sizeLine := by rw [← rel.length]; exact z
    have hl : (putK kvs k v).length ≤ sizeLine := by have := length_putK kvs k v; omega
    refine wpAny_setItem_pairs (hsz := hz) (kV_is ry) dd fun h' dd' hs => h _ ?_
    have he : ∃ q, h'.get? a = some q := let ⟨q, _, _, hq, _⟩ := dd'; ⟨q, hq⟩
    exact d_write I (by rw [e]; exact True.intro) hs he (dk_new hl hd (rel.put k rv) dd')
  · subst ey eH
    cases (show u = Value.ref b from ry)
    obtain ⟨z, hd, xs, rel, dd⟩ := dt_of I.hok e
    have hz : xs.length ≤ sizeLine := by rw [← Paired.length rel]; exact z
    have hl : (putK kvs k v).length ≤ sizeLine := by have := length_putK kvs k v; omega
    refine wpAny_setItem_heap (hsz := hz) (tupleKind_room_in1 hu) (key_of I.hok eb) dd fun h' dd' hs => h _ ?_
    obtain ⟨q, es, ep, hq, h2, h3, h4, _, h5⟩ := dd'
    refine d_write I (by rw [e]; exact True.intro) hs ⟨q, hq⟩ ⟨hl, hd, _, (rel.put k eb rv).keeps fun c ys ec => ?_, q, es, ep, hq, h2, h3, h4, h5⟩
    rw [upd_ne (ne_of ec e (fun z => nomatch z))]
    exact ec
end
/-- the element of a subscription, not a slice -/
def NoSl (i : Expr) : Prop := ∀ ov iv, subscripted i false ov iv = operate [ov, iv] (getItem ov iv)
theorem subD_of {prog : Program} {w : World} {A : Around} {E : Value → Shared → Prop} {s : Shared} {env : Env} {value slice : Expr} {pos : Pos} {T id : String} {Q : Value → Shared → Prop}
    (hl : typeLookup (.type T) "__getitem__" = pure (some (.builtin id))) (hs : NoSl slice)
    (h : wpAny (model prog w) A (eval value env) (fun o s₁ => wpAny (model prog w) A (eval slice env) (fun i s₂ => s₂.TypeIs o T ∧ wpAny (model prog w) A (getItem o i) Q E s₂) E s₁) E s) :
    wpAny (model prog w) A (eval (.Subscript value slice pos) env) Q E s := by
  refine Subscript_ (wpAny_mono h (fun o s₁ h₁ => wpAny_mono h₁ (fun i s₂ h₂ => ?_) fun _ _ x => x) fun _ _ x => x)
  obtain ⟨hT, h₂⟩ := h₂
  unfold subscriptTail
  refine wpAny_bind ?_
  rw [getitemInPython_of_ne hT.not_modules]
  refine wpAny_bind (wpAny_specialOf hT hl ?_)
  have fin : wpAny (model prog w) A (subscripted slice false o i) (fun r s₃ => wpAny (model prog w) A (letTemporaryGo value o r >>= fun _ => pure r) Q E s₃) E s₂ := by
    rw [hs o i]
    exact wpAny_operating (wpAny_mono h₂ (fun r s₃ h₃ => wpAny_bind (wpAny_letTemporaryGo (wpAny_pure h₃))) fun _ _ x => x)
  first
    | exact wpAny_pure (wpAny_bind fin)
    | exact wpAny_bind (wpAny_pure (wpAny_bind fin))
    | exact wpAny_bind fin
theorem dict_typeIs {X : Cx} {pins : List (Addr × Obj)} {σ : St} {H : Hp} {s : Shared} {a : Addr} {y : V} {o : Option V} (I : Inv X pins σ H s) (g : DGet H a y o) : s.TypeIs (.ref a) "dict" := by
  rcases g with ⟨kvs, k, e, _, _⟩ | ⟨kvs, k, b, e, _, _, _⟩
  · obtain ⟨_, _, vs, _, dd⟩ := dk_rd I.hok e
    exact dd.typeIs
  · obtain ⟨_, _, xs, _, dd⟩ := dt_rd I.hok e
    exact dd.typeIs
/-- d[y] -/
def tDGet (td ty : TE) : TE := fun σ H Q => td σ H fun x H1 => ty σ H1 fun y H2 => ∃ a v, x = .ref a ∧ DGet H2 a y (some v) ∧ Q v H2
/-- y in d, y not in d -/
def tDIn (ty td : TE) : TE := fun σ H Q => ty σ H fun y H1 => td σ H1 fun x H2 => ∃ a o, x = .ref a ∧ DGet H2 a y o ∧ Q (.bl o.isSome) H2
def tDNotIn (ty td : TE) : TE := fun σ H Q => ty σ H fun y H1 => td σ H1 fun x H2 => ∃ a o, x = .ref a ∧ DGet H2 a y o ∧ Q (.bl (!o.isSome)) H2
/-- d[y] = v -/
def sDPut (td ty tv : TE) : TS := fun D σ H => tv σ H fun v H1 => td σ H1 fun x H2 => ty σ H2 fun y H3 => ∃ a H4, x = .ref a ∧ DPut H3 a y v H4 ∧ D.nx σ H4
section
variable {X : Cx} {o i e value : Expr} {pos pos' tpos : Pos} {td ty tv : TE}
theorem pe_dget (hu : X.A.units + 1 < cLine) (ho : PE X o td) (hi : PE X i ty) (hs : NoSl i) : PE X (.Subscript o i pos) (tDGet td ty) := by
  intro pins s σ H Q I h
  refine subD_of PySem.F.slot_dict_getitem.lookup hs (thn (ho pins s σ H _ I h) fun u s1 ⟨x, H1, I1, rx, q1⟩ => thn (hi pins s1 σ H1 _ I1 q1) fun iv s2 ⟨y, H2, I2, ry, a, v, ex, g, q2⟩ => ?_)
  subst ex
  obtain rfl : u = Value.ref a := rx
  exact ⟨dict_typeIs I2 g, d_getItem hu I2 g ry fun w' s3 I3 rw' => ⟨v, H2, I3, rw', q2⟩⟩
theorem pc_din (hu : X.A.units + 1 < cLine) (hi : PE X i ty) (ho : PE X o td) : PC X .In i o (tDIn ty td) := by
  intro pins s σ H Q I h
  refine thn (hi pins s σ H _ I h) fun iv s1 ⟨y, H1, I1, ry, q1⟩ => thn (ho pins s1 σ H1 _ I1 q1) fun u s2 ⟨x, H2, I2, rx, a, ov, ex, g, q2⟩ => ?_
  subst ex
  obtain rfl : u = Value.ref a := rx
  exact d_in hu I2 g ry fun s3 I3 => ⟨.bl ov.isSome, H2, I3, rfl, q2⟩
theorem pc_dnotin (hu : X.A.units + 1 < cLine) (hi : PE X i ty) (ho : PE X o td) : PC X .NotIn i o (tDNotIn ty td) := by
  intro pins s σ H Q I h
  refine thn (hi pins s σ H _ I h) fun iv s1 ⟨y, H1, I1, ry, q1⟩ => thn (ho pins s1 σ H1 _ I1 q1) fun u s2 ⟨x, H2, I2, rx, a, ov, ex, g, q2⟩ => ?_
  subst ex
  obtain rfl : u = Value.ref a := rx
  exact d_notIn hu I2 g ry fun s3 I3 => ⟨.bl (!ov.isSome), H2, I3, rfl, q2⟩
theorem ps_dput (hu : X.A.units + 1 < cLine) (ho : PE X o td) (hi : PE X i ty) (hv : PE X value tv) (hs : swapsWith value (some (.Subscript o i pos')) pos.line X.env = pure false) :
    PS X (.Assign [.Subscript o i pos'] value pos) (sDPut td ty tv) := by
  intro pins s σ H D I h
  refine wpAny_Assign_Subscript (thn (hv pins s σ H _ I h) fun r s1 ⟨v, H1, I1, rv, q1⟩ => thn (ho pins s1 σ H1 _ I1 q1) fun u s2 ⟨x, H2, I2, rx, q2⟩ => thn (hi pins s2 σ H2 _ I2 q2) fun iv s3 ⟨y, H3, I3, ry, a, H4, ex, g, q3⟩ => ?_) hs
  subst ex
  obtain rfl : u = Value.ref a := rx
  exact d_setItem hu I3 g ry rv fun s4 I4 => ⟨σ, H4, I4, q3⟩
end
/-- the pairs of a display, from the left -/
def tPairs : List (TE × TE) → St → Hp → (List (V × V) → Hp → Prop) → Prop
  | [], _, H, Q => Q [] H
  | (tk, tv) :: r, σ, H, Q => tk σ H fun x H1 => tv σ H1 fun y H2 => tPairs r σ H2 fun ps H3 => Q ((x, y) :: ps) H3
abbrev VV : List (V × V) → List (Value × Value) → Prop := Paired fun p q => RelV p.1 q.1 ∧ RelV p.2 q.2
def PPs (X : Cx) (pos : Pos) (keys : List (Option Expr)) (values : List Expr) (trs : List (TE × TE)) : Prop :=
  ∀ (pins : List (Addr × Obj)) (s : Shared) (σ : St) (H : Hp) (Q : List (V × V) → Hp → Prop), Inv X pins σ H s → tPairs trs σ H Q →
    wpAny (model X.prog X.w) X.A (evalPairs (pairTrees keys values X.env pos)) (fun vs s' => ∃ ps H', Inv X pins σ H' s' ∧ VV ps vs ∧ Q ps H') X.xe s
theorem pps_nil {X : Cx} {pos : Pos} : PPs X pos [] [] [] := fun pins s σ H Q I h => pairTrees_nil_walk ⟨[], H, I, .nil, h⟩
theorem pps_cons {X : Cx} {pos : Pos} {k v : Expr} {ks : List (Option Expr)} {vs : List Expr} {tk tv : TE} {trs : List (TE × TE)} (hk : PE X k tk) (hv : PE X v tv) (hr : PPs X pos ks vs trs) :
    PPs X pos (some k :: ks) (v :: vs) ((tk, tv) :: trs) := fun pins s σ H Q I h =>
  pairTrees_cons_walk (thn (hk pins s σ H _ I h) fun u s1 ⟨x, H1, I1, rx, q1⟩ => thn (hv pins s1 σ H1 _ I1 q1) fun w2 s2 ⟨y, H2, I2, ry, q2⟩ =>
    thn (hr pins s2 σ H2 _ I2 q2) fun ws s3 ⟨ps, H3, I3, rel, q3⟩ => ⟨(x, y) :: ps, H3, I3, .cons ⟨rx, ry⟩ rel, q3⟩)
def mergeK (kvs more : List (Key × V)) : List (Key × V) := more.foldl (fun acc kv => putK acc kv.1 kv.2) kvs
theorem KV.merge : ∀ {more : List (Key × V)} {rs : List (Key × Value)} {kvs : List (Key × V)} {vs : List (Key × Value)}, KV more rs → KV kvs vs → KV (mergeK kvs more) (merged vs rs) := by
  intro more rs kvs vs r
  unfold KV at r
  induction r generalizing kvs vs with
  | nil => intro q; exact q
  | @cons p q ps qs h t ih =>
    intro r0
    have e : KV (putK kvs p.1 p.2) (stored vs q.1 q.2) := by
      have := r0.put p.1 h.2
      rw [← h.1]; exact this
    exact ih e
theorem length_mergeK : ∀ (more kvs : List (Key × V)), (mergeK kvs more).length ≤ kvs.length + more.length
  | [], kvs => by show kvs.length ≤ kvs.length + 0; omega
  | p :: r, kvs => by
    have h1 := length_mergeK r (putK kvs p.1 p.2)
    have h2 := length_putK kvs p.1 p.2
    show (mergeK (putK kvs p.1 p.2) r).length ≤ _
    rw [List.length_cons]; omega
theorem carries_of {P : Program} {w : World} : ∀ {kvs : List (Key × V)} {ws : List (Value × Value)}, VV (kvs.map fun kv => (kV kv.1, kv.2)) ws → ∃ rs, Carries (mixKind P w) ws rs ∧ KV kvs rs
  | [], _, r => by rw [List.map_nil] at r; cases r; exact ⟨[], True.intro, .nil⟩
  | p :: kvs, _, r => by
    rw [List.map_cons] at r
    cases r with
    | @cons a b as bs h t =>
      obtain ⟨rs, c, q⟩ := carries_of (P := P) (w := w) t
      obtain ⟨b1, b2⟩ := b
      exact ⟨(p.1, b2) :: rs, ⟨kV_is h.1, rfl, c⟩, .cons ⟨rfl, h.2⟩ q⟩
/-- {k: v, ..} with keys ints and texts; the new dict stands empty while the pairs are made -/
def tDisp (trs : List (TE × TE)) : TE := fun σ H Q => ∀ p, H p = none → tPairs trs σ (upd H p (.dK [])) fun ps H2 => H2 p = some (.dK []) ∧ ∃ kvs : List (Key × V), ps = kvs.map (fun kv => (kV kv.1, kv.2)) ∧ kvs.length ≤ 15 ∧ Q (.ref p) (upd H2 p (.dK (mergeK [] kvs)))
theorem pe_disp {X : Cx} {pos : Pos} {keys : List (Option Expr)} {values : List Expr} {trs : List (TE × TE)} (h : PPs X pos keys values trs) (hall : keys.all (·.isSome) = true) (hl : keys.length = values.length) (h0 : keys ≠ [])
    (h15 : keys.length ≤ 15) : PE X (.Dict keys values pos) (tDisp trs) := by
  intro pins s σ H Q I q
  have hn := I.hok.fresh (Nat.le_refl s.heap.objs.size)
  have I1 := I.laid (a := s.heap.objs.size) (o := .dK []) (h' := s.heap.push { cls := .type "dict", data := .dict #[] }) (t' := s.toks) (fun _ _ q => Heap.get?_push_of_some _ q) (Nat.le_refl _) (dk_empty s.heap I.big)
  refine wpAny_Dict_walk (knd := mixKind X.prog X.w) hall hl h0 h15 (thn (h pins _ σ _ _ I1 (q _ hn)) fun ws s2 ⟨ps, H2, I2, rel, e, kvs, ep, lk, q2⟩ => ?_)
  subst ep
  obtain ⟨rs, c, rk⟩ := carries_of (P := X.prog) (w := X.w) rel
  obtain ⟨z, hd, vs0, r0, dd⟩ := dk_of I2.hok e
  cases r0
  refine ⟨rs, c, dd, fun h' dd' hs => ⟨.ref s.heap.objs.size, _, ?_, rfl, q2⟩⟩
  have hz : (mergeK [] kvs).length ≤ sizeLine := by
    have h1 := length_mergeK kvs []
    rw [List.length_nil] at h1
    rw [sizeLine_eq]; omega
  have he : ∃ q, h'.get? s.heap.objs.size = some q := let ⟨q, _, _, hq, _⟩ := dd'; ⟨q, hq⟩
  exact d_write I2 (by rw [e]; exact True.intro) hs he (dk_new hz hd (rk.merge .nil) dd')
section
variable {X : Cx} {pins : List (Addr × Obj)} {σ : St} {H : Hp} {s : Shared} {a : Addr} {kvs : List (Key × V)} {A : Around} {E : Value → Shared → Prop}
theorem d_copyOf {Q : Value → Shared → Prop} (I : Inv X pins σ H s) (e : Rd H a (.dK kvs)) (h : ∀ p s', H p = none → Inv X pins σ (upd H p (.dK kvs)) s' → Q (.ref p) s') : wpAny (model X.prog X.w) A (call (.type "dict") [.ref a]) Q E s := by
  obtain ⟨z, hd, vs, rel, dd⟩ := dk_rd I.hok e
  refine kt_call_dict hd dd (by rw [← rel.length]; exact z) fun h' dd' hs => ?_
  refine h _ _ (I.hok.fresh (Nat.le_refl _)) (I.laid (a := s.heap.objs.size) (o := .dK kvs) (t' := s.toks) (fun b q hq => ?_) (Nat.le_refl _) (dk_new z (beq_eq_false_iff_ne.mpr (Ne.symm (Nat.ne_of_lt I.big))) rel dd'))
  exact (hs.2 b (Nat.ne_of_lt (Heap.lt_size hq))).trans (Heap.get?_push_of_some _ hq)
end
end L2
namespace L2
open PySem PySem.Spec PyProof.Rows
end L2
namespace L2
open PySem PySem.Spec PyProof.Rows
section
variable {X : Cx}
theorem op_le_str : OpR X (compareOp .LtE) (fun x y H Q => ∃ i j, x = .str i ∧ y = .str j ∧ Q (.bl (!decide (j.cps.toList < i.cps.toList))) H) := by
  intro pins s σ H x y v u Q I rx ry h
  obtain ⟨i, j, rfl, rfl, q⟩ := h
  obtain ⟨t, rfl⟩ := rx
  obtain ⟨t', rfl⟩ := ry
  exact P.le_str (fin_bl I q rfl)
theorem op_isnotB : OpR X (compareOp .IsNot) (fun x y H Q => ∃ c d, x = .bl c ∧ y = .bl d ∧ Q (.bl (c != d)) H) := by
  intro pins s σ H x y v u Q I rx ry h
  obtain ⟨c, d, rfl, rfl, q⟩ := h
  cases rx
  cases ry
  exact isnot_bool (fin_bl I q rfl)
theorem op_mul_str : OpR X (binaryOp .Mult) (fun x y H Q => ∃ z n, x = .str z ∧ y = .int n ∧ MulOk z n ∧ Q (.str (Txt.mul z n)) H) := by
  intro pins s σ H x y v u Q I rx ry h
  obtain ⟨z, n, rfl, rfl, ok, q⟩ := h
  obtain ⟨t, rfl⟩ := rx
  obtain ⟨t', rfl⟩ := ry
  exact SB.mul ok fun t' k => ⟨.str (Txt.mul z n), H, I.kept (t' := k) fun b o e => e, ⟨t', rfl⟩, q⟩
theorem vals_intT : ∀ {ns : List Int} {us : List Value}, Vals (ns.map V.int) us → ∃ xs : List (Int × Tok), us = xs.map (fun p => Value.int p.1 p.2) ∧ xs.map (·.1) = ns
  | [], _, .nil => ⟨[], rfl, rfl⟩
  | n :: ns, _, .cons r t => by
    obtain ⟨tk, rfl⟩ := r
    obtain ⟨xs, h1, h2⟩ := vals_intT t
    exact ⟨(n, tk) :: xs, by rw [h1]; rfl, by rw [← h2]; rfl⟩
theorem vals_strs : ∀ {ns : List Str} {us : List Value}, Vals (ns.map V.str) us → ∃ xs : List (Str × Tok), us = strValues xs ∧ xs.map (·.1) = ns
  | [], _, .nil => ⟨[], rfl, rfl⟩
  | n :: ns, _, .cons r t => by
    obtain ⟨tk, rfl⟩ := r
    obtain ⟨xs, h1, h2⟩ := vals_strs t
    exact ⟨(n, tk) :: xs, by rw [h1]; rfl, by rw [← h2]; rfl⟩
theorem call_sum (hc : X.calm = true) : CallR X (.builtin "sum") (fun xs H Q => ∃ (a : Addr) (ns : List Int), xs = [.ref a] ∧ SqL X.K H a (ns.map V.int) ∧ Q (.int ns.sum) H) := by
  intro pins s σ H xs us Q I r h
  obtain ⟨a, ns, rfl, hq, q⟩ := h
  obtain ⟨u, rfl, rx⟩ := vals1 r
  cases rx
  obtain ⟨its, rv, pl, hz⟩ := I.list hq
  obtain ⟨ps, e1, e2⟩ := vals_intT rv
  have hl : s.heap.IsList a (intItems ps.toArray) := by
    have e : intItems ps.toArray = its.toArray := by rw [e1, intItems]; simp
    rw [e]; exact pl.isList
  refine sum_intListG (I.ok.hd hc) hl fun h' tk t' hk => ⟨.int ns.sum, H, I.kept hk, ⟨t', ?_⟩, q⟩
  rw [preSum_eq, List.take_of_length_le (by simp)]
  congr 1
  rw [← e2]
theorem mt_join : MtR X "str.join" (fun x vs H Q => ∃ (z : Str) (a : Addr) (ts : List Str), x = .str z ∧ vs = [.ref a] ∧ SqL X.K H a (ts.map V.str) ∧ JoinOk z ts = true ∧ Q (.str (Txt.join z ts)) H) := by
  intro pins s σ H x xs v us Q I rx rs h
  obtain ⟨z, a, ts, rfl, rfl, hq, ok, q⟩ := h
  obtain ⟨t, rfl⟩ := rx
  obtain ⟨u, rfl, ru⟩ := vals1 rs
  cases ru
  obtain ⟨its, rv, pl, hz⟩ := I.list hq
  obtain ⟨ps, e1, e2⟩ := vals_strs rv
  refine SC.join (l := ps) (by rw [← e1]; exact pl.isList) e2 ok fun t' k => ⟨.str (Txt.join z ts), H, I.kept (t' := k) fun b o e => e, ⟨t', rfl⟩, q⟩
theorem sl_str : SlR X (fun x lo hi H Q => ∃ z, x = .str z ∧ z.length ≤ sizeLine ∧ Q (.str (Txt.slice z lo hi)) H) := by
  intro pins s σ H x v vl vu lo hi sl Q I rx hs pl pu h
  obtain ⟨z, rfl, hz, q⟩ := h
  obtain ⟨t, rfl⟩ := rx
  obtain ⟨o, ho, hcl, hd⟩ := id hs
  refine ⟨"str", _, F.slot_str_getitem.lookup, typeIs_str _ _ _, ?_⟩
  have fin : ∀ t' k, EP X pins σ Q (.str (Txt.slice z lo hi) t') { s with toks := k } := fun t' k => ⟨.str (Txt.slice z lo hi), H, I.kept (t' := k) fun b o e => e, ⟨t', rfl⟩, q⟩
  cases pl with
  | none =>
    cases pu with
    | none => exact wpAny_getItem_str_slice (l := none) (u := none) (st := none) ⟨o, ho, hcl, hd⟩ rfl (post_val_or_str ⟨Nat.le_trans (Txt.slice_le z _ _) hz, fin⟩)
    | int j uj => exact wpAny_getItem_str_slice (l := none) (u := some (j, uj)) (st := none) ⟨o, ho, hcl, hd⟩ rfl (post_val_or_str ⟨Nat.le_trans (Txt.slice_le z _ _) hz, fin⟩)
  | int i ui =>
    cases pu with
    | none => exact wpAny_getItem_str_slice (l := some (i, ui)) (u := none) (st := none) ⟨o, ho, hcl, hd⟩ rfl (post_val_or_str ⟨Nat.le_trans (Txt.slice_le z _ _) hz, fin⟩)
    | int j uj => exact wpAny_getItem_str_slice (l := some (i, ui)) (u := some (j, uj)) (st := none) ⟨o, ho, hcl, hd⟩ rfl (post_val_or_str ⟨Nat.le_trans (Txt.slice_le z _ _) hz, fin⟩)
theorem call_dcopy : CallR X (.type "dict") (fun xs H Q => ∃ a kvs, xs = [V.ref a] ∧ H a = some (.dK kvs) ∧ ∀ p, H p = none → Q (.ref p) (upd H p (.dK kvs))) := by
  intro pins s σ H xs us Q I r h
  obtain ⟨a, kvs, rfl, ha, q⟩ := h
  obtain ⟨u, rfl, ru⟩ := vals1 r
  cases ru
  exact d_copyOf I (.inl ha) fun p s' hp I' => ⟨.ref p, _, I', rfl, q p hp⟩
end
end L2
namespace L2
open PySem PySem.Spec PyProof.Rows
def Its (z : Str) : It := ⟨fun i _ => ∃ c, z.cps[i]? = some c, fun i H x H' => H' = H ∧ ∃ c, z.cps[i]? = some c ∧ x = .str ⟨#[c]⟩, fun i _ => z.cps.size ≤ i⟩
theorem turn_signs {P : Program} {w : World} {K : PySem.W.Frag} {tg : Expr} (z : Str) (t : Tok) (it : Addr) (ty : String) (hty : ty = "str_ascii_iterator" ∨ ty = "str_iterator") : Turn P w K tg (Its z) [it] it (fun i h => h.IsStrIter it ty z t i) where
  mem := by simp
  obj := fun i h st b hb => by
    have e : b = it := by simpa using hb
    subst e
    obtain ⟨o, e, c, d⟩ := st
    exact ⟨o, e, fun v z => by rw [d] at z; cases z⟩
  keep := fun i h h' st k => by
    obtain ⟨o, e, c, d⟩ := st
    exact ⟨o, k it (by simp) o e, c, d⟩
  item := by
    intro X hP hw hK hc i pins s σ H E I hf st hg
    subst hP hw hK
    obtain ⟨c, hx⟩ := hg
    obtain ⟨f0, f1, f2, f3, f4, f5⟩ := hf it (by simp)
    have fin : ∀ h' tk, h'.IsStrIter it ty z t (i + 1) → Heap.SameBut it s.heap h' → ∃ u, some (Value.str ⟨#[c]⟩ s.toks) = some u ∧
        wpAny (model X.prog X.w) X.A (letOwnedTupleGo tg (.ref it) u) (fun _ s2 => ∃ x H', Inv X pins σ H' s2 ∧ RelV x u ∧ (Its z).yld i H x H' ∧ s2.heap.IsStrIter it ty z t (i + 1) ∧ ∀ b ∈ [it], H' b = none) E { s with heap := h', toks := tk } := fun h' tk st' sb => by
      have I1 : Inv X pins σ H { s with heap := h', toks := tk } := I.turned (t' := tk) (fun b o hb e => (sb.2 b hb).trans e) f0 f1 f3 f4 f5
      obtain ⟨o, e, cc, d⟩ := id st'
      refine ⟨_, rfl, go_of (s := { s with heap := h', toks := tk }) e cc d (by rcases hty with z | z <;> · rw [z]; decide) ⟨.str ⟨#[c]⟩, H, I1, ⟨_, rfl⟩, ⟨rfl, c, hx, rfl⟩, st', fun b hb => (hf b hb).1⟩⟩
    rcases hty with e | e
    · subst e
      exact wpAny_pyNext_ascii_item st hx fun h' st' sb => fin h' _ st' sb
    · subst e
      exact wpAny_pyNext_wide_item st hx fun h' st' sb => fin h' _ st' sb
  done := by
    intro X hP hw hK hc i pins s σ H E I hf st hg
    subst hP hw hK
    obtain ⟨f0, f1, f2, f3, f4, f5⟩ := hf it (by simp)
    have hg' : z.cps.size ≤ i := hg
    have hn : z.cps[i]? = none := by simpa using hg'
    rcases hty with e | e
    · subst e
      exact wpAny_pyNext_ascii_end (I.ok.hd hc) st hn fun h' eb => ⟨rfl, I.turned (t' := s.toks) (fun b o hb e => eb b o hb e) f0 f1 f3 f4 f5⟩
    · subst e
      exact wpAny_pyNext_wide_end (I.ok.hd hc) st hn fun h' eb => ⟨rfl, I.turned (t' := s.toks) (fun b o hb e => eb b o hb e) f0 f1 f3 f4 f5⟩
  self := fun _ _ _ _ _ st h => by
    rcases hty with e | e
    · subst e
      exact wpAny_pyIter_striter_ascii st h
    · subst e
      exact wpAny_pyIter_striter_wide st h
section
variable {X : Cx} {tg : Expr}
def iStr (tl : TE) : TI := fun σ H R => tl σ H fun x H1 => ∃ z, x = .str z ∧ R (Its z) H1
theorem pi_str {l : Expr} {tl : TE} (hl : PE X l tl) : PI X tg l (iStr tl) := by
  intro pins s σ H R I h
  refine thn (hl pins s σ H _ I h) fun v s1 ⟨x, H1, I1, r1, q1⟩ => ?_
  obtain ⟨z, e, q⟩ := q1
  subst e
  obtain ⟨t, rfl⟩ := r1
  refine wpAny_pyIter_strU ?_
  refine ⟨s1.heap.objs.size, [s1.heap.objs.size], _, _, H1, rfl, I1.kept (t' := s1.toks) fun b o e => Heap.get?_push_of_some _ e, turn_signs z t _ (strIterType z) (by unfold strIterType; split <;> simp), ⟨_, Heap.get?_push_size _ rfl, rfl, rfl⟩, fun b hb => ?_, q⟩
  have e : b = s1.heap.objs.size := by simpa using hb
  subst e
  exact I1.fpOk (Nat.le_refl _) (I1.hok.fresh (Nat.le_refl _))
/-- two names, by a pair written there: stored from the last to the first -/
def tSwap (i j : Nat) (t : TA) : TS := fun D σ H => tTupS t σ H fun v H1 => ∃ p x y, v = .ref p ∧ H1 p = some (.tup [x, y]) ∧ D.nx ((σ.set j (some y)).set i (some x)) H1
theorem ps_swap {i j : Nat} {x y : Str} {es : List Expr} {t : TA} {k1 k2 : Nat} {p q p1 p2 pos : Pos} (hN : X.N.Nodup) (hi : X.N[i]? = some x) (hj : X.N[j]? = some y) (hx : Loc X.env.scope x) (hy : Loc X.env.scope y) (hc : X.calm = true) (ha : PA X es t)
    (hs : swapsWithSole [.Tuple [.Name x p, .Name y q] k1 p1] (.Tuple es k2 p2) pos.line X.env = pure false := by rfl)
    (hw : swappedStores [.Tuple [.Name x p, .Name y q] k1 p1] (.Tuple es k2 p2) X.env = pure (some [x, y]) := by rfl)
    (hfx : X.fn x = true ∨ X.env.scope.names.lookup x = some .local := by first | exact .inl rfl | exact .inr rfl | assumption) (hfy : X.fn y = true ∨ X.env.scope.names.lookup y = some .local := by first | exact .inl rfl | exact .inr rfl | assumption) :
    PS X (.Assign [.Tuple [.Name x p, .Name y q] k1 p1] (.Tuple es k2 p2) pos) (tSwap i j t) := by
  intro pins s σ H D I h
  refine Assign_Tuple_swapped (names := [x, y]) (thn (pe_tupS (x1 := k2) (pos := p2) ha pins s σ H _ I h) fun v s1 ⟨vv, H1, I1, r1, a, u, u', e1, e2, q1⟩ => ?_) hs hw
  subst e1
  cases r1
  obtain ⟨its, rv, pt, hz⟩ := I1.tuple (SqT.of e2)
  obtain ⟨v1, v2, rfl, ru, rw'⟩ := vals2 rv
  have hU := unpackItems_tuple (prog := X.prog) (w := X.w) (A := X.A) (E := X.xe) (s := s1) (Q := fun items s₂ => wpAny (model X.prog X.w) X.A (assignInOrder ([x, y].reverse.map fun n => bindName X.env n) items.reverse) (fun _ => SP X pins D .next) X.xe s₂) (I1.ok.hd hc) pt fun h' hx' => by
    have I2 : Inv X pins σ H1 { s1 with heap := h' } := I1.kept (t' := s1.toks) fun b o e => hx' b o (Nat.ne_of_lt (Heap.lt_size e)) e
    show wpAny (model X.prog X.w) X.A (assignInOrder [fun v => bindName X.env y v, fun v => bindName X.env x v] [v2, v1]) _ _ _
    refine assignInOrder_cons (bindName_ (store_ok I2 hN hj hy rw' (fun s2 I3 => ?_) hfy))
    refine assignInOrder_cons (bindName_ (store_ok I3 hN hi hx ru (fun s3 I4 => ?_) hfx))
    exact assignInOrder_nil ⟨_, H1, I4, q1⟩
  exact hU
end
end L2
namespace L2
open PySem PySem.Spec PyProof.Rows
theorem compLoopF_any {prog : Program} {w : World} {A : Around} {R : Result → Shared → Prop} {s : Shared} {elt target iter c : Expr} {scope : Scope} {pos : Pos} {it acc : Value} {env : Env} (I : Nat → Shared → Prop)
    (turn : ∀ n s, I n s → wpAny (model prog w) A (pyNext it) (fun r s₁ => match r with
      | none => R (.ok .next) s₁
      | some v => wpAny (model prog w) A (letOwnedTupleGo target it v) (fun _ s₂ => wpAny (model prog w) A (assign target env v) (fun _ s₃ => wpAny (model prog w) A (isTrue c env (eval c env)) (fun b s₆ => if b = true then wpAny (model prog w) A (eval elt env) (fun x s₄ =>
          wpAny (model prog w) A (call (.builtin "list.append") [acc, x]) (fun _ s₅ => ∃ m, m < n ∧ I m s₅) (fun _ _ => False) s₄) (fun _ _ => False) s₆ else ∃ m, m < n ∧ I m s₆) (fun _ _ => False) s₃) (fun _ _ => False) s₂) (fun _ _ => False) s₁) (fun _ _ => False) s)
    (n : Nat) (h : I n s) : codeAny (model prog w) A (.compLoop (.ListComp elt [⟨target, iter, [c], 0⟩] scope pos) 0 it acc env) R s := by
  have nv : ∀ {α : Type} {t : Sem α} {Q Q' : α → Shared → Prop} {E : Value → Shared → Prop} {s : Shared}, wpAny (model prog w) A t Q (fun _ _ => False) s → (∀ a s, Q a s → Q' a s) → wpAny (model prog w) A t Q' E s := fun h hq => wpAny_mono h hq fun _ _ f => f.elim
  refine codeAny_loop rfl I (fun n s hI => ?_) n h
  show wpAny _ _ ((compTurn (.ListComp elt [⟨target, iter, [c], 0⟩] scope pos) 0 it acc env).onRaise (fun x => do noteFrame x env; theTreesLotGoes x)) _ _ s
  refine wpAny_noted ?_
  rw [compTurn_list]
  refine wpAny_bind (wpAny_standAt (wpAny_bind (nv (turn n s hI) fun r s₁ h₁ => ?_)))
  cases r with
  | none => exact wpAny_pure h₁
  | some v =>
    refine wpAny_bind (nv h₁ fun _ s₂ h₂ => wpAny_bind (nv h₂ fun _ s₃ h₃ => wpAny_bind (wpAny_tests_one (nv h₃ fun b s₆ h₆ => ?_))))
    cases b with
    | false => exact wpAny_pure ⟨rfl, h₆⟩
    | true => exact wpAny_bind (wpAny_bind (nv h₆ fun x s₄ h₄ => wpAny_bind (nv h₄ fun _ s₅ h₅ => wpAny_pure (wpAny_pure ⟨rfl, h₅⟩))))
def tCompF (k : Nat) (fr : List (Str × Nat)) (wi : TI) (g : TG) (tt : TT) (te : TE) : TE := fun σ H Q => wi σ H fun J H1 => ∀ l, H1 l = none →
  ∃ W : Nat → Nat → St → Hp → Prop, (∃ m, W 0 m (compSt k fr σ) (upd H1 l (.lst []))) ∧ ∀ i m σ' H', W i m σ' H' →
    (J.stop i H' ∧ Q (.ref l) H') ∨ (J.go i H' ∧ ∃ N : St → Hp → Prop, (∀ σ2 H2, N σ2 H2 → ∃ m', m' < m ∧ W (i + 1) m' σ2 H2) ∧
      ∀ x H2, J.yld i H' x H2 → g x σ' H2 fun σ3 H3 => tt σ3 H3 fun b H5 => if b = true then te σ3 H5 fun y H4 => ∃ ys, H4 l = some (.lst ys) ∧ ys.length < sizeLine ∧ N σ3 (upd H4 l (.lst (ys ++ [y]))) else N σ3 H5)
section
variable {X : Cx} {tg iter elt c : Expr} {scope : Scope} {pos : Pos} {wi : TI} {g : TG} {te : TE} {tt : TT} {own : List Str} {fr : List (Str × Nat)} {sc : Scope} {NX : List Str}
theorem pe_compF (hsc : X.env.scope = sc) (hNX : X.N = NX) (S : CompSc sc NX scope fr) (hc : X.calm = true) (hi : PI X tg iter wi)
    (hg : ∀ (s : Shared) (H : Hp) (fp : List Addr), PG (cxComp X scope (own ++ fr.map (·.1)) s H fp) tg g)
    (he : ∀ (s : Shared) (H : Hp) (fp : List Addr), PE (cxComp X scope (own ++ fr.map (·.1)) s H fp) elt te)
    (ht : ∀ (s : Shared) (H : Hp) (fp : List Addr), PT (cxComp X scope (own ++ fr.map (·.1)) s H fp) c tt)
    (hs : ∀ x, foldedSetIterable iter X.env x = pure x := by intro _; rfl) : PE X (.ListComp elt [⟨tg, iter, [c], 0⟩] scope pos) (tCompF own.length fr wi g tt te) := by
  intro pins s σ H Q I h
  have hfree : ∀ y ∈ scope.names, y.2 = .free → ∃ c, X.env.cells.lookup y.1 = some c := fun y hy e => I.ok.has y.1 (by have z := S.free y hy e; rw [← hsc] at z; exact z)
  rw [eval_ListComp]
  refine wpAny_comprehension_free (use := none) rfl hs (closure_clOf hfree) S.kind S.loc (thn (hi pins s σ H _ I h) fun v s1 h1 => thn h1 fun itv s2 h2 => ?_)
  obtain ⟨it, fp, tn, J, H2, e, I2, T, st2, f2, R⟩ := h2
  subst e
  have fpl : ∀ b ∈ fp, b < s2.heap.objs.size := fun b hb => by
    obtain ⟨o, e, _⟩ := T.obj _ _ st2 b hb
    exact Heap.lt_size e
  obtain ⟨W, ⟨m0, w0⟩, turn⟩ := R s2.heap.objs.size I2.fresh
  refine wpAny_newList ?_ (Nat.zero_le _)
  have I3 : Inv X pins σ (upd H2 s2.heap.objs.size (.lst [])) { s2 with heap := s2.heap.push { cls := .type "list", data := .seq ([] : List Value).toArray } } := I2.lnew (its := []) (t' := s2.toks) .nil (Nat.zero_le _)
  have k23 : ∀ b o, s2.heap.get? b = some o → (s2.heap.push { cls := .type "list", data := .seq ([] : List Value).toArray }).get? b = some o := fun b o q => Heap.get?_push_of_some _ q
  have sz23 : s2.heap.objs.size ≤ (s2.heap.push { cls := .type "list", data := .seq ([] : List Value).toArray }).objs.size := by rw [Heap.size_push]; exact Nat.le_succ _
  generalize hh3 : s2.heap.push { cls := .type "list", data := .seq ([] : List Value).toArray } = h3 at I3 k23 sz23 ⊢
  generalize hl : s2.heap.objs.size = l at *
  have f3 : ∀ b ∈ fp, FpOk X pins (upd H2 l (.lst [])) b ∧ b < h3.objs.size := fun b hb => by
    have hb' := fpl b hb
    refine ⟨⟨?_, (f2 b hb).2⟩, Nat.lt_of_lt_of_le hb' sz23⟩
    rw [upd_ne (Nat.ne_of_lt hb')]
    exact (f2 b hb).1
  refine wpAny_newFunctionEnv S.cell (by intro y hy; simp at hy) (fun h4 hns hsb => ?_) S.kind
  have k34 : ∀ b o, h3.get? b = some o → h4.get? b = some o := fun b o q => hsb.extBut b o (Nat.ne_of_lt (Heap.lt_size q)) (Heap.get?_push_of_some _ q)
  have I4 : Inv (cxComp X scope (own ++ fr.map (·.1)) { s2 with heap := h3 } (upd H2 l (.lst [])) fp) [] (compSt own.length fr σ) (upd H2 l (.lst [])) { s2 with heap := h4, toks := s2.toks + ([] : List (Str × Value)).length } :=
    compInv (s := { s2 with heap := h3 }) (h1 := h4) hsc hNX S I3 f3 hns k34
  have st4 : tn 0 h4 := T.keep _ _ _ st2 fun b _ o q => k34 b o (k23 b o q)
  have nofs : ∀ b ∈ fp, b ∉ frs X.stack := fun b hb z => (List.mem_cons.mp (I3.stkSub b z)).elim (f3 b hb).1.2.1 (f3 b hb).1.2.2.1
  have hfree' := hfree
  have hcl : ∀ x c, (clOf X.env.cells scope.names []).lookup x = some c → X.env.cells.lookup x = some c := fun x c e => by
    rcases clOf_lookup scope.names [] hfree e with z | z
    · simp at z
    · exact z
  have stat : ∀ {H' : Hp}, (∀ b ∈ fp, H' b = none) → ∀ b ∈ fp, FpOk (cxComp X scope (own ++ fr.map (·.1)) { s2 with heap := h3 } (upd H2 l (.lst [])) fp) [] H' b := fun hn b hb =>
    ⟨hn b hb, Nat.ne_of_lt (f3 b hb).2, nofs b hb, .inl hb, fun x c e => (f3 b hb).1.2.2.2.2.1 x c (hcl x c e), fun p hp => absurd (show p ∈ ([] : List (Addr × Obj)) from hp) (by simp)⟩
  have loop : codeAny (model X.prog X.w) X.A (.compLoop (.ListComp elt [⟨tg, iter, [c], 0⟩] scope pos) 0 (.ref it) (.ref l) (compEnvC scope (clOf X.env.cells scope.names []) h3.objs.size X.env))
      (compPost (model X.prog X.w) X.A X.xe none (EP X pins σ Q) (.ref l) h3.objs.size) { s2 with heap := h4, toks := s2.toks + ([] : List (Str × Value)).length } := by
    refine compLoopF_any (fun n s' => ∃ i σ' H', Inv (cxComp X scope (own ++ fr.map (·.1)) { s2 with heap := h3 } (upd H2 l (.lst [])) fp) [] σ' H' s' ∧ tn i s'.heap ∧ (∀ b ∈ fp, H' b = none) ∧ W i n σ' H') ?_ m0
      ⟨0, _, _, I4, st4, fun b hb => (f3 b hb).1.1, w0⟩
    rintro n s5 ⟨i, σ5, H5, I5, st5, fr5, w5⟩
    rcases turn i n σ5 H5 w5 with ⟨stop, q⟩ | ⟨go, N', hN', step⟩
    · refine thn (T.done (cxComp X scope (own ++ fr.map (·.1)) { s2 with heap := h3 } (upd H2 l (.lst [])) fp) rfl rfl rfl hc i [] s5 σ5 H5 _ I5 (stat fr5) st5 stop) fun r s6 ⟨hr, I6⟩ => ?_
      subst hr
      obtain ⟨m, hn, _⟩ := I6.loc
      refine ⟨m, hn, fun h' sb => ⟨.ref l, H5, ?_, rfl, q⟩⟩
      have hb6 : Un (frs X.stack) fp (upd H2 l (.lst [])) H5 h3 s6.heap := I6.base
      have hC : H5 h3.objs.size = none := I6.free
      have ne3 : ∀ b o, h3.get? b = some o → b ≠ h3.objs.size := fun b o e => Nat.ne_of_lt (Heap.lt_size e)
      refine I3.call' (s' := { s6 with heap := h' }) (ch := fp) I6.os ⟨fun b o e n hb hx => ?_, fun b o e n hb hx => ?_, fun b o e n hx => hb6.free b o e n hx, fun b o e hx => ?_, hb6.tups, hb6.frzs, hb6.tbls⟩ (fun a o e => ?_) I6.bare
        fun b hb => ⟨(f3 b hb).1.2.2.2.1, (f3 b hb).1.2.1, (f3 b hb).1.2.2.2.2.1, (f3 b hb).1.2.2.2.2.2⟩
      · exact sb.extBut b o (ne3 b o e) (hb6.keep b o e n hb hx)
      · obtain ⟨sl, z⟩ := hb6.slot b o e n hb hx
        exact ⟨sl, sb.extBut b _ (ne3 b o e) z⟩
      · obtain ⟨o', z⟩ := hb6.there b o e hx
        exact ⟨o', sb.extBut b _ (ne3 b o e) z⟩
      · refine (I6.hok a o e).stay (fun b u hb z => sb.extBut b u ?_ z) (fun _ z => z) fun _ _ z => z
        rintro rfl
        rcases hb with z | z
        · rw [← z, hC] at e; cases e
        · rw [hC] at z; cases z
    · refine thn (T.item (cxComp X scope (own ++ fr.map (·.1)) { s2 with heap := h3 } (upd H2 l (.lst [])) fp) rfl rfl rfl hc i [] s5 σ5 H5 _ I5 (stat fr5) st5 go) fun r s6 ⟨u, hr, h6⟩ => ?_
      subst hr
      refine thn h6 fun _ s7 ⟨x, H7, I7, r7, y7, st7, fr7⟩ => ?_
      have I7' := I7.pinned (stat fr7) (T.obj _ _ st7)
      refine thn (hg _ _ _ _ s7 σ5 H7 x u _ I7' r7 (step x H7 y7)) fun _ s8 ⟨σ8, H8, I8, q8⟩ => ?_
      refine thn (ht _ _ _ _ s8 σ8 H8 _ I8 q8) fun bb s11 ⟨H11, I11, q11⟩ => ?_
      cases bb with
      | false =>
        refine ite_ff ?_
        rw [if_neg (by decide)] at q11
        obtain ⟨m', hm, w10⟩ := hN' _ _ q11
        refine ⟨m', hm, i + 1, σ8, _, I11.unpinned, T.keep _ _ _ st7 fun b hb o e => (I11.pin (b, o) (List.mem_append_right _ (List.mem_append_right _ (mem_pinsAt hb e)))).1, fun b hb => ?_, w10⟩
        obtain ⟨o, e, d⟩ := T.obj _ _ st7 b hb
        exact (I11.pin (b, o) (List.mem_append_right _ (List.mem_append_right _ (mem_pinsAt hb e)))).2.1
      | true =>
        refine ite_tt ?_
        rw [if_pos rfl] at q11
        refine thn (he _ _ _ _ s11 σ8 H11 _ I11 q11) fun v s9 ⟨y, H9, I9, r9, ys, hl9, hz9, n9⟩ => ?_
        refine thn (mt_append _ s9 σ8 H9 (.ref l) [y] (.ref l) [v] (fun _ H' => H' = upd H9 l (.lst (ys ++ [y]))) I9 rfl (.cons r9 .nil) ⟨l, ys, y, rfl, rfl, hl9, hz9, rfl⟩) fun _ s10 ⟨z, H10, I10, _, e10⟩ => ?_
        subst e10
        obtain ⟨m', hm, w10⟩ := hN' _ _ n9
        refine ⟨m', hm, i + 1, σ8, _, I10.unpinned, T.keep _ _ _ st7 fun b hb o e => (I10.pin (b, o) (List.mem_append_right _ (List.mem_append_right _ (mem_pinsAt hb e)))).1, fun b hb => ?_, w10⟩
        obtain ⟨o, e, d⟩ := T.obj _ _ st7 b hb
        exact (I10.pin (b, o) (List.mem_append_right _ (List.mem_append_right _ (mem_pinsAt hb e)))).2.1
  exact codeAny_compStart_list loop (T.self _ 0 _ _ _ st4 loop)
end
end L2
namespace Z3
open PySem PySem.Spec PyProof.Rows
section
variable {prog : Program} {w : World} {A : Around} {E : Value → Shared → Prop} {s : Shared}
theorem wpAny_alive {a : Addr} {Q : Option Obj → Shared → Prop} (h : Q (s.heap.get? a) s) : wpAny (model prog w) A (loadIfAlive a) Q E s := by
  intro Γ p hΓ
  exact h
abbrev IsZipO (h : Heap) (z TI TO : Addr) (f0 f1 : Value) : Prop :=
  h.get? z = some { cls := .type "zip", dict := none, data := .fields #[f0, f1, .bool false, .ref TI, .ref TO], slots := #[] }
theorem zip_free {z TI TO a : Addr} {oa : Obj} {f1 : Value} {Q : Bool → Shared → Prop} (hf : f1 = .bool false ∨ f1 = .bool true) (hz : IsZipO s.heap z TI TO (rawInt a) f1) (ha : s.heap.get? a = some oa)
    (hQ : ∀ h', IsZipO h' z TI TO (rawInt a) (.bool true) → Heap.SameBut z s.heap h' → Q false { s with heap := h' }) : wpAny (model prog w) A (Builtin.SmallTypes.ownedTupleIsFree (.ref z)) Q E s := by
  unfold Builtin.SmallTypes.ownedTupleIsFree
  refine wpAny_bind (wpAny_field hz rfl (x := rawInt a) rfl ?_)
  show wpAny _ _ (loadIfAlive (a : Int).toNat >>= _) _ _ _
  refine wpAny_bind (wpAny_alive ?_)
  rw [Int.toNat_natCast, ha]
  show wpAny _ _ (field (.ref z) 1 >>= _) _ _ _
  refine wpAny_bind (wpAny_field hz rfl (x := f1) rfl ?_)
  rcases hf with rfl | rfl
  · show wpAny _ _ (setField (.ref z) 1 (.bool true) >>= _) _ _ _
    refine wpAny_bind (wpAny_setField_rec hz (by simp) fun h' hz' hs' => wpAny_pure (hQ h' hz' hs'))
  · exact wpAny_pure (hQ s.heap hz ⟨rfl, fun _ _ => rfl⟩)
theorem zip_next_item2 {z TI TO i1 i2 l1 l2 a : Addr} {oa : Obj} {f1 : Value} {k1 k2 : Nat} {xs ys : Array Value} {x y : Value} {Q : Value → Shared → Prop} (D : ZipApart z TI TO i1 i2 l1 l2) (hf : f1 = .bool false ∨ f1 = .bool true)
    (hz : IsZipO s.heap z TI TO (rawInt a) f1) (ha : s.heap.get? a = some oa) (hTI : IsPair s.heap TI (.ref i1) (.ref i2))
    (h1 : s.heap.IsListIter i1 l1 k1) (h2 : s.heap.IsListIter i2 l2 k2) (hl1 : s.heap.IsList l1 xs) (hl2 : s.heap.IsList l2 ys) (hx : xs[k1]? = some x) (hy : ys[k2]? = some y)
    (hQ : ∀ h', IsZipO h' z TI TO (rawInt a) (.bool true) → h'.IsListIter i1 l1 (k1 + 1) → h'.IsListIter i2 l2 (k2 + 1) → IsPair h' s.heap.objs.size x y → h'.objs.size = s.heap.objs.size + 1 →
      (∀ c o, c ≠ z → c ≠ i1 → c ≠ i2 → s.heap.get? c = some o → h'.get? c = some o) → Q (.ref s.heap.objs.size) { s with heap := h' }) :
    wpAny (model prog w) A (Builtin.«zip.__next__» ⟨[.ref z], []⟩) (fun fin s' => ∃ v, fin = .done (.ret v) ∧ Q v s') E s := by
  show wpAny _ _ (field (.ref z) 2 >>= _) _ _ _
  refine wpAny_bind (wpAny_field hz rfl (x := .bool false) rfl ?_)
  show wpAny _ _ (field (.ref z) 3 >>= _) _ _ _
  refine wpAny_bind (wpAny_field hz rfl (x := .ref TI) rfl ?_)
  refine wpAny_bind (wpAny_seqItems hTI rfl ?_)
  show wpAny _ _ (Builtin.SmallTypes.ownedTupleIsFree (.ref z) >>= _) _ _ _
  refine wpAny_bind (zip_free hf hz ha fun h₁ hz₁ hs₁ => ?_)
  simp only [Bool.false_eq_true, if_false]
  refine wpAny_bind ?_
  simp only [List.forIn_toArray, List.forIn_cons, List.forIn_nil]
  refine wpAny_bind (wpAny_bind (wpAny_holding ?_))
  show wpAny _ _ (Builtin.SmallTypes.nextOf (.ref i1) >>= _) _ _ _
  refine wpAny_bind (wpAny_nextOf_list_item (h1.extBut hs₁.extBut D.i1z) (hl1.extBut hs₁.extBut D.l1z) hx fun h₂ h1₂ hs₂ => wpAny_pure (wpAny_pure ?_))
  refine wpAny_bind (wpAny_bind (wpAny_holding ?_))
  show wpAny _ _ (Builtin.SmallTypes.nextOf (.ref i2) >>= _) _ _ _
  refine wpAny_bind (wpAny_nextOf_list_item ((h2.extBut hs₁.extBut D.i2z).extBut hs₂.extBut D.i12.symm) ((hl2.extBut hs₁.extBut D.l2z).extBut hs₂.extBut D.l2i1) hy fun h₃ h2₃ hs₃ => wpAny_pure (wpAny_pure (wpAny_pure ?_)))
  show wpAny _ _ (newTuple [x, y] >>= _) _ _ _
  refine wpAny_bind (wpAny_newTuple ?_)
  have hsz : h₃.objs.size = s.heap.objs.size := by rw [hs₃.1, hs₂.1, hs₁.1]
  refine wpAny_pure ⟨_, rfl, ?_⟩
  show Q (.ref h₃.objs.size) _
  have t₃ : IsPair (h₃.push { cls := .type "tuple", data := .seq #[x, y] }) h₃.objs.size x y := Heap.get?_push_size _ rfl
  have z₃ : IsZipO (h₃.push { cls := .type "tuple", data := .seq #[x, y] }) z TI TO (rawInt a) (.bool true) := Heap.get?_push_of_some _ (hs₃.extBut _ _ D.i2z.symm (hs₂.extBut _ _ D.i1z.symm hz₁))
  have e₃ : (h₃.push { cls := .type "tuple", data := .seq #[x, y] }).objs.size = h₃.objs.size + 1 := Heap.size_push ..
  have a₃ := (h1₂.extBut hs₃.extBut D.i12).at fun o e => Heap.get?_push_of_some { cls := .type "tuple", data := .seq #[x, y] } e
  have b₃ := h2₃.at fun o e => Heap.get?_push_of_some { cls := .type "tuple", data := .seq #[x, y] } e
  rw [hsz] at t₃ e₃ ⊢
  exact hQ _ z₃ a₃ b₃ t₃ e₃ fun c o c1 c2 c3 e => Heap.get?_push_of_some _ (hs₃.extBut _ _ c3 (hs₂.extBut _ _ c2 (hs₁.extBut _ _ c1 e)))
theorem zip_next_end2 {z TI TO i1 i2 l1 l2 a : Addr} {oa : Obj} {f1 : Value} {k1 k2 : Nat} {xs ys : Array Value} {Q : Fin → Shared → Prop} (hh : A.handled = none) (D : ZipApart z TI TO i1 i2 l1 l2) (hf : f1 = .bool false ∨ f1 = .bool true)
    (hz : IsZipO s.heap z TI TO (rawInt a) f1) (ha : s.heap.get? a = some oa) (hTI : IsPair s.heap TI (.ref i1) (.ref i2))
    (h1 : s.heap.IsListIter i1 l1 k1) (hl1 : s.heap.IsList l1 xs) (hx : xs[k1]? = none)
    (hE : ∀ h' e, (∀ c o, c ≠ z → c ≠ i1 → c ≠ i2 → s.heap.get? c = some o → h'.get? c = some o) → (∃ o, h'.get? e = some o ∧ o.cls = .type "StopIteration") → E (.ref e) { s with heap := h' }) :
    wpAny (model prog w) A (Builtin.«zip.__next__» ⟨[.ref z], []⟩) Q E s := by
  show wpAny _ _ (field (.ref z) 2 >>= _) _ _ _
  refine wpAny_bind (wpAny_field hz rfl (x := .bool false) rfl ?_)
  show wpAny _ _ (field (.ref z) 3 >>= _) _ _ _
  refine wpAny_bind (wpAny_field hz rfl (x := .ref TI) rfl ?_)
  refine wpAny_bind (wpAny_seqItems hTI rfl ?_)
  show wpAny _ _ (Builtin.SmallTypes.ownedTupleIsFree (.ref z) >>= _) _ _ _
  refine wpAny_bind (zip_free hf hz ha fun h₁ hz₁ hs₁ => ?_)
  simp only [Bool.false_eq_true, if_false]
  refine wpAny_bind ?_
  simp only [List.forIn_toArray, List.forIn_cons, List.forIn_nil]
  refine wpAny_bind (wpAny_bind (wpAny_holding ?_))
  show wpAny _ _ (Builtin.SmallTypes.nextOf (.ref i1) >>= _) _ _ _
  refine wpAny_bind (wpAny_nextOf_list_end hh (h1.extBut hs₁.extBut D.i1z) (hl1.extBut hs₁.extBut D.l1z) hx fun h₂ e hs₂ he => ?_)
  exact hE h₂ e (fun c o c1 c2 c3 q => hs₂ _ _ c2 (hs₁.extBut _ _ c1 q)) he
theorem next_item2 {z TI TO i1 i2 l1 l2 a : Addr} {oa : Obj} {f1 : Value} {k1 k2 : Nat} {xs ys : Array Value} {x y : Value} {Q : Option Value → Shared → Prop} (D : ZipApart z TI TO i1 i2 l1 l2) (hf : f1 = .bool false ∨ f1 = .bool true)
    (hz : IsZipO s.heap z TI TO (rawInt a) f1) (ha : s.heap.get? a = some oa) (hTI : IsPair s.heap TI (.ref i1) (.ref i2))
    (h1 : s.heap.IsListIter i1 l1 k1) (h2 : s.heap.IsListIter i2 l2 k2) (hl1 : s.heap.IsList l1 xs) (hl2 : s.heap.IsList l2 ys) (hx : xs[k1]? = some x) (hy : ys[k2]? = some y)
    (hQ : ∀ h', IsZipO h' z TI TO (rawInt a) (.bool true) → h'.IsListIter i1 l1 (k1 + 1) → h'.IsListIter i2 l2 (k2 + 1) → IsPair h' s.heap.objs.size x y → h'.objs.size = s.heap.objs.size + 1 →
      (∀ c o, c ≠ z → c ≠ i1 → c ≠ i2 → s.heap.get? c = some o → h'.get? c = some o) → Q (some (.ref s.heap.objs.size)) { s with heap := h' }) :
    wpAny (model prog w) A (pyNext (.ref z)) Q E s := by
  have hT : s.TypeIs (.ref z) "zip" := ⟨_, hz, rfl⟩
  unfold pyNext
  exact wpAny_bind (wpAny_attempt (wpAny_callSpecial?_slot (name := Str.ofString "__next__") hT F.slot_zip_next
    (wpAny_call_entry F.slot_zip_next hT F.entry_zip_next
      (zip_next_item2 D hf hz ha hTI h1 h2 hl1 hl2 hx hy fun h' a1 a2 a3 a4 a5 a6 => wpAny_pure (hQ h' a1 a2 a3 a4 a5 a6)) (F.args_zip_next_1 _))))
theorem next_end2 {z TI TO i1 i2 l1 l2 a : Addr} {oa : Obj} {f1 : Value} {k1 : Nat} {xs : Array Value} {Q : Option Value → Shared → Prop} (hh : A.handled = none) (D : ZipApart z TI TO i1 i2 l1 l2) (hf : f1 = .bool false ∨ f1 = .bool true)
    (hz : IsZipO s.heap z TI TO (rawInt a) f1) (ha : s.heap.get? a = some oa) (hTI : IsPair s.heap TI (.ref i1) (.ref i2))
    (h1 : s.heap.IsListIter i1 l1 k1) (hl1 : s.heap.IsList l1 xs) (hx : xs[k1]? = none)
    (hQ : ∀ h', (∀ c o, c ≠ z → c ≠ i1 → c ≠ i2 → s.heap.get? c = some o → h'.get? c = some o) → Q none { s with heap := h' }) : wpAny (model prog w) A (pyNext (.ref z)) Q E s := by
  have hT : s.TypeIs (.ref z) "zip" := ⟨_, hz, rfl⟩
  unfold pyNext
  refine wpAny_bind (wpAny_attempt (wpAny_callSpecial?_slot (name := Str.ofString "__next__") hT F.slot_zip_next
    (wpAny_call_entry F.slot_zip_next hT F.entry_zip_next (zip_next_end2 (ys := #[]) (k2 := 0) hh D hf hz ha hTI h1 hl1 hx fun h' e hk he => ?_) (F.args_zip_next_1 _))))
  obtain ⟨o, ho, hc⟩ := he
  refine wpAny_bind (wpAny_isInstance (T := "StopIteration") (b := true) ⟨o, ho, hc⟩ isSubtype_stop ?_)
  exact wpAny_pure (hQ _ hk)
theorem zip_no_len : typeLookup (.type "zip") "__len__" = pure none := by rw [typeLookup_type, builtinLookup_eq_fast]; kernel_rfl
theorem zip_no_hint : typeLookup (.type "zip") "__length_hint__" = pure none := by rw [typeLookup_type, builtinLookup_eq_fast]; kernel_rfl
end
end Z3
namespace L2
open PySem PySem.Spec PyProof.Rows
/-- a zip of two lists, begun at n, k pairs drawn, none let go -/
structure Zk (h : Heap) (n l1 l2 : Addr) (k : Nat) : Prop where
  z : IsZip h (n + 4) (n + 2) (n + 3) .none ∨ ∃ a o f1, Z3.IsZipO h (n + 4) (n + 2) (n + 3) (rawInt (a : Addr)) f1 ∧ h.get? a = some o ∧ o.cls = .type "tuple" ∧ (f1 = .bool false ∨ f1 = .bool true) ∧ a ∉ [n, n + 1, n + 2, n + 3, n + 4]
  ti : IsPair h (n + 2) (.ref n) (.ref (n + 1))
  to : ∃ a b, IsPair h (n + 3) a b
  i1 : h.IsListIter n l1 k
  i2 : h.IsListIter (n + 1) l2 k
theorem Zk.off {h : Heap} {n l l1 l2 : Addr} {k : Nat} {xs : Array Value} (z : Zk h n l1 l2 k) (p : h.IsList l xs) : Z3.Off2 n l := by
  obtain ⟨o, e, c, _⟩ := p
  obtain ⟨z0, ti, ⟨a, b, to⟩, ⟨o1, e1, c1, _⟩, ⟨o2, e2, c2, _⟩⟩ := z
  refine ⟨fun q => ?_, fun q => ?_, fun q => ?_, fun q => ?_⟩
  · subst q; rw [e] at e1; cases e1; rw [c] at c1; simp at c1
  · subst q; rw [e] at e2; cases e2; rw [c] at c2; simp at c2
  · subst q; have q := e.symm.trans to; cases q; simp at c
  · subst q
    rcases z0 with z0 | ⟨_, _, _, z0, _⟩
    · have q := e.symm.trans z0; cases q; simp at c
    · have q := e.symm.trans z0; cases q; simp at c
theorem Zk.keep {h h' : Heap} {n l1 l2 : Addr} {k : Nat} (z : Zk h n l1 l2 k) (kp : ∀ b o, (b ∈ [n, n + 1, n + 2, n + 3, n + 4] ∨ o.cls = .type "tuple") → h.get? b = some o → h'.get? b = some o) : Zk h' n l1 l2 k := by
  obtain ⟨z0, ti, ⟨a, b', to⟩, i1, i2⟩ := z
  refine ⟨?_, kp _ _ (.inl (by simp)) ti, ⟨a, b', kp _ _ (.inl (by simp)) to⟩, i1.at fun o e => kp _ o (.inl (by simp)) e, i2.at fun o e => kp _ o (.inl (by simp)) e⟩
  rcases z0 with z0 | ⟨a, o, f1, z0, ha, hc, hf, hn⟩
  · exact .inl (kp _ _ (.inl (by simp)) z0)
  · exact .inr ⟨a, o, f1, kp _ _ (.inl (by simp)) z0, kp _ _ (.inr hc) ha, hc, hf, hn⟩
section
variable {X : Cx} {pins : List (Addr × Obj)} {σ : St}
theorem pair_app {α β : Type} {F : α → β → Prop} : ∀ {l1 l2 : List α} {r1 r2 : List β}, Paired F l1 r1 → Paired F l2 r2 → Paired F (l1 ++ l2) (r1 ++ r2)
  | _, _, _, _, .nil, h => h
  | _, _, _, _, .cons a t, h => .cons a (pair_app t h)
def TupsOf (H : Hp) (ts : List Addr) (zs : List (V × V)) : Prop := Paired (fun t z => H t = some (.tup [z.1, z.2])) ts zs
theorem lz_loop (hcalm : X.calm = true) {n l1 l2 S : Addr} {xs ys : List V} {R : Result → Shared → Prop} {H0 : Hp} {A : Around} (hA : A.handled = none) (hlen : xs.length = ys.length) (hN : xs.length ≤ 1000) (hS0 : H0 S = none) (q1 : SqL X.K H0 l1 xs) (q2 : SqL X.K H0 l2 ys)
    (hR : ∀ s' H' ts, Inv X pins σ H' s' → Same H0 H' → H' S = some (.lst (ts.map V.ref)) → TupsOf H' ts (xs.zip ys) → R (.ok (.ret .none)) s') :
    ∀ (k i : Nat) (s : Shared) (H : Hp) (ts : List Addr), xs.length - i = k → i ≤ xs.length → Inv X pins σ H s → Same H0 H → Zk s.heap n l1 l2 i → (∀ b ∈ [n, n + 1, n + 2, n + 3, n + 4], FpOk X pins H b) → H S = some (.lst (ts.map V.ref)) → TupsOf H ts ((xs.zip ys).take i) →
      codeAny (model X.prog X.w) A (.builtin "list.extend.loop" ⟨[.ref S, .ref (n + 4), .none], []⟩) R s := by
  intro k
  induction k with
  | zero =>
    intro i s H ts hk hi I sm zk hf hS ht
    have hin : i = xs.length := by omega
    subst hin
    refine codeAny_builtin F.entry_extend_loop ?_
    rw [Around.under_plainId F.plain_extend_loop _]
    show wpAny _ A.in1 (pyNext (.ref (n + 4)) >>= _) _ _ s
    obtain ⟨is1, r1, p1, _⟩ := I.list (sm.seq q1)
    obtain ⟨is2, r2, p2, _⟩ := I.list (sm.seq q2)
    have hl1 := r1.length
    have D := Z3.apart2 (zk.off p1.isList) (zk.off p2.isList)
    rw [List.take_of_length_le (by rw [List.length_zip]; omega)] at ht
    obtain ⟨z0, wi, ⟨wa, wb, wo⟩, w1, w2⟩ := id zk
    rcases z0 with w0 | ⟨a, o, f1, w0, ha, hcl, hff, hnm⟩
    · refine wpAny_bind (wpAny_pyNext_zip_end (A := A.in1) hA D w0 wi wo w1 w2 p1.isList p2.isList (.inl (by simp; omega)) fun h' kp => ?_)
      refine wpAny_pure (hR _ H ts (I.turnedL (t' := s.toks) hf fun b o hb e => ?_) sm hS ht)
      simp only [List.mem_cons, List.not_mem_nil, or_false, not_or] at hb
      exact kp b o hb.2.2.2.2 hb.2.2.2.1 hb.1 hb.2.1 e
    · refine wpAny_bind (Z3.next_end2 (A := A.in1) hA D hff w0 ha wi w1 p1.isList (by simp; omega) fun h' kp => ?_)
      refine wpAny_pure (hR _ H ts (I.turnedL (t' := s.toks) hf fun b o hb e => ?_) sm hS ht)
      simp only [List.mem_cons, List.not_mem_nil, or_false, not_or] at hb
      exact kp b o hb.2.2.2.2 hb.1 hb.2.1 e
  | succ k ih =>
    intro i s H ts hk hi I sm zk hf hS ht
    have hlt : i < xs.length := by omega
    refine codeAny_builtin F.entry_extend_loop ?_
    rw [Around.under_plainId F.plain_extend_loop _]
    show wpAny _ A.in1 (pyNext (.ref (n + 4)) >>= _) _ _ s
    obtain ⟨is1, r1, p1, _⟩ := I.list (sm.seq q1)
    obtain ⟨is2, r2, p2, _⟩ := I.list (sm.seq q2)
    have e1 : xs[i]? = some xs[i] := List.getElem?_eq_getElem hlt
    have e2 : ys[i]? = some (ys[i]'(by omega)) := List.getElem?_eq_getElem (by omega)
    obtain ⟨u, hu, ru⟩ := r1.get e1
    obtain ⟨v, hv, rv⟩ := r2.get e2
    have D := Z3.apart2 (zk.off p1.isList) (zk.off p2.isList)
    have fr : H s.heap.objs.size = none := I.hok.fresh (Nat.le_refl _)
    have hSlt : S < s.heap.objs.size := I.hok.lt hS
    have hSn : S ∉ [n, n + 1, n + 2, n + 3, n + 4] := fun hm => by rw [(hf S hm).1] at hS; cases hS
    have hszip : (xs.zip ys)[i]? = some (xs[i], ys[i]'(by omega)) := by rw [List.getElem?_zip_eq_some]; exact ⟨e1, e2⟩
    have hfl : ∀ b ∈ [n, n + 1, n + 2, n + 3, n + 4], b < s.heap.objs.size := fun b hb => by
      have : n + 4 < s.heap.objs.size := by
        rcases zk.z with w0 | ⟨_, _, _, w0, _⟩ <;> exact Heap.lt_size w0
      simp only [List.mem_cons, List.not_mem_nil, or_false] at hb
      exact in5 hb this
    -- what follows a drawn pair
    have go : ∀ h1 : Heap, (∀ b o, b ∉ [n, n + 1, n + 2, n + 3, n + 4] → s.heap.get? b = some o → h1.get? b = some o) → IsPair h1 s.heap.objs.size u v → Zk h1 n l1 l2 (i + 1) →
        wpAny (model X.prog X.w) A.in1 (Builtin.List.listUpdate (.ref S) (·.push (.ref s.heap.objs.size)) >>= fun _ => again (.builtin "list.extend.loop" ⟨[.ref S, .ref (n + 4), .none], []⟩))
          (fun fin s' => match fin with | .done f => R (.ok f) s' | .again c' => c'.quiet = true ∧ codeAny (model X.prog X.w) A c' R s') (fun e s' => R (.error e) s') { s with heap := h1 } := fun h1 kp tri zk1 => by
      have I1 : Inv X pins σ (upd H s.heap.objs.size (.tup [xs[i], ys[i]'(by omega)])) { s with heap := h1 } := I.zipped (us := [u, v]) (t' := s.toks) hf kp (.cons ru (.cons rv .nil)) (by show 2 ≤ sizeLine; decide) ⟨_, tri, rfl, _, rfl⟩
      have hS1 : (upd H s.heap.objs.size (.tup [xs[i], ys[i]'(by omega)])) S = some (.lst (ts.map V.ref)) := by rw [upd_ne (Nat.ne_of_lt hSlt)]; exact hS
      obtain ⟨zz, its, nn, r, hll, e⟩ := I1.lstM hS1
      have htl : ts.length = i := by
        have := Paired.length ht
        rw [List.length_take, List.length_zip] at this
        omega
      have hil : its.length = i := by rw [← hll, List.length_map, htl]
      show wpAny _ A.in1 (updateSeq S (·.push (.ref s.heap.objs.size)) >>= _) _ _ _
      refine wpAny_bind ?_
      refine wpAny_updateSeq e rfl (wpAny_pure ⟨plainId_quiet F.plain_extend_loop _, ?_⟩) (by rw [List.size_toArray, hil]; exact Nat.le_of_lt (small1000 (by omega))) (by show (its.toArray.push _).size ≤ sizeLine + 1; rw [Array.size_push, List.size_toArray, hil]; exact Nat.succ_le_succ (Nat.le_of_lt (small1000 (by omega))))
      have I2 := I1.lset (its' := its ++ [.ref s.heap.objs.size]) (ys := ts.map V.ref ++ [.ref s.heap.objs.size]) (t' := s.toks) (f := (·.push (.ref s.heap.objs.size))) hS1 e (by simp) (r.append (.cons (show RelV (.ref s.heap.objs.size) (.ref s.heap.objs.size) from rfl) .nil)) (by rw [List.length_append, List.length_map, List.length_singleton, htl]; exact Nat.le_of_lt (small1000 (by omega)))
      refine ih (i + 1) _ _ (ts ++ [s.heap.objs.size]) (by omega) hlt I2 ?_ ?_ ?_ ?_ ?_
      · intro b o z
        rw [upd_ne (ne_of_none z hS0)]
        by_cases hb : b = s.heap.objs.size
        · subst hb; rw [sm _ _ z] at fr; cases fr
        · rw [upd_ne hb]; exact sm _ _ z
      · refine zk1.keep fun b o hb eb => ?_
        have hbS : S ≠ b := fun z => by
          subst z
          rcases hb with hb | hb
          · exact hSn hb
          · rw [e] at eb; cases eb; simp at hb
        exact (Heap.get?_update_other _ _ hbS).trans eb
      · intro b hb
        refine ⟨?_, (hf b hb).2⟩
        rw [upd_ne (fun z : b = S => hSn (by rw [← z]; exact hb)), upd_ne (Nat.ne_of_lt (hfl b hb))]
        exact (hf b hb).1
      · rw [upd_same, List.map_append]
        rfl
      · have e3 : (xs.zip ys).take (i + 1) = (xs.zip ys).take i ++ [(xs[i], ys[i]'(by omega))] := by rw [List.take_add_one, hszip]; rfl
        rw [e3]
        refine pair_app (Paired.mapP ht fun t z hz => ?_) (.cons ?_ .nil)
        · have h1 : t ≠ s.heap.objs.size := fun q => by subst q; rw [hz] at fr; cases fr
          have h2 : t ≠ S := fun q => by subst q; rw [hz] at hS; cases hS
          rw [upd_ne h2, upd_ne h1]; exact hz
        · rw [upd_ne (Nat.ne_of_gt hSlt), upd_same]
    obtain ⟨z0, wi, ⟨wa, wb, wo⟩, w1, w2⟩ := id zk
    have lt : n + 4 < s.heap.objs.size := hfl (n + 4) (by simp)
    rcases z0 with w0 | ⟨a, o, f1, w0, ha, hcl, hff, hnm⟩
    · refine wpAny_bind (wpAny_pyNext_zip_item D w0 wi wo w1 w2 p1.isList p2.isList (x := u) (y := v) (by simpa using hu) (by simpa using hv) fun h1 z1 to1 i11 i21 tri sz kp => ?_)
      refine go h1 (fun b o hb e => ?_) tri ⟨.inr ⟨_, _, _, z1, tri, rfl, .inl rfl, fun hm => ?_⟩, kp _ _ D.TIz D.TITO D.TIi1 D.TIi2 wi, ⟨_, _, to1⟩, i11, i21⟩
      · simp only [List.mem_cons, List.not_mem_nil, or_false, not_or] at hb
        exact kp b o hb.2.2.2.2 hb.2.2.2.1 hb.1 hb.2.1 e
      · exact absurd (hfl _ hm) (Nat.lt_irrefl _)
    · refine wpAny_bind (Z3.next_item2 D hff w0 ha wi w1 w2 p1.isList p2.isList (x := u) (y := v) (by simpa using hu) (by simpa using hv) fun h1 z1 i11 i21 tri sz kp => ?_)
      simp only [List.mem_cons, List.not_mem_nil, or_false, not_or] at hnm
      refine go h1 (fun b o hb e => ?_) tri ⟨.inr ⟨a, o, _, z1, kp a o hnm.2.2.2.2 hnm.1 hnm.2.1 ha, hcl, .inr rfl, by simp only [List.mem_cons, List.not_mem_nil, or_false, not_or]; exact hnm⟩, kp _ _ D.TIz D.TIi1 D.TIi2 wi, ⟨_, _, kp _ _ D.TOz D.TOi1 D.TOi2 wo⟩, i11, i21⟩
      simp only [List.mem_cons, List.not_mem_nil, or_false, not_or] at hb
      exact kp b o hb.2.2.2.2 hb.1 hb.2.1 e
end
end L2
namespace L2
open PySem PySem.Spec PyProof.Rows
theorem lz_extend {prog : Program} {w : World} {A : Around} {s : Shared} {R : Result → Shared → Prop} {z TI TO S : Addr} {c₀ : Nat} (hz : IsZip s.heap z TI TO .none) (hSz : S ≠ z) (hS : s.heap.get? S = some { cls := .type "list", data := .seq #[] c₀ })
    (hl : codeAny (model prog w) A (.builtin "list.extend.loop" ⟨[.ref S, .ref z, .none], []⟩) R { s with heap := (s.heap.update S (Obj.mapSeq (·.push Value.none))).update S (Obj.mapSeq (·.pop)) }) :
    wpAny (model prog w) A.in1 (Builtin.List.listExtendWith (.ref S) (.ref z) .none)
      (fun fin s' => match fin with | .done f => R (.ok f) s' | .again c' => c'.quiet = true ∧ codeAny (model prog w) A c' R s') (fun e s' => R (.error e) s') s := by
  have hT : s.TypeIs (.ref z) "zip" := ⟨_, hz, rfl⟩
  unfold Builtin.List.listExtendWith
  refine wpAny_bind (wpAny_typeOf hT ?_)
  have h1 : Builtin.List.listSameRef (.ref S) (.ref z) = false := by simp [Builtin.List.listSameRef, hSz]
  have h2 : (Value.type "zip" == Value.type "list") = false := by decide
  have h3 : (Value.type "zip" == Value.type "tuple") = false := by decide
  simp only [h1, h2, h3, Bool.or_false, Bool.false_eq_true, if_false]
  refine wpAny_bind (wpAny_pyIter_zip hz ?_)
  refine wpAny_bind (wpAny_holding ?_)
  unfold Builtin.List.listLengthHint
  refine wpAny_bind (wpAny_specialOf hT Z3.zip_no_len ?_)
  show wpAny _ A.in1 (specialOf (Value.ref z) (Str.ofString "__length_hint__") >>= _) _ _ _
  refine wpAny_bind (wpAny_specialOf hT Z3.zip_no_hint ?_)
  refine wpAny_pure ?_
  show wpAny _ A.in1 (rule "list.extend.makes-room" >>= fun _ => Builtin.List.listTouch (.ref S) >>= fun _ =>
    again (.builtin "list.extend.loop" ⟨[.ref S, .ref z, .none], []⟩)) _ _ _
  refine wpAny_bind (wpAny_rule ?_)
  refine wpAny_bind ?_
  show wpAny _ A.in1 (updateSeq S (·.push .none) >>= fun _ => updateSeq S (·.pop)) _ _ _
  refine wpAny_bind (wpAny_updateSeq hS rfl ?_)
  have hS₂ := Heap.get?_update_self (Obj.mapSeq (·.push Value.none)) hS rfl
  refine wpAny_updateSeq (hz := by seq_fits) hS₂ rfl ?_
  exact wpAny_pure ⟨plainId_quiet F.plain_extend_loop _, hl⟩
theorem lz_init {prog : Program} {w : World} {A : Around} {s : Shared} {R : Result → Shared → Prop} {z TI TO S : Addr} (hz : IsZip s.heap z TI TO .none) (hSz : S ≠ z) (hS : s.heap.get? S = some { cls := .type "list", data := .seq #[] })
    (hl : codeAny (model prog w) A (.builtin "list.extend.loop" ⟨[.ref S, .ref z, .none], []⟩) R { s with heap := ((s.heap.update S (Obj.mapSeq (fun _ => (#[] : Array Value)))).update S (Obj.mapSeq (·.push Value.none))).update S (Obj.mapSeq (·.pop)) }) :
    wpAny (model prog w) A.in1 (Builtin.«list.__init__» ⟨[.ref S, .ref z], []⟩)
      (fun fin s' => match fin with | .done f => R (.ok f) s' | .again c' => c'.quiet = true ∧ codeAny (model prog w) A c' R s') (fun e s' => R (.error e) s') s := by
  show wpAny _ A.in1 (do let old ← Builtin.List.listItems (.ref S); Builtin.List.listUpdate (.ref S) (fun _ => #[]); letGo old.toList.reverse; Builtin.List.listExtendWith (.ref S) (.ref z) .none) _ _ s
  refine wpAny_bind ?_
  unfold Builtin.List.listItems
  refine wpAny_bind (wpAny_seqItems hS rfl (wpAny_pure ?_))
  show wpAny _ A.in1 (updateSeq S (fun _ => #[]) >>= fun _ => letGo (#[] : Array Value).toList.reverse >>= fun _ => Builtin.List.listExtendWith (.ref S) (.ref z) .none) _ _ s
  refine wpAny_bind (wpAny_updateSeq hS rfl ?_)
  have hS₂ := Heap.get?_update_self (Obj.mapSeq (fun _ => (#[] : Array Value))) hS rfl
  refine wpAny_bind (wpAny_letGo ?_)
  exact lz_extend ((Heap.get?_update_other _ _ hSz).trans hz) hSz hS₂ hl
section
variable {X : Cx} {pins : List (Addr × Obj)} {σ : St}
/-- list(zip(a, b)) of two lists that are as long as each other -/
theorem lz_call (hcalm : X.calm = true) {s : Shared} {H : Hp} {n l1 l2 : Addr} {xs ys : List V} {Q : VK} (I : Inv X pins σ H s) (z : Z3.At2 s.heap n l1 l2 .none 0) (hf : ∀ b ∈ [n, n + 1, n + 2, n + 3, n + 4], FpOk X pins H b) (hlen : xs.length = ys.length) (hN : xs.length ≤ 1000) (q1 : SqL X.K H l1 xs) (q2 : SqL X.K H l2 ys)
    (hQ : ∀ l ts H', Same H H' → H' l = some (.lst (ts.map V.ref)) → TupsOf H' ts (xs.zip ys) → Q (.ref l) H') : wpAny (model X.prog X.w) X.A (call (.type "list") [.ref (n + 4)]) (EP X pins σ Q) X.xe s := by
  refine callType_codes (Q₁ := fun obj s₁ => obj = .ref s.heap.objs.size ∧ s₁ = { s with heap := s.heap.push { cls := .type "list", data := .seq #[] } }) F.called_list (F.typeCall_list_1 _) F.entry_list_init
    (code_list_new _ ⟨rfl, rfl⟩) fun obj s₁ h₁ => ?_
  obtain ⟨rfl, rfl⟩ := h₁
  have hS : (s.heap.push { cls := .type "list", data := .seq #[] }).get? s.heap.objs.size = some { cls := .type "list", data := .seq #[] } := Heap.get?_push_size _ rfl
  have fr : H s.heap.objs.size = none := I.hok.fresh (Nat.le_refl _)
  have lt : n + 4 < s.heap.objs.size := Heap.lt_size z.z
  have hfl : ∀ b ∈ [n, n + 1, n + 2, n + 3, n + 4], b < s.heap.objs.size := fun b hb => by
    simp only [List.mem_cons, List.not_mem_nil, or_false] at hb
    exact in5 hb lt
  have I1 : Inv X pins σ (upd H s.heap.objs.size (.lst [])) { s with heap := s.heap.push { cls := .type "list", data := .seq ([] : List Value).toArray } } := I.lnew (its := []) (t' := s.toks) .nil (Nat.zero_le _)
  have zk1 : Zk (s.heap.push { cls := .type "list", data := .seq #[] }) n l1 l2 0 := by
    refine Zk.keep (h := s.heap) ⟨.inl z.z, z.ti, z.to, z.i1, z.i2⟩ fun b o _ e => Heap.get?_push_of_some _ e
  refine ⟨⟨_, hS, rfl⟩, F.args_list_init_2 _ _, lz_init (A := X.A.in1) (Heap.get?_push_of_some _ z.z) (Nat.ne_of_gt lt) hS ?_⟩
  obtain ⟨zz1, its1, n1, r1, hl1, e1⟩ := I1.lstM upd_same
  have I2 := I1.lset (its' := []) (ys := []) (t' := s.toks) (f := fun _ => (#[] : Array Value)) upd_same e1 rfl .nil (Nat.zero_le _)
  obtain ⟨zz2, its2, n2, r2, hl2, e2⟩ := I2.lstM upd_same
  have ei2 : its2 = [] := List.eq_nil_of_length_eq_zero hl2.symm
  subst ei2
  have I3 := I2.lset (its' := [.none]) (ys := [.non]) (t' := s.toks) (f := (·.push Value.none)) upd_same e2 rfl (.cons rfl .nil) (by show 1 ≤ sizeLine; decide)
  obtain ⟨zz3, its3, n3, r3, hl3, e3⟩ := I3.lstM upd_same
  obtain ⟨v3, rfl⟩ : ∃ v, its3 = [v] := by
    match its3, hl3 with
    | [v], _ => exact ⟨v, rfl⟩
  have I4 := I3.lset (its' := []) (ys := []) (t' := s.toks) (f := (·.pop)) upd_same e3 rfl .nil (Nat.zero_le _)
  refine lz_loop hcalm (A := X.A.in1) (H0 := H) (S := s.heap.objs.size) (I.ok.hd hcalm) hlen hN fr q1 q2 (fun s' H' ts I' sm hS' ht => ?_) _ 0 _ _ [] rfl (Nat.zero_le _) I4 ?_ ?_ ?_ upd_same .nil
  · exact ⟨rfl, .ref s.heap.objs.size, H', I', rfl, hQ _ ts H' sm hS' ht⟩
  · intro b o e
    have hb := ne_of_none e fr
    rw [upd_ne hb, upd_ne hb, upd_ne hb, upd_ne hb]; exact e
  · refine zk1.keep fun b o hb e => ?_
    have hbS : s.heap.objs.size ≠ b := fun q => by
      subst q
      rcases hb with hb | hb
      · exact absurd (hfl _ hb) (Nat.lt_irrefl _)
      · rw [hS] at e; cases e; simp at hb
    exact (Heap.get?_update_other _ _ hbS).trans ((Heap.get?_update_other _ _ hbS).trans ((Heap.get?_update_other _ _ hbS).trans e))
  · intro b hb
    have hb' := Nat.ne_of_lt (hfl b hb)
    refine ⟨?_, (hf b hb).2⟩
    rw [upd_ne hb', upd_ne hb', upd_ne hb', upd_ne hb']
    exact (hf b hb).1
def tLZ (K : PySem.W.Frag) (ta : TA) : TE := fun σ H Q => ta σ H fun vs H1 => ∃ p q xs ys, vs = [.ref p, .ref q] ∧ SqL K H1 p xs ∧ SqL K H1 q ys ∧ xs.length = ys.length ∧ xs.length ≤ 1000 ∧ ∀ l ts H', Same H1 H' → H' l = some (.lst (ts.map V.ref)) → TupsOf H' ts (xs.zip ys) → Q (.ref l) H'
theorem pe_listzip {a b : Expr} {ta : TA} {p q pos pos' : Pos} (hgl : Gl X "list") (hml : X.mg "list" = none) (hgz : Gl X "zip") (hmz : X.mg "zip" = none) (hcalm : X.calm = true) (ha : PA X [a, b] ta)
    (hs0 : starEach [Expr.Call (.Name "zip" q) [a, b] [] pos'] X.env = [(false, eval (Expr.Call (.Name "zip" q) [a, b] [] pos') X.env)] := by rfl)
    (hs : starEach [a, b] X.env = [(false, eval a X.env), (false, eval b X.env)] := by rfl)
    (hs2 : starEach [b] X.env = [(false, eval b X.env)] := by rfl) : PE X (.Call (.Name "list" p) [.Call (.Name "zip" q) [a, b] [] pos'] [] pos) (tLZ X.K ta) := by
  intro pins s σ H Q I h
  refine Call_ (ld_blt I hgl hml boot_list (PyProof.Rows.callWith_type1 ?_ (by rw [hs0]; rfl) (by rfl)))
  rw [hs0]
  show wpAny _ _ (spliced ((false, eval (Expr.Call (.Name "zip" q) [a, b] [] pos') X.env) :: [])) _ _ s
  refine Calls.spliced_cons ?_
  refine Call_ (ld_blt I hgz hmz boot_zip (PyProof.Rows.callWith_type1 (thn (ha pos' pins s σ H _ I h) fun us s1 ⟨vs, H1, I1, r1, q1⟩ => ?_) (by rw [hs, hs2]) (by rw [hs2]; rfl)))
  obtain ⟨l1, l2, xs, ys, e, q1, q2, hlen, hN, qq⟩ := q1
  subst e
  cases r1 with
  | cons r rr =>
    cases rr with
    | cons r' rr =>
      cases rr
      cases r
      cases r'
      obtain ⟨is1, _, p1, _⟩ := I1.list q1
      obtain ⟨is2, _, p2, _⟩ := I1.list q2
      refine Z3.call_zip2 p1.isList p2.isList fun h2 z2 k2 => Calls.spliced_nil ?_
      refine lz_call hcalm (I1.kept (t' := s1.toks) k2) z2 (fun b hb => ?_) hlen hN q1 q2 qq
      have hb' : s1.heap.objs.size ≤ b := by
        simp only [List.mem_cons, List.not_mem_nil, or_false] at hb
        exact ge5 hb
      exact I1.fpOk hb' (I1.hok.fresh hb')
end
end L2
namespace DQ
open PySem PySem.Spec PyProof.Rows
section
variable {prog : Program} {w : World} {K : Type} [DecidableEq K] {knd : KeyKind prog w K} {A : Around} {E : Value → Shared → Prop} {s : Shared}
theorem pairs_get : ∀ {es : List DictEntry} {kvs : List (K × Value)} {i : Nat} {kv : K × Value}, Pairs knd es kvs → kvs[i]? = some kv → ∃ en, es[i]? = some en ∧ knd.is kv.1 en.key = true ∧ en.val = kv.2
  | _, _, _, _, .nil, e => by simp at e
  | _, _, 0, _, .cons h1 h2 _, e => by simp at e; subst e; exact ⟨_, rfl, h1, h2⟩
  | _, _, i + 1, kv, .cons _ _ t, e => by
    obtain ⟨en, a, b⟩ := pairs_get (i := i) (kv := kv) t (by simpa using e)
    exact ⟨en, by simpa using a, b⟩
theorem find_at {kvs : List (K × Value)} (hn : (kvs.map (·.1)).Nodup) {i : Nat} {kv : K × Value} (e : kvs[i]? = some kv) : (kvs.findIdx? fun x => decide (x.1 = kv.1)) = some i := by
  obtain ⟨hi, rfl⟩ := List.getElem?_eq_some_iff.mp e
  rw [List.findIdx?_eq_some_iff_getElem]
  refine ⟨hi, by simp, fun j hj => ?_⟩
  simp only [decide_eq_true_eq]
  intro hh
  have := (List.getElem_inj (h₀ := by simpa using Nat.lt_trans hj hi) (h₁ := by simpa using hi) hn).mp (by simpa using hh)
  omega
theorem sp_true {a b : Addr} {vs vs' : List (K × Value)} (ha : s.heap.DictOf knd a vs) (hb : s.heap.DictOf knd b vs') (hsa : (a == sysModules) = false) (hsb : (b == sysModules) = false) (hk : vs.map (·.1) = vs'.map (·.1))
    (hv : ∀ (i : Nat) (x y : K × Value), vs[i]? = some x → vs'[i]? = some y → ∃ n t u, x.2 = Value.int n t ∧ y.2 = Value.int n u) {id : String} {Q : Bool → Shared → Prop} (h : Q true s) : wpAny (model prog w) A (Builtin.Dict.samePairs id a b) Q E s := by
  obtain ⟨o, es, ep, ho, hx, hd, hks, hp, hn⟩ := ha
  obtain ⟨o', es', ep', ho', hx', hd', hks', hp', hn'⟩ := hb
  have hl : vs.length = vs'.length := by simpa using congrArg List.length hk
  have hz : es.size = vs.length := by rw [← hp.length]; simp
  have hz' : es'.size = vs'.length := by rw [← hp'.length]; simp
  unfold Builtin.Dict.samePairs Builtin.Dict.showsAll
  rw [if_neg (by rw [hsa]; decide), if_neg (by rw [hsb]; decide)]
  refine wpAny_bind (wpAny_pure (wpAny_bind (wpAny_pure ?_)))
  refine wpAny_bind (wpAny_dictEntries ho hd ?_)
  refine wpAny_bind (wpAny_dictEntries ho' hd' ?_)
  rw [if_neg (by simp [hz, hz', hl])]
  refine wpAny_bind (wpAny_dictEpoch ho hd ?_)
  refine wpAny_bind ?_
  simp only [Std.Legacy.Range.forIn_eq_forIn_range', Std.Legacy.Range.size]
  refine wpAny_forIn_list _ (fun rest q s' => s' = s ∧ q = (none, ()) ∧ ∃ i, rest = List.range' i (es.size - i) ∧ i ≤ es.size) _ ?_ ?_ _ _ ⟨rfl, rfl, 0, by simp, Nat.zero_le _⟩
  · rintro x rest q s' ⟨rfl, rfl, i, hr, hi⟩
    have hlt : i < es.size := by
      rcases Nat.lt_or_ge i es.size with z | z
      · exact z
      · rw [Nat.sub_eq_zero_of_le z] at hr; cases hr
    have hr2 : es.size - i = (es.size - (i + 1)) + 1 := by omega
    rw [hr2, List.range'_succ] at hr
    injection hr with hxi hrest
    subst hxi
    have e1 : vs[x]? = some (vs[x]'(by omega)) := List.getElem?_eq_getElem (by omega)
    have e2 : vs'[x]? = some (vs'[x]'(by omega)) := List.getElem?_eq_getElem (by omega)
    generalize vs[x]'(by omega) = kv at e1
    generalize vs'[x]'(by omega) = kv' at e2
    obtain ⟨en, g1, g2, g3⟩ := pairs_get hp e1
    obtain ⟨en', g1', g2', g3'⟩ := pairs_get hp' e2
    have hkk : kv.1 = kv'.1 := by
      have := congrArg (fun l => l[x]?) hk
      simp only [List.getElem?_map, e1, e2, Option.map_some, Option.some.injEq] at this
      exact this
    obtain ⟨n, t, u, hn1, hn2⟩ := hv x kv kv' e1 e2
    have g1a : es[x]? = some en := by rw [← Array.getElem?_toList]; exact g1
    have g1b : es'[x]? = some en' := by rw [← Array.getElem?_toList]; exact g1'
    obtain ⟨k0, hk0, hh0⟩ := hks en (Array.mem_of_getElem? g1a)
    have hk0' : k0 = kv.1 := knd.inj _ _ _ hk0 g2
    subst hk0'
    refine wpAny_bind (wpAny_dictEntries ho hd ?_)
    rw [g1a]
    refine wpAny_bind (wpAny_holding ?_)
    rw [hh0]
    refine wpAny_bind (wpAny_dictFind_of g2 ho' hd' hks' ?_)
    have hfi : (es'.findIdx? fun e => knd.is kv.1 e.key) = some x := by
      have h1 := hp'.findIdx kv.1
      rw [hkk, find_at hn' e2] at h1
      rw [hkk]
      have hh : es'.toList.toArray.findIdx? (fun e => knd.is kv'.1 e.key) = es'.toList.findIdx? (fun e => knd.is kv'.1 e.key) := by rw [List.findIdx?_toArray]
      rw [show es'.toList.toArray = es' by simp] at hh
      exact hh.trans h1
    rw [hfi]
    refine wpAny_bind (wpAny_dictEntries ho' hd' ?_)
    rw [g1b]
    refine wpAny_holding ?_
    rw [g3, g3', hn1, hn2]
    refine wpAny_eqBool_int ?_
    simp only [beq_self_eq_true, Bool.not_true, Bool.false_eq_true, if_false]
    refine wpAny_bind (wpAny_dictEpoch ho hd ?_)
    simp only [bne_self_eq_false, Bool.false_eq_true, if_false]
    exact wpAny_pure ⟨rfl, rfl, x + 1, hrest, hlt⟩
  · rintro q s' ⟨rfl, rfl, _⟩
    exact wpAny_pure h
theorem sub_dict : isSubtype (.type "dict") (.type "dict") = pure true := by rw [isSubtype_type]; kernel_rfl
theorem dict_eq {a b : Addr} {vs vs' : List (K × Value)} (ha : s.heap.DictOf knd a vs) (hb : s.heap.DictOf knd b vs') (hsa : (a == sysModules) = false) (hsb : (b == sysModules) = false) (hk : vs.map (·.1) = vs'.map (·.1))
    (hv : ∀ (i : Nat) (x y : K × Value), vs[i]? = some x → vs'[i]? = some y → ∃ n t u, x.2 = Value.int n t ∧ y.2 = Value.int n u) (hu : A.units < cLine) {Q : Bool → Shared → Prop} (h : Q true s) : wpAny (model prog w) A (eqBool (.ref a) (.ref b)) Q E s := by
  unfold eqBool
  refine wpAny_holding ?_
  by_cases e : (Value.ref a == Value.ref b) = true
  · rw [if_pos e]
    exact wpAny_bind (wpAny_rule (wpAny_pure h))
  · rw [if_neg e]
    show wpAny _ _ (richCompare .Eq (.ref a) (.ref b) >>= truthOfDropped) _ _ _
    refine wpAny_bind (wpAny_richCompare_same_room ha.typeIs hb.typeIs F.slot_dict_eq (wpAny_call_entry F.slot_dict_eq ha.typeIs F.entry_dict_eq ?_ (F.args_dict_eq_2 _ _)) hu)
    show wpAny _ _ (isInstance (.ref b) (.type "dict") >>= _) _ _ _
    refine wpAny_bind (wpAny_isInstance (T := "dict") (b := true) hb.typeIs sub_dict ?_)
    show wpAny _ _ (Builtin.Dict.samePairs _ a b >>= _) _ _ _
    refine wpAny_bind (sp_true ha hb hsa hsb hk hv ?_)
    refine wpAny_pure ⟨.bool true, rfl, nofun, ?_⟩
    exact wpAny_truthy_bool h
end
end DQ
namespace DQ
open PySem PyProof.Rows
open PySem.SeqAt
open PySem.AutoSeq1 (wpAny_loadPart')
open PySem.MeetsSeq PySem.MeetsSeq2 PySem.MeetsSeq3 PySem.SeqRoads2
section
variable {prog : Program} {w : World} {A : Around} {E : Value → Shared → Prop} {s : Shared}
theorem ne_loop {R : Result → Shared → Prop} {l b : Addr} {items items2 : Array Value} {n n2 : Nat} {dd dd2 : Option Addr} {sl sl2 : Array (Option Value)} (hsz : items.size = items2.size)
    (hl : s.heap.get? l = some { cls := .type "list", dict := dd, data := .seq items n, slots := sl }) (hb : s.heap.get? b = some { cls := .type "list", dict := dd2, data := .seq items2 n2, slots := sl2 })
    (he : ∀ j (h1 : j < items.size) (h2 : j < items2.size) (E' : Value → Shared → Prop) (Q : Bool → Shared → Prop), Q true s → wpAny (model prog w) A.in1 (eqBool items[j] items2[j]) Q E' s) (h : R (.ok (.ret (.bool false))) s) (k : Nat) :
    ∀ i : Nat, items.size - i = k → wpAny (model prog w) A.in1 (Builtin.«list.__eq__.loop» ⟨[.ref l, .ref b, rawInt i, rawInt 3], []⟩)
      (fun fin s' => match fin with | .done f => R (.ok f) s' | .again c' => c'.quiet = true ∧ codeAny (model prog w) A c' R s') (fun e s' => R (.error e) s') s := by
  obtain ⟨hp, g, d, tk, os⟩ := s
  induction k with
  | zero =>
    intro i hk
    wp_walk using wpAny_loadPart' hl, wpAny_loadPart' hb
    have hi1 : items[((i : Nat) : Int).toNat]? = none := by simp; omega
    have hi2 : items2[((i : Nat) : Int).toNat]? = none := by simp; omega
    rw [hi1, hi2]
    wp_walk using wpAny_loadPart' hl, wpAny_loadPart' hb
    show R (.ok (.ret (.bool (items.size != items2.size)))) _
    rw [hsz, bne_self_eq_false]
    exact h
  | succ k ih =>
    intro i hk
    wp_walk using wpAny_loadPart' hl, wpAny_loadPart' hb
    have hlt : i < items.size := by omega
    have hlt2 : i < items2.size := by omega
    have hi1 : items[((i : Nat) : Int).toNat]? = some items[i] := by simp [hlt]
    have hi2 : items2[((i : Nat) : Int).toNat]? = some items2[i] := by simp [hlt2]
    have hc : ((i : Int) + 1) = ((i + 1 : Nat) : Int) := by push_cast; rfl
    rw [hi1, hi2]
    refine wpAny_bind (he i hlt hlt2 _ _ ?_)
    wp_walk
    rw [hc]
    exact ⟨plainId_quiet plain_eq_loop _, codeAny_builtin entry_eq_loop (by
      rw [Around.under_plainId plain_eq_loop _]
      exact ih (i + 1) (by omega))⟩
theorem list_ne {l b : Addr} {items items2 : Array Value} {Q : Value → Shared → Prop} (hl : s.heap.IsList l items) (hb : s.heap.IsList b items2) (hsz : items.size = items2.size) (hu : A.units < cLine)
    (he : ∀ j (h1 : j < items.size) (h2 : j < items2.size) (E' : Value → Shared → Prop) (Q : Bool → Shared → Prop), Q true s → wpAny (model prog w) A.in1 (eqBool items[j] items2[j]) Q E' s) (h : Q (.bool false) s) :
    wpAny (model prog w) A (compareOp .NotEq (.ref l) (.ref b)) Q E s := by
  obtain ⟨⟨cls, dd, data, sl⟩, ho, hc, n, hd⟩ := id hl
  obtain ⟨⟨cls2, dd2, data2, sl2⟩, ho2, hc2, n2, hd2⟩ := id hb
  simp only at hc hd hc2 hd2
  subst hc hd hc2 hd2
  refine wpAny_richCompare_same_room (op := .NotEq) (T := "list") ⟨_, ho, rfl⟩ ⟨_, ho2, rfl⟩ F.slot_list_ne ?_ hu
  refine wpAny_call (codeAny_call_builtin F.slot_list_ne.plain F.entry_list_ne (F.slot_list_ne.check _ _ _ _ _ _ _ _ ⟨_, ho, rfl⟩ (F.args_list_ne_2 _ _) ?_))
  have f3 := AutoSeq1.sub_list_list
  have hne : ¬ (items.size != items2.size) = true := by simp [hsz]
  have lp := ne_loop (A := A) (R := wants (fun v s' => v ≠ .notImplemented ∧ Q v s') E) hsz ho ho2 he ⟨nofun, h⟩ items.size 0 (Nat.sub_zero _)
  obtain ⟨hp, g, d, tk, os⟩ := s
  wp_walk using wpAny_loadPart' ho, wpAny_loadPart' ho2
  exact ⟨plainId_quiet plain_eq_loop _, codeAny_builtin entry_eq_loop (by
    rw [Around.under_plainId plain_eq_loop _]
    exact lp)⟩
end
end DQ
namespace L2
open PySem PySem.Spec PyProof.Rows
def AllInt (kvs : List (Key × V)) : Prop := ∀ p ∈ kvs, ∃ i : Int, p.2 = V.int i
theorem kv_ints : ∀ {kvs : List (Key × V)} {vs vs' : List (Key × Value)}, AllInt kvs → KV kvs vs → KV kvs vs' → ∀ (i : Nat) (x y : Key × Value), vs[i]? = some x → vs'[i]? = some y → ∃ n t u, x.2 = Value.int n t ∧ y.2 = Value.int n u
  | [], _, _, _, .nil, _, _, _, _, e, _ => by simp at e
  | p :: kvs, _, _, ha, .cons r t, .cons r' t', 0, x, y, e, e' => by
    simp at e e'
    subst e e'
    obtain ⟨n, hn⟩ := ha p (.head _)
    have r1 := r.2
    have r2 := r'.2
    rw [hn] at r1 r2
    obtain ⟨t1, h1⟩ := r1
    obtain ⟨t2, h2⟩ := r2
    exact ⟨n, t1, t2, h1, h2⟩
  | p :: kvs, _, _, ha, .cons r t, .cons r' t', i + 1, x, y, e, e' => kv_ints (fun q hq => ha q (.tail _ hq)) t t' i x y (by simpa using e) (by simpa using e')
section
variable {X : Cx}
/-- [d, e] != [f, g]: dicts of ints, alike two by two -/
def rNeDs : R2 := fun x y H Q => ∃ (l b a1 a2 b1 b2 : Addr) (k1 k2 : List (Key × V)), x = .ref l ∧ y = .ref b ∧ H l = some (.lst [.ref a1, .ref a2]) ∧ H b = some (.lst [.ref b1, .ref b2]) ∧ H a1 = some (.dK k1) ∧ H b1 = some (.dK k1) ∧ H a2 = some (.dK k2) ∧ H b2 = some (.dK k2) ∧ AllInt k1 ∧ AllInt k2 ∧ Q (.bl false) H
theorem op_neDs (hu : X.A.units + 1 < cLine) : OpR X (compareOp .NotEq) rNeDs := by
  intro pins s σ H x y v u Q I rx ry h
  obtain ⟨l, b, a1, a2, b1, b2, k1, k2, rfl, rfl, hl, hb, ha1, hb1, ha2, hb2, i1, i2, q⟩ := h
  cases rx
  cases ry
  obtain ⟨its, n, r, e, _⟩ := I.lst hl
  obtain ⟨its', n', r', e', _⟩ := I.lst hb
  obtain ⟨u1, u2, rfl, ru1, ru2⟩ := vals2 r
  obtain ⟨w1, w2, rfl, rw1, rw2⟩ := vals2 r'
  cases ru1
  cases ru2
  cases rw1
  cases rw2
  obtain ⟨_, m1, vs1, kv1, d1⟩ := dk_of I.hok ha1
  obtain ⟨_, m2, vs2, kv2, d2⟩ := dk_of I.hok ha2
  obtain ⟨_, m3, vs3, kv3, d3⟩ := dk_of I.hok hb1
  obtain ⟨_, m4, vs4, kv4, d4⟩ := dk_of I.hok hb2
  have hu1 : X.A.units < cLine := Nat.lt_of_succ_lt hu
  have hu2 : X.A.in1.units < cLine := by first | exact hu1 | exact hu | (show X.A.units + 1 < cLine; exact hu)
  refine DQ.list_ne (items := #[.ref a1, .ref a2]) (items2 := #[.ref b1, .ref b2]) ⟨_, e, rfl, _, rfl⟩ ⟨_, e', rfl, _, rfl⟩ rfl hu1 ?_ ⟨.bl false, H, I, rfl, q⟩
  intro j h1 h2 E' Q' hq
  match j, h1 with
  | 0, _ => exact DQ.dict_eq (A := X.A.in1) d1 d3 m1 m3 (kv1.keys.symm.trans kv3.keys) (kv_ints i1 kv1 kv3) hu2 hq
  | 1, _ => exact DQ.dict_eq (A := X.A.in1) d2 d4 m2 m4 (kv2.keys.symm.trans kv4.keys) (kv_ints i2 kv2 kv4) hu2 hq
end
end L2
namespace VK
open PySem PySem.Spec PyProof.Rows L2
def top (i : Nat) : Stmt := PySem.Challenge.pw_viewkeep_k10_widths_and_sizes.main.body.getD i (.Pass ⟨0, 0, 0, 0⟩)
theorem b_len : bootBuiltins "len" = some (.builtin "len") := by decide +kernel
theorem b_isinstance : bootBuiltins "isinstance" = some (.builtin "isinstance") := by decide +kernel
theorem b_all : bootBuiltins "all" = some (.builtin "all") := by decide +kernel
theorem b_tuple : bootBuiltins "tuple" = some (.type "tuple") := by decide +kernel
theorem b_list : bootBuiltins "list" = some (.type "list") := by decide +kernel
theorem b_int : bootBuiltins "int" = some (.type "int") := by decide +kernel
theorem b_bool : bootBuiltins "bool" = some (.type "bool") := by decide +kernel
theorem b_dict : bootBuiltins "dict" = some (.type "dict") := by decide +kernel
theorem k_int_int {K : PySem.W.Frag} : PySem.W.kitOne K (.type "int") (.type "int") = some true := kt (by decide +kernel)
theorem k_int_bool {K : PySem.W.Frag} : PySem.W.kitOne K (.type "int") (.type "bool") = some false := kt (by decide +kernel)
theorem k_tuple_tuple {K : PySem.W.Frag} : PySem.W.kitOne K (.type "tuple") (.type "tuple") = some true := kt (by decide +kernel)
/-- a def of the text as it stands behind the top -/
structure Fn (K : PySem.W.Frag) (mg : Str → Option Value) (x : Str) (st : Stmt) (ps : List Str) (f : Addr) (fd : FuncData) : Prop where
  F : Fun K x x st f fd
  b : Binds K fd ps []
  m : mg x = some (.ref f)
/-- names of the language that the text has not bound -/
structure Txt (mg : Str → Option Value) : Prop where
  len : mg "len" = none
  range : mg "range" = none
  tuple : mg "tuple" = none
  isinstance : mg "isinstance" = none
  int : mg "int" = none
  bool : mg "bool" = none
  max : mg "max" = none
  min : mg "min" = none
  zip : mg "zip" = none
  all : mg "all" = none
  list : mg "list" = none
  str : mg "str" = none
  sum : mg "sum" = none
  dict : mg "dict" = none
theorem c10 {a b : Int} (h1 : 0 ≤ b) (h2 : b ≤ 1000000) (h3 : a.natAbs < 2 ^ 64) : CPow a b := ⟨h1, h2, h3⟩
section
variable {P : Program} {w : World} {K : PySem.W.Frag} {mg : Str → Option Value} {base : Heap}
abbrev sCellAt : Stmt := top 32
abbrev psCellAt : List Str := ["_law_script", "_law_k"]
def spCellAt (K : PySem.W.Frag) : Sp := fun vs H Q _ => ∃ (a : Addr) (ns : List Int) (k : Nat), vs = [.ref a, .int k] ∧ SqL K H a (ns.map V.int) ∧ Q (.int (ns.getD k 0)) H
theorem scCellAt : FnScope psCellAt psCellAt (defScope sCellAt) := ⟨rfl, rfl, rfl, by decide +kernel, rfl, by decide +kernel, by decide +kernel⟩
theorem okCellAt {f : Addr} {fd : FuncData} (D : Fn K mg "_law_cell_at" sCellAt psCellAt f fd) (T : Txt mg) : FnOk P w K mg base CX0 1 f fd psCellAt (spCellAt K) := by
  refine D.F.ok scCellAt (fun vs H Q E h => ?_) (fun cdv A outer s H vs Q E hr h => ?_)
  · obtain ⟨a, ns, k, rfl, _⟩ := h
    rfl
  · obtain ⟨a, ns, k, rfl, hS, q⟩ := h
    refine ⟨_, pss_cons (ps_if (pt_cmpR op_lt (pv 1) (pe_callB call_len_seq (by rfl) T.len b_len (pa_cons (pv 0) pa_nil)) (nomark _)) (pss_one (ps_ret (pe_ix ix_list (pv 0) (pv 1) (fun _ _ => rfl)))) pss_nil) (pss_one (ps_ret pe_int)), ?_⟩
    refine ⟨_, rfl, _, rfl, a, _, rfl, .inl hS, _, _, rfl, rfl, _, rfl, ?_⟩
    refine ite2 (fun h => ?_) (fun h => ?_)
    · have hk : k < ns.length := by
        have h' := of_decide_eq_true h
        rw [List.length_map] at h'
        omega
      refine ⟨_, rfl, _, rfl, a, _, _, V.int (ns.getD k 0), rfl, rfl, hS, atI_nat ?_, q⟩
      rw [List.getElem?_map, List.getD_eq_getElem?_getD, List.getElem?_eq_getElem hk]
      rfl
    · have hk : ¬ k < ns.length := fun z => h (decide_eq_true (by rw [List.length_map]; omega))
      have e : ns.getD k 0 = 0 := by
        rw [List.getD_eq_getElem?_getD, List.getElem?_eq_none (by omega)]
        rfl
      rw [e] at q
      exact q
def rLen (K : PySem.W.Frag) : List V → Hp → VK → Prop := fun xs H Q => ∃ p ys, xs = [.ref p] ∧ (SqL K H p ys ∨ SqT K H p ys) ∧ Q (.int ys.length) H
def rTup (K : PySem.W.Frag) : List V → Hp → VK → Prop := fun xs H Q => ∃ p ys, xs = [.ref p] ∧ ((SqL K H p ys ∧ ∀ l, H l = none → Q (.ref l) (upd H l (.tup ys))) ∨ (SqT K H p ys ∧ Q (.ref p) H))
def rLst (K : PySem.W.Frag) : List V → Hp → VK → Prop := fun xs H Q => ∃ p ys, xs = [.ref p] ∧ (SqL K H p ys ∨ SqT K H p ys) ∧ ∀ l, H l = none → Q (.ref l) (upd H l (.lst ys))
def rSum (K : PySem.W.Frag) : List V → Hp → VK → Prop := fun xs H Q => ∃ (a : Addr) (ns : List Int), xs = [.ref a] ∧ SqL K H a (ns.map V.int) ∧ Q (.int ns.sum) H
theorem ixT (K : PySem.W.Frag) {X : Cx} (h : X.K = K := by rfl) : IxR X (rIxT K) := h ▸ ix_tup
theorem ixL (K : PySem.W.Frag) {X : Cx} (h : X.K = K := by rfl) : IxR X (rIxL K) := h ▸ ix_list
theorem lenK (K : PySem.W.Frag) {X : Cx} (h : X.K = K := by rfl) : CallR X (.builtin "len") (rLen K) := h ▸ call_len_seq
theorem tupK (K : PySem.W.Frag) {X : Cx} (h : X.K = K := by rfl) : CallR X (.type "tuple") (rTup K) := h ▸ call_tuple_of
theorem lstK (K : PySem.W.Frag) {X : Cx} (h : X.K = K := by rfl) : CallR X (.type "list") (rLst K) := h ▸ call_list_of
theorem sumK (K : PySem.W.Frag) {X : Cx} (c : X.calm = true) (h : X.K = K := by rfl) : CallR X (.builtin "sum") (rSum K) := h ▸ call_sum c
theorem inK (K : PySem.W.Frag) {X : Cx} (h : X.K = K := by rfl) : OpR X (compareOp .In) (rIn K false) := h ▸ op_in_seq
theorem wT {K : PySem.W.Frag} {n : Nat} {i : Int} {t : Addr} {xs : List V} {v : V} {σ : L2.St} {H : Hp} {Q : VK} (hσ : σ[n]? = some (some (.ref t))) (h : SqT K H t xs) (ha : atI xs i = some v) (q : Q v H) : tOp (rIxT K) (tVar n) (tC (.int i)) σ H Q := ⟨_, hσ, t, xs, i, v, rfl, rfl, h, ha, q⟩
theorem wL {K : PySem.W.Frag} {n : Nat} {i : Int} {t : Addr} {xs : List V} {v : V} {σ : L2.St} {H : Hp} {Q : VK} (hσ : σ[n]? = some (some (.ref t))) (h : SqL K H t xs) (ha : atI xs i = some v) (q : Q v H) : tOp (rIxL K) (tVar n) (tC (.int i)) σ H Q := ⟨_, hσ, t, xs, i, v, rfl, rfl, h, ha, q⟩
theorem wV {n : Nat} {v : V} {σ : L2.St} {H : Hp} {Q : VK} (h : σ[n]? = some (some v)) (q : Q v H) : tVar n σ H Q := ⟨v, h, q⟩
theorem wI {f : Int → Int → V} {i j : Int} {H : Hp} {Q : VK} (q : Q (f i j) H) : rI0 f (.int i) (.int j) H Q := ⟨i, j, rfl, rfl, q⟩
theorem wIc {f : Int → Int → V} {i j : Int} {σ : L2.St} {H : Hp} {Q : VK} (q : Q (f i j) H) : tC (.int j) σ H (fun y H2 => rI0 f (.int i) y H2 Q) := ⟨i, j, rfl, rfl, q⟩
theorem wC {C : Int → Int → Prop} {f : Int → Int → V} {i j : Int} {H : Hp} {Q : VK} (c : C i j) (q : Q (f i j) H) : rI C f (.int i) (.int j) H Q := ⟨i, j, rfl, rfl, c, q⟩
theorem wCc {C : Int → Int → Prop} {f : Int → Int → V} {i j : Int} {σ : L2.St} {H : Hp} {Q : VK} (c : C i j) (q : Q (f i j) H) : tC (.int j) σ H (fun y H2 => rI C f (.int i) y H2 Q) := ⟨i, j, rfl, rfl, c, q⟩
theorem iP {c : Bool} {A B : Prop} (h : c = true) (a : A) : if c = true then A else B := by rw [if_pos h]; exact a
theorem iQ {c : Bool} {A B : Prop} (h : c = false) (b : B) : if c = true then A else B := by rw [if_neg (by rw [h]; decide)]; exact b
theorem wN {n : Nat} {a b : Str} {t rest : TS} {D : Ends} {σ : L2.St} {H : Hp} (hσ : σ[n]? = some (some (.str a))) (hne : decide (V.str a = V.str b) = false) (h : rest D σ H) : tSeq (tIfS (tTest (tOp rEq (tVar n) (tC (.str b)))) t tNext) rest D σ H := ⟨_, hσ, rfl, _, rfl, iQ hne h⟩
theorem wY {n : Nat} {a b : Str} {t rest : TS} {D : Ends} {σ : L2.St} {H : Hp} (hσ : σ[n]? = some (some (.str a))) (he : decide (V.str a = V.str b) = true) (h : t { D with nx := rest D } σ H) : tSeq (tIfS (tTest (tOp rEq (tVar n) (tC (.str b)))) t tNext) rest D σ H := ⟨_, hσ, rfl, _, rfl, iP he h⟩
theorem wInN {K : PySem.W.Frag} {n : Nat} {a : Addr} {x : V} {xs : List V} {t rest : TS} {D : Ends} {σ : L2.St} {H : Hp} (hσ : σ[n]? = some (some x)) (hs : SqL K H a xs ∨ SqT K H a xs) (fx : flatV x = true) (fs : xs.all flatV = true) (hc : inV x xs = false) (h : rest D σ H) : tSeq (tIfS (tTest (tOp (rIn K false) (tVar n) (tC (.ref a)))) t tNext) rest D σ H := ⟨_, hσ, a, xs, rfl, hs, fx, fs, _, rfl, iQ (c := inV x xs) hc h⟩
theorem wInY {K : PySem.W.Frag} {n : Nat} {a : Addr} {x : V} {xs : List V} {t rest : TS} {D : Ends} {σ : L2.St} {H : Hp} (hσ : σ[n]? = some (some x)) (hs : SqL K H a xs ∨ SqT K H a xs) (fx : flatV x = true) (fs : xs.all flatV = true) (hc : inV x xs = true) (h : t { D with nx := rest D } σ H) : tSeq (tIfS (tTest (tOp (rIn K false) (tVar n) (tC (.ref a)))) t tNext) rest D σ H := ⟨_, hσ, a, xs, rfl, hs, fx, fs, _, rfl, iP (c := inV x xs) hc h⟩
theorem b_isinst_str : bootBuiltins "str" = some (.type "str") := by decide +kernel
theorem b_sum : bootBuiltins "sum" = some (.builtin "sum") := by decide +kernel
theorem k_int_tuple {K : PySem.W.Frag} : PySem.W.kitOne K (.type "int") (.type "tuple") = some false := kt (by decide +kernel)
theorem iteN {c A B : Prop} [Decidable c] (hc : ¬ c) (h : B) : if decide c = true then A else B := by
  rw [if_neg (by simpa using hc)]; exact h
theorem iteY {c A B : Prop} [Decidable c] (hc : c) (h : A) : if decide c = true then A else B := by
  rw [if_pos (by simpa using hc)]; exact h
/-- what a filtered comprehension's walk over a tuple comes to -/
theorem compF_tup {K : PySem.W.Frag} {a l : Addr} {xs : List V} {g : TG} {tt : TT} {te : TE} {σ0 : L2.St} {H0 : Hp} {Q : Hp → Prop} (Pv : Nat → L2.St → Hp → Prop) (h0 : Pv 0 σ0 H0) (hl : ∀ i σ H, i ≤ xs.length → Pv i σ H → SqT K H a xs)
    (hs : ∀ i x σ H, xs[i]? = some x → Pv i σ H → g x σ H fun σ3 H3 => tt σ3 H3 fun b H5 => if b = true then te σ3 H5 fun y H4 => ∃ ys, H4 l = some (.lst ys) ∧ ys.length < sizeLine ∧ Pv (i + 1) σ3 (upd H4 l (.lst (ys ++ [y]))) else Pv (i + 1) σ3 H5) (hd : ∀ σ H, Pv xs.length σ H → Q H) :
    ∃ W : Nat → Nat → L2.St → Hp → Prop, (∃ m, W 0 m σ0 H0) ∧ ∀ i m σ' H', W i m σ' H' →
    ((Itt K a).stop i H' ∧ Q H') ∨ ((Itt K a).go i H' ∧ ∃ N : L2.St → Hp → Prop, (∀ σ2 H2, N σ2 H2 → ∃ m', m' < m ∧ W (i + 1) m' σ2 H2) ∧
      ∀ x H2, (Itt K a).yld i H' x H2 → g x σ' H2 fun σ3 H3 => tt σ3 H3 fun b H5 => if b = true then te σ3 H5 fun y H4 => ∃ ys, H4 l = some (.lst ys) ∧ ys.length < sizeLine ∧ N σ3 (upd H4 l (.lst (ys ++ [y]))) else N σ3 H5) := by
  refine ⟨fun i m σ H => m = xs.length - i ∧ i ≤ xs.length ∧ Pv i σ H, ⟨xs.length, by simp, Nat.zero_le _, h0⟩, ?_⟩
  rintro i m σ H ⟨rfl, hi, p⟩
  have q := hl i σ H hi p
  by_cases hlt : i < xs.length
  · refine .inr ⟨⟨xs, xs[i], q, List.getElem?_eq_getElem hlt⟩, Pv (i + 1), fun σ' H' p' => ⟨xs.length - (i + 1), by omega, rfl, hlt, p'⟩, ?_⟩
    rintro x _ ⟨rfl, hx⟩
    exact hs i x σ _ (hx xs q) p
  · have e : i = xs.length := by omega
    subst e
    exact .inl ⟨⟨xs, q, Nat.le_refl _⟩, hd σ H p⟩
theorem comp_lst {K : PySem.W.Frag} {a l : Addr} {xs : List V} {g : TG} {te : TE} {σ0 : L2.St} {H0 : Hp} {Q : Hp → Prop} (Pv : Nat → L2.St → Hp → Prop) (h0 : Pv 0 σ0 H0) (hl : ∀ i σ H, i ≤ xs.length → Pv i σ H → SqL K H a xs)
    (hs : ∀ i x σ H, xs[i]? = some x → Pv i σ H → g x σ H fun σ3 H3 => te σ3 H3 fun y H4 => ∃ ys, H4 l = some (.lst ys) ∧ ys.length < sizeLine ∧ Pv (i + 1) σ3 (upd H4 l (.lst (ys ++ [y])))) (hd : ∀ σ H, Pv xs.length σ H → Q H) :
    ∃ W : Nat → Nat → L2.St → Hp → Prop, (∃ m, W 0 m σ0 H0) ∧ ∀ i m σ' H', W i m σ' H' →
    ((Itl K a).stop i H' ∧ Q H') ∨ ((Itl K a).go i H' ∧ ∃ N : L2.St → Hp → Prop, (∀ σ2 H2, N σ2 H2 → ∃ m', m' < m ∧ W (i + 1) m' σ2 H2) ∧
      ∀ x H2, (Itl K a).yld i H' x H2 → g x σ' H2 fun σ3 H3 => te σ3 H3 fun y H4 => ∃ ys, H4 l = some (.lst ys) ∧ ys.length < sizeLine ∧ N σ3 (upd H4 l (.lst (ys ++ [y])))) :=
  comp_by (n := xs.length) Pv h0 (fun i σ H hi p => ⟨xs, xs[i], hl i σ H (Nat.le_of_lt hi) p, List.getElem?_eq_getElem hi⟩) (fun σ H p => ⟨xs, hl _ σ H (Nat.le_refl _) p, Nat.le_refl _⟩) (fun i σ H x H' hi p ⟨e, hx⟩ => by subst e; exact hs i x σ _ (hx xs (hl i σ _ (Nat.le_of_lt hi) p)) p) hd
def rIsi (K : PySem.W.Frag) : List V → Hp → VK → Prop := fun xs H Q => ∃ (x : V) (T U : String) (b : Bool), xs = [x, .ty T] ∧ TyOf K H x (.type U) ∧ PySem.W.kitOne K (.type U) (.type T) = some b ∧ Q (.bl b) H
theorem call_isi {X : Cx} : CallR X (.builtin "isinstance") (rIsi X.K) := call_isinst
def isR : V → Bool
  | .ref _ => true
  | _ => false
abbrev PS' := List Int × Int
def flat (q : List PS') : List Int := (q.map (·.1)).flatten
def tot (q : List PS') : Int := (q.map (·.2)).sum
/-- the parts of a tree -/
def Parts (R : V → List Int → Int → Prop) (xs : List V) (q : List PS') : Prop := (∀ v ∈ xs, isR v = true ∨ ∃ i, v = .int i) ∧ Paired (fun v z => R v z.1 z.2) (xs.filter isR) q
def Tr : Nat → Hp → V → List Int → Int → Prop
  | 0, _, _, _, _ => False
  | n + 1, H, v, ps, s => ∃ t w xs, v = .ref t ∧ H t = some (.tup (.str w :: xs)) ∧ xs.length ≤ 12 ∧ ∃ q, Parts (Tr n H) xs q ∧ s = 1 + tot q ∧ ((w = "at" ∧ ∃ p, xs = [.int p] ∧ ps = [p]) ∨ (w ≠ "at" ∧ ps = flat q))
theorem Parts.imp {R R' : V → List Int → Int → Prop} (f : ∀ v p s, R v p s → R' v p s) {xs : List V} {q : List PS'} (h : Parts R xs q) : Parts R' xs q := ⟨h.1, Paired.mapP h.2 fun _ _ z => f _ _ _ z⟩
theorem Tr.same {H H' : Hp} (e : Same H H') : ∀ {n : Nat} {v : V} {ps : List Int} {s : Int}, Tr n H v ps s → Tr n H' v ps s
  | 0, _, _, _, h => h
  | n + 1, v, ps, s, h => by
    obtain ⟨t, w, xs, h1, h2, h3, q, h4, h5⟩ := h
    exact ⟨t, w, xs, h1, e _ _ h2, h3, q, h4.imp fun _ _ _ z => Tr.same e z, h5⟩
theorem Tr.isTup {H : Hp} : ∀ {n : Nat} {v : V} {ps : List Int} {s : Int}, Tr n H v ps s → ∃ t xs, v = .ref t ∧ H t = some (.tup xs)
  | n + 1, v, ps, s, h => by
    obtain ⟨t, w, xs, h1, h2, _⟩ := h
    exact ⟨t, _, h1, h2⟩
theorem Parts.tups {H : Hp} {n : Nat} {xs : List V} {q : List PS'} (h : Parts (Tr n H) xs q) : ∀ v ∈ xs, (∃ i, v = .int i) ∨ ∃ u zs, v = .ref u ∧ H u = some (.tup zs) := fun v hv => by
  rcases h.1 v hv with z | z
  · right
    have hm : v ∈ xs.filter isR := List.mem_filter.mpr ⟨hv, z⟩
    clear z hv
    obtain ⟨_, hp⟩ := h
    generalize xs.filter isR = ys at hm hp
    induction hp with
    | nil => cases hm
    | cons r _ ih =>
      rcases List.mem_cons.mp hm with rfl | hm
      · exact r.isTup
      · exact ih hm
  · exact .inl z
theorem cut1 {x : V} {xs : List V} : cutV (x :: xs) (some 1) none = xs := by
  unfold cutV HT.sIx
  simp
theorem filt_take {xs : List V} {i : Nat} {x : V} (e : xs[i]? = some x) : (xs.take (i + 1)).filter isR = (xs.take i).filter isR ++ (if isR x then [x] else []) := take_succ_filter isR xs i x e
abbrev sWithin : Stmt := top 8
abbrev psWithin : List Str := ["expression"]
def spWithin : Sp := fun vs H Q _ => ∃ (t : Addr) (x0 : V) (xs : List V), vs = [.ref t] ∧ H t = some (.tup (x0 :: xs)) ∧ xs.length ≤ 12 ∧ (∀ v ∈ xs, (∃ i, v = .int i) ∨ ∃ u zs, v = .ref u ∧ H u = some (.tup zs)) ∧ ∀ l H', Same H H' → H l = none → H' l = some (.lst (xs.filter isR)) → Q (.ref l) H'
theorem scWithin : FnScope psWithin psWithin (defScope sWithin) := ⟨rfl, rfl, rfl, by decide +kernel, rfl, by decide +kernel, by decide +kernel⟩
theorem okWithin {f : Addr} {fd : FuncData} (D : Fn K mg "within" sWithin psWithin f fd) (X : Txt mg) : FnOk P w K mg base CX0 1 f fd psWithin spWithin := by
  refine D.F.ok scWithin (fun vs H Q E h => ?_) (fun cdv A outer s H vs Q E hr h => ?_)
  · obtain ⟨_, _, _, rfl, _⟩ := h
    rfl
  · obtain ⟨t, x0, xs, rfl, ht, hz, hx, q⟩ := h
    refine ⟨_, (@pss_one _ _ _ (@ps_ret _ _ _ _ (@pe_compF _ _ _ _ _ _ _ _ _ (tVar 0) (tB (tCB (rIsi K) (tCons (tVar 0) (tCons (tC (V.ty "tuple")) tNil)))) (["part"]) ([]) (defScope sWithin) (psWithin) rfl rfl ⟨rfl, by decide +kernel, by decide +kernel, by decide +kernel, by decide +kernel⟩ rfl (@pi_tup _ _ _ _ (@pe_slice _ _ _ _ _ _ _ _ _ _ sl_tupH (pv 0) (@po_some _ _ _ pe_int) po_none)) (fun s H fp => pg_name (i := 0) (show (["part"] : List Str).Nodup by decide +kernel) rfl (Or.inl rfl) (Or.inr rfl)) (fun s H fp => pv 0) (fun s H fp => pt_val (@pe_callB _ _ _ _ _ _ _ _ (rIsi K) call_isi (by rfl) X.isinstance b_isinstance (@pa_cons _ _ _ _ _ (pv 0) (@pa_cons _ _ _ _ _ (@pe_ty _ _ _ _ rfl X.tuple b_tuple (by decide) (by decide)) pa_nil (by rfl)) (by rfl)) (by decide) (by decide) (by rfl) (by rfl))) (by intro _; rfl)))), ?_⟩
    first | refine wV rfl ?_ | refine ⟨_, rfl, ?_⟩
    first | refine wV rfl ?_ | refine ⟨_, rfl, ?_⟩
    refine ⟨t, _, rfl, ht, fun p H1 s1 e1 => ?_⟩
    rw [cut1] at e1
    refine ⟨p, rfl, ⟨_, SqT.of e1⟩, ?_⟩
    refine fun l hl => ?_
    refine compF_tup (K := K) (a := p) (xs := xs) (σ0 := [none]) (H0 := upd H1 l (.lst [])) (fun i σ' H' => ∃ o1, σ' = [o1] ∧ Same H1 H' ∧ H' l = some (.lst ((xs.take i).filter isR))) ⟨none, rfl, (Same.refl H1).upd hl, upd_same⟩ (fun i σ' H' _ ⟨_, _, s2, _⟩ => SqT.of (s2 _ _ e1)) ?_ ?_
    · rintro i x σ' H' ex ⟨o1, rfl, s2, hl2⟩
      have hi : i < xs.length := (List.getElem?_eq_some_iff.mp ex).1
      rcases hx x (List.mem_of_getElem? ex) with ⟨n, rfl⟩ | ⟨u, zs, rfl, hu⟩
      · first | refine wV rfl ?_ | refine ⟨_, rfl, ?_⟩
        refine ⟨_, _, "int", false, rfl, TyOf.int n, k_int_tuple, false, rfl, iteF ⟨_, rfl, s2, ?_⟩⟩
        rw [filt_take ex, hl2]
        show _ = some (HO.lst (_ ++ []))
        rw [List.append_nil]
      · first | refine wV rfl ?_ | refine ⟨_, rfl, ?_⟩
        refine ⟨_, _, "tuple", true, rfl, TyOf.tup (s2 _ _ (s1 _ _ hu)), k_tuple_tuple, true, rfl, iteT ⟨_, rfl, _, hl2, ?_, _, rfl, fun c o z => ?_, ?_⟩⟩
        · refine small1000 ?_
          have := List.length_filter_le isR (xs.take i)
          rw [List.length_take] at this
          omega
        · rw [upd_ne (ne_of_none z hl)]
          exact s2 c o z
        · rw [upd_same, filt_take ex]
          rfl
    · rintro σ' H' ⟨o1, rfl, s2, hl2⟩
      rw [List.take_length] at hl2
      exact q l H' (s1.trans s2) (s1.free hl) hl2
abbrev sESize : Stmt := top 9
abbrev psESize : List Str := ["expression"]
def spESize (n : Nat) : Sp := fun vs H Q _ => ∃ v ps s, vs = [v] ∧ Tr n H v ps s ∧ ∀ H', Same H H' → Q (.int s) H'
theorem scESize : FnScope psESize psESize (defScope sESize) := ⟨rfl, rfl, rfl, by decide +kernel, rfl, by decide +kernel, by decide +kernel⟩
theorem pair_at {α β : Type} {F : α → β → Prop} : ∀ {xs : List α} {ys : List β} {i : Nat} {x : α}, Paired F xs ys → xs[i]? = some x → ∃ y, ys[i]? = some y ∧ F x y
  | _, _, _, _, .nil, e => by simp at e
  | _, _, 0, _, .cons r _, e => by simp at e; subst e; exact ⟨_, rfl, r⟩
  | _, _, i + 1, x, .cons _ t, e => by
    obtain ⟨u, h1, h2⟩ := pair_at (i := i) (x := x) t (by simpa using e)
    exact ⟨u, by simpa using h1, h2⟩
theorem map_snoc {α β : Type} (g : α → β) {q : List α} {i : Nat} {y : α} (e : q[i]? = some y) : (q.take (i + 1)).map g = (q.take i).map g ++ [g y] := by
  rw [List.take_add_one, e, List.map_append]
  rfl
theorem okESize (n : Nat) {f fW : Addr} {fd fdW : FuncData} (X : Txt mg) (D : Fn K mg "expression_size" sESize psESize f fd) (DW : Fn K mg "within" sWithin psWithin fW fdW) (IH : FnOk P w K mg base CX0 (n + 1) f fd psESize (spESize n)) : FnOk P w K mg base CX0 (n + 2) f fd psESize (spESize (n + 1)) := by
  have GW : FnOk P w K mg base CX0 (n + 1) fW fdW psWithin spWithin := (okWithin DW X).mono (by omega)
  refine D.F.ok (k := n + 1) scESize (fun vs H Q E h => ?_) (fun cdv A outer s H vs Q E hr h => ?_)
  · obtain ⟨_, _, _, rfl, _⟩ := h
    rfl
  · obtain ⟨v, ps, sz, rfl, ⟨t, w', xs, rfl, ht, hz, qs, hq, rfl, _⟩, k⟩ := h
    refine ⟨_, (@pss_one _ _ _ (@ps_ret _ _ _ _ (@pe_op _ _ _ _ _ _ _ _ op_add pe_int (@pe_callB _ _ _ _ _ _ _ _ _ (sumK K rfl) (by rfl) X.sum b_sum (@pa_cons _ _ _ _ _ (@pe_comp _ _ _ _ _ _ _ _ (tCall (spESize n) [] E0 (tCons (tVar 0) tNil)) (["part"]) ([]) (defScope sESize) (psESize) rfl rfl ⟨rfl, by decide +kernel, by decide +kernel, by decide +kernel, by decide +kernel⟩ rfl (@pi_list _ _ _ _ (@pe_call _ _ _ _ _ _ _ _ _ _ _ _ _ _ _ _ GW hr rfl DW.m DW.F.kp DW.b .nil pass0 (@pa_cons _ _ _ _ _ (pv 0) pa_nil (by rfl)) (by decide) (by rfl) (by rfl))) (fun s H fp => pg_name (i := 0) (show (["part"] : List Str).Nodup by decide +kernel) rfl (Or.inl rfl) (Or.inr rfl)) (fun s H fp => pe_call IH hr rfl D.m D.F.kp D.b .nil pass0 (@pa_cons _ _ _ _ _ (pv 0) pa_nil (by rfl))) (by intro _; rfl)) pa_nil (by rfl)) (by decide) (by decide) (by rfl) (by rfl))))), ?_⟩
    first | refine wV rfl ?_ | refine ⟨_, rfl, ?_⟩
    refine ⟨t, _, xs, rfl, ht, hz, hq.tups, fun lw H1 s1 _ e1 => ⟨lw, rfl, ⟨_, SqL.of e1⟩, fun l hl => comp_lst (K := K) (a := lw) (xs := xs.filter isR) (σ0 := [none]) (H0 := upd H1 l (.lst [])) (fun i σ' H' => ∃ o1, σ' = [o1] ∧ Same H1 H' ∧ H' l = some (.lst (((qs.take i).map (·.2)).map V.int))) ⟨none, rfl, (Same.refl H1).upd hl, upd_same⟩ (fun i σ' H' _ ⟨_, _, s2, _⟩ => SqL.of (s2 _ _ e1)) ?_ ?_⟩⟩
    · rintro i x σ' H' ex ⟨o1, rfl, s2, hl2⟩
      obtain ⟨y, ey, ry⟩ := pair_at hq.2 ex
      have hi : i < qs.length := (List.getElem?_eq_some_iff.mp ey).1
      have hn : qs.length ≤ 12 := by
        have h1 := Paired.length hq.2
        have h2 := List.length_filter_le isR xs
        omega
      first | refine wV rfl ?_ | refine ⟨_, rfl, ?_⟩
      refine ⟨x, y.1, y.2, rfl, ry.same (s1.trans s2), ?_⟩
      refine fun H3 s3 => ?_
      refine ⟨_, s3 _ _ hl2, ?_, _, rfl, fun c o z => ?_, ?_⟩
      · refine small1000 ?_
        rw [List.length_map, List.length_map, List.length_take]
        omega
      · rw [upd_ne (ne_of_none z hl)]
        exact s3 _ _ (s2 c o z)
      · rw [upd_same, map_snoc _ ey, List.map_append]
        rfl
    · rintro σ' H' ⟨o1, rfl, s2, hl2⟩
      rw [Paired.length hq.2, List.take_length] at hl2
      refine ⟨l, _, rfl, SqL.of hl2, _, _, rfl, rfl, k H' (s1.trans s2)⟩
theorem okESizes {f fW : Addr} {fd fdW : FuncData} (X : Txt mg) (D : Fn K mg "expression_size" sESize psESize f fd) (DW : Fn K mg "within" sWithin psWithin fW fdW) : ∀ n, FnOk P w K mg base CX0 (n + 1) f fd psESize (spESize n)
  | 0 => ⟨fun vs H Q E ⟨_, _, _, _, h, _⟩ => h.elim, fun A outer s H args us vs Q E _ _ _ _ ⟨_, _, _, _, h, _⟩ => h.elim⟩
  | n + 1 => okESize n X D DW (okESizes X D DW n)
abbrev sPlIn : Stmt := top 10
abbrev psPlIn : List Str := ["expression"]
abbrev nPlIn : List Str := ["expression", "places", "part"]
def spPlIn (n : Nat) : Sp := fun vs H Q _ => ∃ v ps s, vs = [v] ∧ Tr n H v ps s ∧ ∀ l H', Same H H' → H l = none → H' l = some (.lst (ps.map V.int)) → Q (.ref l) H'
theorem scPlIn : FnScope nPlIn psPlIn (defScope sPlIn) := ⟨rfl, rfl, rfl, by decide +kernel, rfl, by decide +kernel, by decide +kernel⟩
theorem flat_snoc {q : List PS'} {i : Nat} {y : PS'} (e : q[i]? = some y) : flat (q.take (i + 1)) = flat (q.take i) ++ y.1 := by
  unfold flat
  rw [map_snoc _ e, List.flatten_append]
  simp
theorem flat_take {q : List PS'} (i : Nat) : (flat (q.take i)).length ≤ (flat q).length := by
  have e : flat q = flat (q.take i) ++ flat (q.drop i) := by
    unfold flat
    rw [← List.flatten_append, ← List.map_append, List.take_append_drop]
  rw [e, List.length_append]
  omega
theorem at0 {x : V} {xs : List V} : atI (x :: xs) 0 = some x := atI_nat (j := 0) rfl
theorem flat_len {q : List PS'} {m : Nat} (h : ∀ y ∈ q, y.1.length ≤ m) : (flat q).length ≤ m * q.length := by
  induction q with
  | nil => simp [flat]
  | cons y q ih =>
    have h1 := h y (.head _)
    have h2 := ih fun z hz => h z (.tail _ hz)
    have e : flat (y :: q) = y.1 ++ flat q := rfl
    rw [e, List.length_append, List.length_cons, Nat.mul_succ]
    omega
theorem Tr.few {H : Hp} : ∀ {n : Nat} {v : V} {ps : List Int} {s : Int}, Tr n H v ps s → ps.length ≤ 12 ^ n
  | n + 1, v, ps, s, h => by
    obtain ⟨t, w, xs, h1, h2, h3, q, h4, h5, h6⟩ := h
    rcases h6 with ⟨_, p, _, rfl⟩ | ⟨_, rfl⟩
    · exact Nat.pow_pos (by decide)
    · have hq : q.length ≤ 12 := by
        have h1 := Paired.length h4.2
        have h2 := List.length_filter_le isR xs
        omega
      have hy : ∀ y ∈ q, y.1.length ≤ 12 ^ n := by
        obtain ⟨_, hp⟩ := h4
        clear h5 hq
        generalize xs.filter isR = ys at hp
        induction hp with
        | nil => nofun
        | cons r _ ih =>
          intro y hy
          rcases List.mem_cons.mp hy with rfl | hy
          · exact Tr.few r
          · exact ih y hy
      refine Nat.le_trans (flat_len hy) ?_
      rw [Nat.pow_succ]
      exact Nat.mul_le_mul_left _ hq
theorem okPlIn (n : Nat) (hn6 : n ≤ 5) {f fW : Addr} {fd fdW : FuncData} (X : Txt mg) (D : Fn K mg "places_in" sPlIn psPlIn f fd) (DW : Fn K mg "within" sWithin psWithin fW fdW) (IH : FnOk P w K mg base CX0 (n + 1) f fd psPlIn (spPlIn n)) : FnOk P w K mg base CX0 (n + 2) f fd psPlIn (spPlIn (n + 1)) := by
  have GW : FnOk P w K mg base CX0 (n + 1) fW fdW psWithin spWithin := (okWithin DW X).mono (by omega)
  refine D.F.ok (k := n + 1) scPlIn (fun vs H Q E h => ?_) (fun cdv A outer s H vs Q E hr h => ?_)
  · obtain ⟨_, _, _, rfl, _⟩ := h
    rfl
  · obtain ⟨v, ps, sz, rfl, ht0, k⟩ := h
    have hfew := ht0.few
    obtain ⟨t, w', xs, rfl, ht, hz, qs, hq, rfl, hor⟩ := ht0
    have nd := scPlIn.nd
    refine ⟨_, (@pss_cons _ _ _ _ _ (@ps_if _ _ _ _ _ _ _ _ (@pt_cmpR _ _ _ _ _ _ _ _ op_eq (@pe_ix _ _ _ _ _ _ _ (ixT K) (pv 0) pe_int (fun _ _ => rfl)) pe_str (nomark _)) (@pss_one _ _ _ (@ps_ret _ _ _ _ (@pe_lst _ _ _ _ (@pa_cons _ _ _ _ _ (@pe_ix _ _ _ _ _ _ _ (ixT K) (pv 0) pe_int (fun _ _ => rfl)) pa_nil (by rfl))))) pss_nil) (@pss_cons _ _ _ _ _ (@ps_set _ _ (1) _ _ _ _ nd rfl (Or.inl rfl) (@pe_lst _ _ _ _ pa_nil) (by rfl) (by first | exact .inl rfl | exact .inr rfl | assumption)) (@pss_cons _ _ _ _ _ (@ps_for _ _ _ _ _ _ _ _ PassesOwn.never rfl (@pi_list _ _ _ _ (@pe_call _ _ _ _ _ _ _ _ _ _ _ _ _ _ _ _ GW hr rfl DW.m DW.F.kp DW.b .nil pass0 (@pa_cons _ _ _ _ _ (pv 0) pa_nil (by rfl)) (by decide) (by rfl) (by rfl))) (@pg_name _ _ (2) _ nd rfl (Or.inl rfl) (by first | exact .inl rfl | exact .inr rfl | assumption)) (@pss_one _ _ _ (@ps_expr _ _ _ _ (@pe_bm _ _ _ _ _ _ _ _ _ _ _ _ PySem.F.plainAttrs_list PySem.F.slot_list_extend PySem.F.type_list_extend mt_extend (pv 1) (@pa_cons _ _ _ _ _ (@pe_call _ _ _ _ _ _ _ _ _ _ _ _ _ _ _ _ IH hr rfl D.m D.F.kp D.b .nil pass0 (@pa_cons _ _ _ _ _ (pv 2) pa_nil (by rfl)) (by decide) (by rfl) (by rfl)) pa_nil (by rfl)) (by rfl) (by rfl) (by rfl) (by rfl) (by rfl)) (by rfl))) (by intro _; rfl)) (@pss_one _ _ _ (@ps_ret _ _ _ _ (pv 1)))))), ?_⟩
    first | refine wV rfl ?_ | refine ⟨_, rfl, ?_⟩
    refine ⟨t, _, _, .str w', rfl, rfl, SqT.of ht, at0, rfl, _, rfl, ?_⟩
    rcases hor with ⟨rfl, p, rfl, rfl⟩ | ⟨hw, rfl⟩
    · refine iteY rfl ⟨_, rfl, t, _, _, .int p, rfl, rfl, SqT.of ht, rfl, (by show 1 ≤ sizeLine; decide), fun l hl => k l _ ((Same.refl H).upd hl) hl upd_same⟩
    · refine iteN (fun e => hw (by injection e)) ⟨Nat.zero_le _, fun l hl => ?_⟩
      have S1 : Same H (upd H l (.lst [])) := (Same.refl H).upd hl
      first | refine wV rfl ?_ | refine ⟨_, rfl, ?_⟩
      refine ⟨t, _, xs, rfl, S1 _ _ ht, hz, (hq.imp fun _ _ _ z => z.same S1).tups, fun lw H1 s1 hf1 e1 => ⟨lw, rfl, ⟨_, SqL.of e1⟩, ?_⟩⟩
      have hl1 : H1 l = some (.lst []) := s1 _ _ upd_same
      have hne : lw ≠ l := fun e => by rw [e, upd_same] at hf1; cases hf1
      have hz6 : (flat qs).length ≤ 12 ^ 6 := Nat.le_trans hfew (Nat.pow_le_pow_right (by decide) (by omega))
      refine for_list (K := K) (a := lw) (xs := xs.filter isR) (fun i σ' H' => ∃ x2, σ' = [some (.ref t), some (.ref l), x2] ∧ Same H H' ∧ H' lw = some (.lst (xs.filter isR)) ∧ H' l = some (.lst ((flat (qs.take i)).map V.int))) ⟨none, rfl, S1.trans s1, e1, hl1⟩ (fun i σ' H' _ ⟨_, _, _, z, _⟩ => SqL.of z) ?_ ?_
      · rintro i x σ' H' ex ⟨x2, rfl, s2, hw2, hl2⟩
        obtain ⟨y, ey, ry⟩ := pair_at hq.2 ex
        first | refine wV rfl ?_ | refine ⟨_, rfl, ?_⟩
        refine ⟨.inl ⟨rfl, _, SqL.of hl2⟩, ?_⟩
        first | refine wV rfl ?_ | refine ⟨_, rfl, ?_⟩
        refine ⟨x, y.1, y.2, rfl, ry.same s2, ?_⟩
        refine fun l3 H3 s3 hf3 e3 => ?_
        refine ⟨l, l3, _, _, rfl, rfl, s3 _ _ hl2, e3, ?_, ?_⟩
        · have h1 := flat_take (q := qs) (i + 1)
          rw [flat_snoc ey, List.length_append] at h1
          rw [List.length_map, List.length_map]
          exact Nat.le_trans h1 (Nat.le_trans hz6 (by decide))
        · first | refine wV rfl ?_ | refine ⟨_, rfl, ?_⟩
          refine ⟨fun c o z => ?_, ?_, ?_⟩
          · rw [upd_ne (ne_of_none z hl)]
            exact s3 _ _ (s2 c o z)
          · rw [upd_ne hne]
            exact s3 _ _ hw2
          · rw [upd_same, flat_snoc ey, List.map_append]
      · rintro σ' H' ⟨x2, rfl, s2, hw2, hl2⟩
        rw [Paired.length hq.2, List.take_length] at hl2
        first | refine wV rfl ?_ | refine ⟨_, rfl, ?_⟩
        refine k l H' s2 hl hl2
theorem okPlIns {f fW : Addr} {fd fdW : FuncData} (X : Txt mg) (D : Fn K mg "places_in" sPlIn psPlIn f fd) (DW : Fn K mg "within" sWithin psWithin fW fdW) : ∀ n, n ≤ 6 → FnOk P w K mg base CX0 (n + 1) f fd psPlIn (spPlIn n)
  | 0, _ => ⟨fun vs H Q E ⟨_, _, _, _, h, _⟩ => h.elim, fun A outer s H args us vs Q E _ _ _ _ ⟨_, _, _, _, h, _⟩ => h.elim⟩
  | n + 1, h => okPlIn n (by omega) X D DW (okPlIns X D DW n (by omega))
end
end VK
namespace VK
open PySem PySem.Spec PyProof.Rows L2
section
variable {P : Program} {w : World} {K : PySem.W.Frag} {mg : Str → Option Value} {base : Heap}
theorem iteP {c : Bool} {A B : Prop} (h : c = true) (a : A) : if c = true then A else B := by rw [if_pos h]; exact a
theorem iteQ {c : Bool} {A B : Prop} (h : c = false) (b : B) : if c = true then A else B := by rw [if_neg (by rw [h]; decide)]; exact b
theorem neD {a b : Str} (h : a ≠ b) : decide (V.str a = V.str b) = false := decide_eq_false fun e => h (by injection e)
theorem at1 {x y : V} {xs : List V} : atI (x :: y :: xs) 1 = some y := atI_nat (j := 1) rfl
theorem at2 {x y z : V} {xs : List V} : atI (x :: y :: z :: xs) 2 = some z := atI_nat (j := 2) rfl
/-- the tuples are kept -/
def SameT (H H' : Hp) : Prop := ∀ c xs, H c = some (.tup xs) → H' c = some (.tup xs)
theorem _root_.L2.Same.t {H H' : Hp} (s : Same H H') : SameT H H' := fun c xs e => s _ _ e
theorem SameT.trans {H H1 H2 : Hp} (a : SameT H H1) (b : SameT H1 H2) : SameT H H2 := fun c xs e => b c xs (a c xs e)
theorem SameT.updL {H : Hp} {l : Addr} {ys zs : List V} (h : H l = some (.lst ys)) : SameT H (upd H l (.lst zs)) := fun c xs e => by
  have hc : c ≠ l := fun z => by rw [z, h] at e; cases e
  rw [upd_ne hc]; exact e
theorem Tr.sameT {H H' : Hp} (e : SameT H H') : ∀ {n : Nat} {v : V} {ps : List Int} {s : Int}, Tr n H v ps s → Tr n H' v ps s
  | 0, _, _, _, h => h
  | n + 1, v, ps, s, h => by
    obtain ⟨t, w, xs, h1, h2, h3, q, h4, h5⟩ := h
    exact ⟨t, w, xs, h1, e _ _ h2, h3, q, h4.imp fun _ _ _ z => Tr.sameT e z, h5⟩
/-- a comprehension's walk, item by item -/
theorem comp_gen {J : It} {n : Nat} {l : Addr} {g : TG} {te : TE} {σ0 : L2.St} {H1 : Hp} {Q : Hp → Prop} (S : L2.St → Prop) (R : Nat → V → Hp → Prop) (hR : ∀ i y H H', SameT H H' → R i y H → R i y H') (hn : n ≤ 300000) (hl : H1 l = none) (h0 : S σ0)
    (hgo : ∀ i H, i < n → Same H1 H → J.go i H) (hst : ∀ H, Same H1 H → J.stop n H)
    (hs : ∀ (C : L2.St → V → Hp → Prop) i σ H x H', i < n → Same H1 H → S σ → J.yld i H x H' → (∀ σ3 y H4, Same H H4 → S σ3 → R i y H4 → C σ3 y H4) → g x σ H' fun σ3 H3 => te σ3 H3 fun y H4 => C σ3 y H4)
    (hd : ∀ H ys, Same H1 H → H l = some (.lst ys) → ys.length = n → (∀ i y, ys[i]? = some y → R i y H) → Q H) :
    ∃ W : Nat → Nat → L2.St → Hp → Prop, (∃ m, W 0 m σ0 (upd H1 l (.lst []))) ∧ ∀ i m σ' H', W i m σ' H' →
    (J.stop i H' ∧ Q H') ∨ (J.go i H' ∧ ∃ N : L2.St → Hp → Prop, (∀ σ2 H2, N σ2 H2 → ∃ m', m' < m ∧ W (i + 1) m' σ2 H2) ∧
      ∀ x H2, J.yld i H' x H2 → g x σ' H2 fun σ3 H3 => te σ3 H3 fun y H4 => ∃ ys, H4 l = some (.lst ys) ∧ ys.length < sizeLine ∧ N σ3 (upd H4 l (.lst (ys ++ [y])))) := by
  refine comp_by (n := n) (fun i σ H => S σ ∧ Same H1 H ∧ ∃ ys, H l = some (.lst ys) ∧ ys.length = i ∧ ∀ j y, ys[j]? = some y → R j y H) ⟨h0, (Same.refl H1).upd hl, [], upd_same, rfl, fun j y e => by simp at e⟩ (fun i σ H hi ⟨_, s, _⟩ => hgo i H hi s) (fun σ H ⟨_, s, _⟩ => hst H s) ?_ ?_
  · rintro i σ H x H' hi ⟨hS, s1, ys, hy, hyl, hyr⟩ hx
    refine hs _ i σ H x H' hi s1 hS hx fun σ3 y H4 s4 hS3 r4 => ?_
    have hy4 := s4 _ _ hy
    have s5 : SameT H4 (upd H4 l (.lst (ys ++ [y]))) := SameT.updL hy4
    refine ⟨ys, hy4, Nat.lt_of_lt_of_le (show ys.length < 300000 by omega) (by decide), hS3, fun c o z => ?_, ys ++ [y], upd_same, by simp [hyl], ?_⟩
    · rw [upd_ne (ne_of_none z hl)]
      exact s4 _ _ (s1 c o z)
    · intro j y' e
      by_cases hj : j < ys.length
      · rw [List.getElem?_append_left hj] at e
        exact hR _ _ _ _ (s4.t.trans s5) (hyr j y' e)
      · rw [List.getElem?_append_right (by omega)] at e
        have hj0 : j - ys.length = 0 := by
          have := (List.getElem?_eq_some_iff.mp e).1
          simp at this
          omega
        rw [hj0] at e
        simp at e
        subst e
        have : j = i := by omega
        subst this
        exact hR _ _ _ _ s5 r4
  · rintro σ H ⟨hS, s1, ys, hy, hyl, hyr⟩
    exact hd H ys s1 hy hyl hyr
section
variable {l a : Addr} {xs : List V} {lo : Int} {n : Nat} {g : TG} {te : TE} {σ0 : L2.St} {H1 : Hp} {Q : Hp → Prop}
theorem comp_L {K : PySem.W.Frag} (ha : H1 a = some (.lst xs)) (S : L2.St → Prop) (R : Nat → V → Hp → Prop) (hR : ∀ i y H H', SameT H H' → R i y H → R i y H') (hn : xs.length ≤ 300000) (hl : H1 l = none) (h0 : S σ0)
    (hs : ∀ (C : L2.St → V → Hp → Prop) i σ H x, xs[i]? = some x → Same H1 H → S σ → (∀ σ3 y H4, Same H H4 → S σ3 → R i y H4 → C σ3 y H4) → g x σ H fun σ3 H3 => te σ3 H3 fun y H4 => C σ3 y H4)
    (hd : ∀ H ys, Same H1 H → H l = some (.lst ys) → ys.length = xs.length → (∀ i y, ys[i]? = some y → R i y H) → Q H) :
    ∃ W : Nat → Nat → L2.St → Hp → Prop, (∃ m, W 0 m σ0 (upd H1 l (.lst []))) ∧ ∀ i m σ' H', W i m σ' H' →
    ((Itl K a).stop i H' ∧ Q H') ∨ ((Itl K a).go i H' ∧ ∃ N : L2.St → Hp → Prop, (∀ σ2 H2, N σ2 H2 → ∃ m', m' < m ∧ W (i + 1) m' σ2 H2) ∧
      ∀ x H2, (Itl K a).yld i H' x H2 → g x σ' H2 fun σ3 H3 => te σ3 H3 fun y H4 => ∃ ys, H4 l = some (.lst ys) ∧ ys.length < sizeLine ∧ N σ3 (upd H4 l (.lst (ys ++ [y])))) :=
  comp_gen S R hR hn hl h0 (fun i H hi s => ⟨xs, xs[i], SqL.of (s _ _ ha), List.getElem?_eq_getElem hi⟩) (fun H s => ⟨xs, SqL.of (s _ _ ha), Nat.le_refl _⟩) (fun C i σ H x H' hi s hS ⟨e, hx⟩ k => by subst e; exact hs C i σ _ x (hx xs (SqL.of (s _ _ ha))) s hS k) hd
theorem comp_T {K : PySem.W.Frag} (ha : H1 a = some (.tup xs)) (S : L2.St → Prop) (R : Nat → V → Hp → Prop) (hR : ∀ i y H H', SameT H H' → R i y H → R i y H') (hn : xs.length ≤ 300000) (hl : H1 l = none) (h0 : S σ0)
    (hs : ∀ (C : L2.St → V → Hp → Prop) i σ H x, xs[i]? = some x → Same H1 H → S σ → (∀ σ3 y H4, Same H H4 → S σ3 → R i y H4 → C σ3 y H4) → g x σ H fun σ3 H3 => te σ3 H3 fun y H4 => C σ3 y H4)
    (hd : ∀ H ys, Same H1 H → H l = some (.lst ys) → ys.length = xs.length → (∀ i y, ys[i]? = some y → R i y H) → Q H) :
    ∃ W : Nat → Nat → L2.St → Hp → Prop, (∃ m, W 0 m σ0 (upd H1 l (.lst []))) ∧ ∀ i m σ' H', W i m σ' H' →
    ((Itt K a).stop i H' ∧ Q H') ∨ ((Itt K a).go i H' ∧ ∃ N : L2.St → Hp → Prop, (∀ σ2 H2, N σ2 H2 → ∃ m', m' < m ∧ W (i + 1) m' σ2 H2) ∧
      ∀ x H2, (Itt K a).yld i H' x H2 → g x σ' H2 fun σ3 H3 => te σ3 H3 fun y H4 => ∃ ys, H4 l = some (.lst ys) ∧ ys.length < sizeLine ∧ N σ3 (upd H4 l (.lst (ys ++ [y])))) :=
  comp_gen S R hR hn hl h0 (fun i H hi s => ⟨xs, xs[i], SqT.of (s _ _ ha), List.getElem?_eq_getElem hi⟩) (fun H s => ⟨xs, SqT.of (s _ _ ha), Nat.le_refl _⟩) (fun C i σ H x H' hi s hS ⟨e, hx⟩ k => by subst e; exact hs C i σ _ x (hx xs (SqT.of (s _ _ ha))) s hS k) hd
theorem comp_R (S : L2.St → Prop) (R : Nat → V → Hp → Prop) (hR : ∀ i y H H', SameT H H' → R i y H → R i y H') (hn : n ≤ 300000) (hl : H1 l = none) (h0 : S σ0)
    (hs : ∀ (C : L2.St → V → Hp → Prop) i σ H, i < n → Same H1 H → S σ → (∀ σ3 y H4, Same H H4 → S σ3 → R i y H4 → C σ3 y H4) → g (.int (lo + i)) σ H fun σ3 H3 => te σ3 H3 fun y H4 => C σ3 y H4)
    (hd : ∀ H ys, Same H1 H → H l = some (.lst ys) → ys.length = n → (∀ i y, ys[i]? = some y → R i y H) → Q H) :
    ∃ W : Nat → Nat → L2.St → Hp → Prop, (∃ m, W 0 m σ0 (upd H1 l (.lst []))) ∧ ∀ i m σ' H', W i m σ' H' →
    ((Itr lo n).stop i H' ∧ Q H') ∨ ((Itr lo n).go i H' ∧ ∃ N : L2.St → Hp → Prop, (∀ σ2 H2, N σ2 H2 → ∃ m', m' < m ∧ W (i + 1) m' σ2 H2) ∧
      ∀ x H2, (Itr lo n).yld i H' x H2 → g x σ' H2 fun σ3 H3 => te σ3 H3 fun y H4 => ∃ ys, H4 l = some (.lst ys) ∧ ys.length < sizeLine ∧ N σ3 (upd H4 l (.lst (ys ++ [y])))) :=
  comp_gen S R hR hn hl h0 (fun i H hi s => by first | exact hi | exact Int.ofNat_lt.mpr hi | simp [Itr]; omega) (fun H s => by first | exact Nat.le_refl _ | simp [Itr]) (fun C i σ H x H' hi s hS hx k => by obtain ⟨e1, e2⟩ := hx; subst e1 e2; exact hs C i σ _ hi s hS k) hd
end
def ooL : List V := [V.str "sieve", V.str "cols", V.str "once", V.str "count", V.str "sum", V.str "least", V.str "most", V.str "first"]
def paL : List V := [V.str "join", V.str "left", V.str "notin"]
def grL : List V := [V.str "count", V.str "sum", V.str "least", V.str "most"]
def ofL : List V := [V.str "pour", V.str "both", V.str "either", V.str "less"]
structure Glb (K : PySem.W.Frag) (mg : Str → Option Value) : Prop where
  mc : ∃ u, mg "MOST_CELLS" = some u ∧ RelV (.int 12) u
  oo : ∃ a, mg "OVER_ONE" = some (.ref a) ∧ ∀ H, SqT K H a ooL
  pa : ∃ a, mg "PAIRED" = some (.ref a) ∧ ∀ H, SqT K H a paL
  gr : ∃ a, mg "GROUPS" = some (.ref a) ∧ ∀ H, SqT K H a grL
  of : ∃ a, mg "OF_ONE_WIDTH" = some (.ref a) ∧ ∀ H, SqT K H a ofL
def Ns (H : Hp) (v : V) (ns : List Int) (w : Int) : Prop := ∃ t, v = .ref t ∧ H t = some (.tup (ns.map V.int)) ∧ ns.length ≤ 12 ∧ ∀ p ∈ ns, p < w
def Prs (H : Hp) (v : V) (ps : List (Int × Int)) (w1 w2 : Int) : Prop := ∃ t xs, v = .ref t ∧ H t = some (.tup xs) ∧ ps.length ≤ 12 ∧ Paired (fun x p => ∃ u, x = V.ref u ∧ H u = some (.tup [.int p.1, .int p.2])) xs ps ∧ ∀ p ∈ ps, p.1 < w1 ∧ p.2 < w2
def Od (H : Hp) (v : V) (ps : List (Int × Bool)) (w : Int) : Prop := ∃ t xs, v = .ref t ∧ H t = some (.tup xs) ∧ ps.length ≤ 12 ∧ Paired (fun x p => ∃ u, x = V.ref u ∧ H u = some (.tup [.int p.1, .bl p.2])) xs ps ∧ ∀ p ∈ ps, p.1 < w
theorem Ns.same {H H' : Hp} (e : SameT H H') {v : V} {ns : List Int} {w : Int} : Ns H v ns w → Ns H' v ns w := fun ⟨t, h1, h2, h3⟩ => ⟨t, h1, e _ _ h2, h3⟩
theorem Prs.same {H H' : Hp} (e : SameT H H') {v : V} {ps : List (Int × Int)} {w1 w2 : Int} : Prs H v ps w1 w2 → Prs H' v ps w1 w2 := fun ⟨t, xs, h1, h2, h3, h4, h5⟩ => ⟨t, xs, h1, e _ _ h2, h3, Paired.mapP h4 fun _ _ ⟨u, a, b⟩ => ⟨u, a, e _ _ b⟩, h5⟩
theorem Od.same {H H' : Hp} (e : SameT H H') {v : V} {ps : List (Int × Bool)} {w : Int} : Od H v ps w → Od H' v ps w := fun ⟨t, xs, h1, h2, h3, h4, h5⟩ => ⟨t, xs, h1, e _ _ h2, h3, Paired.mapP h4 fun _ _ ⟨u, a, b⟩ => ⟨u, a, e _ _ b⟩, h5⟩
inductive OneB (H : Hp) : Str → List V → Int → Int → Int → Prop
  | sieve {v : V} {ps : List Int} {w m : Int} : Tr 4 H v ps m → (∀ p ∈ ps, p < w) → OneB H "sieve" [v] w w m
  | cols {c : Addr} {ts : List V} {qs : List PS'} {w : Int} : H c = some (.tup ts) → ts.length ≤ 12 → Paired (fun v q => Tr 4 H v q.1 q.2) ts qs → (∀ p ∈ flat qs, p < w) → OneB H "cols" [.ref c] w ts.length (tot qs)
  | once {w : Int} : OneB H "once" [] w w 0
  | count {v : V} {ns : List Int} {w : Int} : Ns H v ns w → OneB H "count" [v] w (ns.length + 1) ns.length
  | grp {wd : Str} {v : V} {ns : List Int} {w p : Int} : (wd = "sum" ∨ wd = "least" ∨ wd = "most") → p < w → Ns H v ns w → OneB H wd [.int p, v] w (ns.length + 1) ns.length
  | first {k : Int} {v : V} {ns : List Int} {w : Int} {u : V} {os : List (Int × Bool)} : Ns H v ns w → Od H u os w → OneB H "first" [.int k, v, u] w w (ns.length + os.length)
inductive TwoB (H : Hp) : Str → List V → Int → Int → Int → Int → Prop
  | alike {wd : Str} {w : Int} : (wd = "pour" ∨ wd = "both" ∨ wd = "either" ∨ wd = "less") → TwoB H wd [] w w w 0
  | join {wd : Str} {v : V} {ps : List (Int × Int)} {w1 w2 : Int} : (wd = "join" ∨ wd = "left") → Prs H v ps w1 w2 → TwoB H wd [v] w1 w2 (w1 + w2) ps.length
  | notin {v : V} {ps : List (Int × Int)} {w1 w2 : Int} : Prs H v ps w1 w2 → TwoB H "notin" [v] w1 w2 w1 ps.length
theorem OneB.same {H H' : Hp} (e : SameT H H') {wd : Str} {bs : List V} {w1 w m : Int} (h : OneB H wd bs w1 w m) : OneB H' wd bs w1 w m := by
  cases h with
  | sieve a b => exact .sieve (a.sameT e) b
  | cols a b c d => exact .cols (e _ _ a) b (Paired.mapP c fun _ _ z => z.sameT e) d
  | once => exact .once
  | count a => exact .count (a.same e)
  | grp a b c => exact .grp a b (c.same e)
  | first a b => exact .first (a.same e) (b.same e)
theorem TwoB.same {H H' : Hp} (e : SameT H H') {wd : Str} {bs : List V} {w1 w2 w m : Int} (h : TwoB H wd bs w1 w2 w m) : TwoB H' wd bs w1 w2 w m := by
  cases h with
  | alike a => exact .alike a
  | join a b => exact .join a (b.same e)
  | notin a => exact .notin (a.same e)
/-- a view's word, what stands behind its views, their widths, its own, and what it adds to the size -/
inductive Bd (H : Hp) : Str → List V → List Int → Int → Int → Prop
  | one {wd : Str} {bs : List V} {w1 w m : Int} : OneB H wd bs w1 w m → Bd H wd bs [w1] w m
  | two {wd : Str} {bs : List V} {w1 w2 w m : Int} : TwoB H wd bs w1 w2 w m → Bd H wd bs [w1, w2] w m
theorem Bd.same {H H' : Hp} (e : SameT H H') {wd : Str} {bs : List V} {ws : List Int} {w m : Int} (h : Bd H wd bs ws w m) : Bd H' wd bs ws w m := by
  cases h with
  | one a => exact .one (a.same e)
  | two a => exact .two (a.same e)
theorem OneB.word {H : Hp} {wd : Str} {bs : List V} {w1 w m : Int} (h : OneB H wd bs w1 w m) : inV (.str wd) ooL = true ∧ wd ≠ "rounds" ∧ wd ≠ "name" ∧ inV (.str wd) paL = false ∧ inV (.str wd) ofL = false := by
  cases h with
  | grp a _ _ => rcases a with rfl | rfl | rfl <;> decide +kernel
  | _ => decide +kernel
theorem TwoB.word {H : Hp} {wd : Str} {bs : List V} {w1 w2 w m : Int} (h : TwoB H wd bs w1 w2 w m) : inV (.str wd) ooL = false ∧ wd ≠ "rounds" ∧ wd ≠ "name" ∧ ((inV (.str wd) ofL = true ∧ w1 = w2) ∨ inV (.str wd) ofL = false) := by
  cases h with
  | alike a => rcases a with rfl | rfl | rfl | rfl <;> exact ⟨by decide +kernel, by decide +kernel, by decide +kernel, .inl ⟨by decide +kernel, rfl⟩⟩
  | join a _ => rcases a with rfl | rfl <;> exact ⟨by decide +kernel, by decide +kernel, by decide +kernel, .inr (by decide +kernel)⟩
  | notin _ => exact ⟨by decide +kernel, by decide +kernel, by decide +kernel, .inr (by decide +kernel)⟩
theorem Bd.word {H : Hp} {wd : Str} {bs : List V} {ws : List Int} {w m : Int} (h : Bd H wd bs ws w m) : wd ≠ "rounds" ∧ wd ≠ "name" := by
  cases h with
  | one a => exact ⟨a.word.2.1, a.word.2.2.1⟩
  | two a => exact ⟨a.word.2.1, a.word.2.2.1⟩
abbrev sViewsIn : Stmt := top 18
abbrev psV : List Str := ["V"]
def spViewsIn : Sp := fun vs H Q _ => ∃ t wd us bs ws w m, vs = [.ref t] ∧ H t = some (.tup (.str wd :: (us ++ bs))) ∧ us.length = ws.length ∧ Bd H wd bs ws w m ∧ ∀ l H', Same H H' → H' l = some (.lst us) → Q (.ref l) H'
theorem scViewsIn : FnScope psV psV (defScope sViewsIn) := ⟨rfl, rfl, rfl, by decide +kernel, rfl, by decide +kernel, by decide +kernel⟩
theorem okViewsIn {f : Addr} {fd : FuncData} (D : Fn K mg "views_in" sViewsIn psV f fd) (GL : Glb K mg) : FnOk P w K mg base CX0 1 f fd psV spViewsIn := by
  obtain ⟨ao, mo, so⟩ := GL.oo
  refine D.F.ok scViewsIn (fun vs H Q E h => ?_) (fun cdv A outer s H vs Q E hr h => ?_)
  · obtain ⟨_, _, _, _, _, _, _, rfl, _⟩ := h
    rfl
  · obtain ⟨t, wd, us, bs, ws, w', m, rfl, ht, hl, hb, k⟩ := h
    refine ⟨_, (@pss_cons _ _ _ _ _ (@ps_if _ _ _ _ _ _ _ _ (@pt_cmpR _ _ _ _ _ _ _ _ op_eq (@pe_ix _ _ _ _ _ _ _ (ixT K) (pv 0) pe_int (fun _ _ => rfl)) pe_str (nomark _)) (@pss_one _ _ _ (@ps_ret _ _ _ _ (@pe_lstS _ _ _ _ (@pa_cons _ _ _ _ _ (@pe_ix _ _ _ _ _ _ _ (ixT K) (pv 0) pe_int (fun _ _ => rfl)) (@pa_cons _ _ _ _ _ (@pe_ix _ _ _ _ _ _ _ (ixT K) (pv 0) pe_int (fun _ _ => rfl)) pa_nil (by rfl)) (by rfl))))) pss_nil) (@pss_cons _ _ _ _ _ (@ps_if _ _ _ _ _ _ _ _ (@pt_cmpR _ _ _ _ _ _ _ _ (inK K) (@pe_ix _ _ _ _ _ _ _ (ixT K) (pv 0) pe_int (fun _ _ => rfl)) (@pe_glob _ _ (.ref ao) _ _ rfl mo rfl (by decide)) (by with_unfolding_all rfl)) (@pss_one _ _ _ (@ps_ret _ _ _ _ (@pe_lstS _ _ _ _ (@pa_cons _ _ _ _ _ (@pe_ix _ _ _ _ _ _ _ (ixT K) (pv 0) pe_int (fun _ _ => rfl)) pa_nil (by rfl))))) pss_nil) (@pss_one _ _ _ (@ps_ret _ _ _ _ (@pe_lstS _ _ _ _ (@pa_cons _ _ _ _ _ (@pe_ix _ _ _ _ _ _ _ (ixT K) (pv 0) pe_int (fun _ _ => rfl)) (@pa_cons _ _ _ _ _ (@pe_ix _ _ _ _ _ _ _ (ixT K) (pv 0) pe_int (fun _ _ => rfl)) pa_nil (by rfl)) (by rfl))))))), ?_⟩
    cases hb with
    | one ob =>
      obtain ⟨c1, c2, -⟩ := ob.word
      match us, hl with
      | [v], _ =>
        first | refine wT rfl (SqT.of ht) at0 ?_ | refine ⟨_, rfl, t, _, _, _, rfl, rfl, SqT.of ht, at0, ?_⟩
        refine ⟨rfl, ?_⟩
        first | refine wV rfl ?_ | refine ⟨_, rfl, ?_⟩
        refine iteQ (neD c2) ?_
        first | refine wT rfl (SqT.of ht) at0 ?_ | refine ⟨_, rfl, t, _, _, _, rfl, rfl, SqT.of ht, at0, ?_⟩
        refine ⟨ao, _, rfl, .inr (so _), rfl, rfl, _, rfl, ?_⟩
        refine iteP c1 ?_
        first | refine wT rfl (SqT.of ht) at1 ?_ | refine ⟨_, rfl, t, _, _, _, rfl, rfl, SqT.of ht, at1, ?_⟩
        refine ⟨(by show 1 ≤ sizeLine; decide), ?_⟩
        refine fun l H' s1 e1 => ?_
        refine k l H' s1 e1
    | two ob =>
      obtain ⟨c1, c2, -⟩ := ob.word
      match us, hl with
      | [v, u], _ =>
        first | refine wT rfl (SqT.of ht) at0 ?_ | refine ⟨_, rfl, t, _, _, _, rfl, rfl, SqT.of ht, at0, ?_⟩
        refine ⟨rfl, ?_⟩
        first | refine wV rfl ?_ | refine ⟨_, rfl, ?_⟩
        refine iteQ (neD c2) ?_
        first | refine wT rfl (SqT.of ht) at0 ?_ | refine ⟨_, rfl, t, _, _, _, rfl, rfl, SqT.of ht, at0, ?_⟩
        refine ⟨ao, _, rfl, .inr (so _), rfl, rfl, _, rfl, ?_⟩
        refine iteQ c1 ?_
        first | refine wT rfl (SqT.of ht) at1 ?_ | refine ⟨_, rfl, t, _, _, _, rfl, rfl, SqT.of ht, at1, ?_⟩
        first | refine wT rfl (SqT.of ht) at2 ?_ | refine ⟨_, rfl, t, _, _, _, rfl, rfl, SqT.of ht, at2, ?_⟩
        refine ⟨(by show 2 ≤ sizeLine; decide), ?_⟩
        refine fun l H' s1 e1 => ?_
        refine k l H' s1 e1
abbrev sBesides : Stmt := top 19
def spBesides : Sp := fun vs H Q _ => ∃ t wd us bs ws w m, vs = [.ref t] ∧ H t = some (.tup (.str wd :: (us ++ bs))) ∧ us.length = ws.length ∧ Bd H wd bs ws w m ∧ ∀ p H', Same H H' → H' p = some (.tup bs) → Q (.ref p) H'
theorem scBesides : FnScope psV psV (defScope sBesides) := ⟨rfl, rfl, rfl, by decide +kernel, rfl, by decide +kernel, by decide +kernel⟩
theorem cut_us {x : V} {us bs : List V} : cutV (x :: (us ++ bs)) (some (1 + (us.length : Int))) none = bs := by
  unfold cutV HT.sIx
  have e1 : ¬ (1 + (us.length : Int) < 0) := by omega
  have e2 : (1 + (us.length : Int)).toNat = us.length + 1 := by omega
  have e3 : min (us.length + 1) (us.length + bs.length + 1) = us.length + 1 := by omega
  simp [e1, e2, e3]
theorem okBesides {f fv : Addr} {fd fdv : FuncData} (D : Fn K mg "besides_of" sBesides psV f fd) (X : Txt mg) (GL : Glb K mg) (DV : Fn K mg "views_in" sViewsIn psV fv fdv) : FnOk P w K mg base CX0 2 f fd psV spBesides := by
  have GV : FnOk P w K mg base CX0 1 fv fdv psV spViewsIn := okViewsIn DV GL
  refine D.F.ok (k := 1) scBesides (fun vs H Q E h => ?_) (fun cdv A outer s H vs Q E hr h => ?_)
  · obtain ⟨_, _, _, _, _, _, _, rfl, _⟩ := h
    rfl
  · obtain ⟨t, wd, us, bs, ws, w', m, rfl, ht, hl, hb, k⟩ := h
    refine ⟨_, (@pss_one _ _ _ (@ps_ret _ _ _ _ (@pe_slice _ _ _ _ _ _ _ _ _ _ sl_tupH (pv 0) (@po_some _ _ _ (@pe_op _ _ _ _ _ _ _ _ op_add pe_int (@pe_callB _ _ _ _ _ _ _ _ _ (lenK K) (by rfl) X.len b_len (@pa_cons _ _ _ _ _ (@pe_call _ _ _ _ _ _ _ _ _ _ _ _ _ _ _ _ GV hr rfl DV.m DV.F.kp DV.b .nil pass0 (@pa_cons _ _ _ _ _ (pv 0) pa_nil (by rfl)) (by decide) (by rfl) (by rfl)) pa_nil (by rfl)) (by decide) (by decide) (by rfl) (by rfl)))) po_none))), ?_⟩
    first | refine wV rfl ?_ | refine ⟨_, rfl, ?_⟩
    first | refine wV rfl ?_ | refine ⟨_, rfl, ?_⟩
    refine ⟨t, wd, us, bs, ws, w', m, rfl, ht, hl, hb, ?_⟩
    refine fun l H1 s1 e1 => ?_
    refine ⟨l, us, rfl, .inl (SqL.of e1), ?_⟩
    first | refine wI ?_ | refine wIc ?_ | refine ⟨_, _, rfl, rfl, ?_⟩
    first | refine wV rfl ?_ | refine ⟨_, rfl, ?_⟩
    refine ⟨t, _, rfl, s1 _ _ ht, fun p H2 s2 e2 => ?_⟩
    rw [cut_us] at e2
    exact k p H2 (s1.trans s2) e2
abbrev sWidthO : Stmt := top 20
abbrev psWidthO : List Str := ["word", "besides", "inner"]
def spWidthO : Sp := fun vs H Q _ => ∃ wd tb bs li ws w m, vs = [.str wd, .ref tb, .ref li] ∧ H tb = some (.tup bs) ∧ H li = some (.lst (ws.map V.int)) ∧ Bd H wd bs ws w m ∧ ∀ H', Same H H' → Q (.int w) H'
theorem scWidthO : FnScope psWidthO psWidthO (defScope sWidthO) := ⟨rfl, rfl, rfl, by decide +kernel, rfl, by decide +kernel, by decide +kernel⟩
theorem okWidthO {f : Addr} {fd : FuncData} (D : Fn K mg "width_over" sWidthO psWidthO f fd) (X : Txt mg) (GL : Glb K mg) : FnOk P w K mg base CX0 1 f fd psWidthO spWidthO := by
  obtain ⟨ao, mo, so⟩ := GL.gr
  refine D.F.ok scWidthO (fun vs H Q E h => ?_) (fun cdv A outer s H vs Q E hr h => ?_)
  · obtain ⟨_, _, _, _, _, _, _, rfl, _⟩ := h
    rfl
  · obtain ⟨wd, tb, bs, li, ws, w', m, rfl, hb, hi, hB, k⟩ := h
    refine ⟨_, (@pss_cons _ _ _ _ _ (@ps_if _ _ _ _ _ _ _ _ (@pt_cmpR _ _ _ _ _ _ _ _ op_eq (pv 0) pe_str (nomark _)) (@pss_one _ _ _ (@ps_ret _ _ _ _ (@pe_callB _ _ _ _ _ _ _ _ _ (lenK K) (by rfl) X.len b_len (@pa_cons _ _ _ _ _ (@pe_ix _ _ _ _ _ _ _ (ixT K) (pv 1) pe_int (fun _ _ => rfl)) pa_nil (by rfl)) (by decide) (by decide) (by rfl) (by rfl)))) pss_nil) (@pss_cons _ _ _ _ _ (@ps_if _ _ _ _ _ _ _ _ (@pt_cmpR _ _ _ _ _ _ _ _ (inK K) (pv 0) (@pe_tupS _ _ _ _ _ (@pa_cons _ _ _ _ _ pe_str (@pa_cons _ _ _ _ _ pe_str pa_nil (by rfl)) (by rfl))) (by with_unfolding_all rfl)) (@pss_one _ _ _ (@ps_ret _ _ _ _ (@pe_op _ _ _ _ _ _ _ _ op_add (@pe_ix _ _ _ _ _ _ _ (ixL K) (pv 2) pe_int (fun _ _ => rfl)) (@pe_ix _ _ _ _ _ _ _ (ixL K) (pv 2) pe_int (fun _ _ => rfl))))) pss_nil) (@pss_cons _ _ _ _ _ (@ps_if _ _ _ _ _ _ _ _ (@pt_cmpR _ _ _ _ _ _ _ _ (inK K) (pv 0) (@pe_glob _ _ (.ref ao) _ _ rfl mo rfl (by decide)) (by with_unfolding_all rfl)) (@pss_one _ _ _ (@ps_ret _ _ _ _ (@pe_op _ _ _ _ _ _ _ _ op_add (@pe_callB _ _ _ _ _ _ _ _ _ (lenK K) (by rfl) X.len b_len (@pa_cons _ _ _ _ _ (@pe_ix _ _ _ _ _ _ _ (ixT K) (pv 1) (@pe_un _ _ _ _ _ _ un_neg pe_int) (fun _ _ => rfl)) pa_nil (by rfl)) (by decide) (by decide) (by rfl) (by rfl)) pe_int))) pss_nil) (@pss_one _ _ _ (@ps_ret _ _ _ _ (@pe_ix _ _ _ _ _ _ _ (ixL K) (pv 2) pe_int (fun _ _ => rfl))))))), ?_⟩
    have end1 : ∀ {H1 : Hp}, Same H H1 → H1 li = some (.lst (ws.map V.int)) := fun s1 => s1 _ _ hi
    cases hB with
    | one ob =>
      cases ob with
      | sieve a b =>
        first | refine wN rfl (by decide +kernel) ?_ | refine ⟨_, rfl, rfl, _, rfl, iteQ (by decide +kernel) ?_⟩
        first | refine wV rfl ?_ | refine ⟨_, rfl, ?_⟩
        refine ⟨(by show 2 ≤ sizeLine; decide), ?_⟩
        refine fun pp H1 s1 e1 => ?_
        refine ⟨pp, _, rfl, .inr (SqT.of e1), rfl, rfl, _, rfl, ?_⟩
        refine iteQ (by decide +kernel) ?_
        first | refine wInN rfl (.inr (so _)) rfl rfl (by decide +kernel) ?_ | refine ⟨_, rfl, ao, _, rfl, .inr (so _), rfl, rfl, _, rfl, iteQ (by decide +kernel) ?_⟩
        have hi := end1 s1
        first | refine wL rfl (SqL.of hi) rfl ?_ | refine ⟨_, rfl, li, _, _, _, rfl, rfl, SqL.of hi, rfl, ?_⟩
        refine k _ s1
      | cols a b c d =>
        first | refine wY rfl (by decide +kernel) ?_ | refine ⟨_, rfl, rfl, _, rfl, iteP (by decide +kernel) ?_⟩
        first | refine wT rfl (SqT.of hb) rfl ?_ | refine ⟨_, rfl, tb, _, _, _, rfl, rfl, SqT.of hb, rfl, ?_⟩
        refine ⟨_, _, rfl, .inr (SqT.of a), k _ (Same.refl _)⟩
      | once =>
        first | refine wN rfl (by decide +kernel) ?_ | refine ⟨_, rfl, rfl, _, rfl, iteQ (by decide +kernel) ?_⟩
        first | refine wV rfl ?_ | refine ⟨_, rfl, ?_⟩
        refine ⟨(by show 2 ≤ sizeLine; decide), ?_⟩
        refine fun pp H1 s1 e1 => ?_
        refine ⟨pp, _, rfl, .inr (SqT.of e1), rfl, rfl, _, rfl, ?_⟩
        refine iteQ (by decide +kernel) ?_
        first | refine wInN rfl (.inr (so _)) rfl rfl (by decide +kernel) ?_ | refine ⟨_, rfl, ao, _, rfl, .inr (so _), rfl, rfl, _, rfl, iteQ (by decide +kernel) ?_⟩
        have hi := end1 s1
        first | refine wL rfl (SqL.of hi) rfl ?_ | refine ⟨_, rfl, li, _, _, _, rfl, rfl, SqL.of hi, rfl, ?_⟩
        refine k _ s1
      | count a =>
        obtain ⟨tn, rfl, hn, -⟩ := a
        first | refine wN rfl (by decide +kernel) ?_ | refine ⟨_, rfl, rfl, _, rfl, iteQ (by decide +kernel) ?_⟩
        first | refine wV rfl ?_ | refine ⟨_, rfl, ?_⟩
        refine ⟨(by show 2 ≤ sizeLine; decide), ?_⟩
        refine fun pp H1 s1 e1 => ?_
        refine ⟨pp, _, rfl, .inr (SqT.of e1), rfl, rfl, _, rfl, ?_⟩
        refine iteQ (by decide +kernel) ?_
        first | refine wInY rfl (.inr (so _)) rfl rfl (by decide +kernel) ?_ | refine ⟨_, rfl, ao, _, rfl, .inr (so _), rfl, rfl, _, rfl, iteP (by decide +kernel) ?_⟩
        have hb := s1 _ _ hb
        have := k _ s1
        first | refine wV rfl ?_ | refine ⟨_, rfl, ?_⟩
        first | refine wT rfl (SqT.of hb) rfl ?_ | refine ⟨_, rfl, tb, _, _, _, rfl, rfl, SqT.of hb, rfl, ?_⟩
        refine ⟨_, _, rfl, .inr (SqT.of (s1 _ _ hn)), _, _, rfl, rfl, by rw [List.length_map]; exact this⟩
      | grp a b c =>
        obtain ⟨tn, rfl, hn, -⟩ := c
        rcases a with rfl | rfl | rfl
        all_goals
          first | refine wN rfl (by decide +kernel) ?_ | refine ⟨_, rfl, rfl, _, rfl, iteQ (by decide +kernel) ?_⟩
          first | refine wV rfl ?_ | refine ⟨_, rfl, ?_⟩
          refine ⟨(by show 2 ≤ sizeLine; decide), ?_⟩
          refine fun pp H1 s1 e1 => ?_
          refine ⟨pp, _, rfl, .inr (SqT.of e1), rfl, rfl, _, rfl, ?_⟩
          refine iteQ (by decide +kernel) ?_
          first | refine wInY rfl (.inr (so _)) rfl rfl (by decide +kernel) ?_ | refine ⟨_, rfl, ao, _, rfl, .inr (so _), rfl, rfl, _, rfl, iteP (by decide +kernel) ?_⟩
          have hb := s1 _ _ hb
          have := k _ s1
          first | refine wV rfl ?_ | refine ⟨_, rfl, ?_⟩
          first | refine wT rfl (SqT.of hb) rfl ?_ | refine ⟨_, rfl, tb, _, _, _, rfl, rfl, SqT.of hb, rfl, ?_⟩
          refine ⟨_, _, rfl, .inr (SqT.of (s1 _ _ hn)), _, _, rfl, rfl, by rw [List.length_map]; exact this⟩
      | first a b =>
        first | refine wN rfl (by decide +kernel) ?_ | refine ⟨_, rfl, rfl, _, rfl, iteQ (by decide +kernel) ?_⟩
        first | refine wV rfl ?_ | refine ⟨_, rfl, ?_⟩
        refine ⟨(by show 2 ≤ sizeLine; decide), ?_⟩
        refine fun pp H1 s1 e1 => ?_
        refine ⟨pp, _, rfl, .inr (SqT.of e1), rfl, rfl, _, rfl, ?_⟩
        refine iteQ (by decide +kernel) ?_
        first | refine wInN rfl (.inr (so _)) rfl rfl (by decide +kernel) ?_ | refine ⟨_, rfl, ao, _, rfl, .inr (so _), rfl, rfl, _, rfl, iteQ (by decide +kernel) ?_⟩
        have hi := end1 s1
        first | refine wL rfl (SqL.of hi) rfl ?_ | refine ⟨_, rfl, li, _, _, _, rfl, rfl, SqL.of hi, rfl, ?_⟩
        refine k _ s1
    | two ob =>
      cases ob with
      | alike a =>
        rcases a with rfl | rfl | rfl | rfl
        all_goals
          first | refine wN rfl (by decide +kernel) ?_ | refine ⟨_, rfl, rfl, _, rfl, iteQ (by decide +kernel) ?_⟩
          first | refine wV rfl ?_ | refine ⟨_, rfl, ?_⟩
          refine ⟨(by show 2 ≤ sizeLine; decide), ?_⟩
          refine fun pp H1 s1 e1 => ?_
          refine ⟨pp, _, rfl, .inr (SqT.of e1), rfl, rfl, _, rfl, ?_⟩
          refine iteQ (by decide +kernel) ?_
          first | refine wInN rfl (.inr (so _)) rfl rfl (by decide +kernel) ?_ | refine ⟨_, rfl, ao, _, rfl, .inr (so _), rfl, rfl, _, rfl, iteQ (by decide +kernel) ?_⟩
          have hi := end1 s1
          first | refine wL rfl (SqL.of hi) rfl ?_ | refine ⟨_, rfl, li, _, _, _, rfl, rfl, SqL.of hi, rfl, ?_⟩
          refine k _ s1
      | join a b =>
        rcases a with rfl | rfl
        all_goals
          first | refine wN rfl (by decide +kernel) ?_ | refine ⟨_, rfl, rfl, _, rfl, iteQ (by decide +kernel) ?_⟩
          first | refine wV rfl ?_ | refine ⟨_, rfl, ?_⟩
          refine ⟨(by show 2 ≤ sizeLine; decide), ?_⟩
          refine fun pp H1 s1 e1 => ?_
          refine ⟨pp, _, rfl, .inr (SqT.of e1), rfl, rfl, _, rfl, ?_⟩
          refine iteP (by decide +kernel) ?_
          have hi := end1 s1
          first | refine wL rfl (SqL.of hi) rfl ?_ | refine ⟨_, rfl, li, _, _, _, rfl, rfl, SqL.of hi, rfl, ?_⟩
          first | refine wL rfl (SqL.of hi) rfl ?_ | refine ⟨_, rfl, li, _, _, _, rfl, rfl, SqL.of hi, rfl, ?_⟩
          first | refine wI ?_ | refine wIc ?_ | refine ⟨_, _, rfl, rfl, ?_⟩
          refine k _ s1
      | notin a =>
        first | refine wN rfl (by decide +kernel) ?_ | refine ⟨_, rfl, rfl, _, rfl, iteQ (by decide +kernel) ?_⟩
        first | refine wV rfl ?_ | refine ⟨_, rfl, ?_⟩
        refine ⟨(by show 2 ≤ sizeLine; decide), ?_⟩
        refine fun pp H1 s1 e1 => ?_
        refine ⟨pp, _, rfl, .inr (SqT.of e1), rfl, rfl, _, rfl, ?_⟩
        refine iteQ (by decide +kernel) ?_
        first | refine wInN rfl (.inr (so _)) rfl rfl (by decide +kernel) ?_ | refine ⟨_, rfl, ao, _, rfl, .inr (so _), rfl, rfl, _, rfl, iteQ (by decide +kernel) ?_⟩
        have hi := end1 s1
        first | refine wL rfl (SqL.of hi) rfl ?_ | refine ⟨_, rfl, li, _, _, _, rfl, rfl, SqL.of hi, rfl, ?_⟩
        refine k _ s1
end
end VK
namespace VK
open PySem PySem.Spec PyProof.Rows L2
section
variable {P : Program} {w : World} {K : PySem.W.Frag} {mg : Str → Option Value} {base : Heap}
abbrev sNameW : Stmt := top 22
abbrev psNameW : List Str := ["name", "widths"]
def spNameW : Sp := fun vs H Q _ => ∃ x a kvs w, vs = [.str x, .ref a] ∧ H a = some (.dK kvs) ∧ valV kvs (.inr x) = some w ∧ Q w H
theorem scNameW : FnScope psNameW psNameW (defScope sNameW) := ⟨rfl, rfl, rfl, by decide +kernel, rfl, by decide +kernel, by decide +kernel⟩
theorem okNameW {f : Addr} {fd : FuncData} (D : Fn K mg "name_width" sNameW psNameW f fd) : FnOk P w K mg base CX0 1 f fd psNameW spNameW := by
  refine D.F.ok scNameW (fun vs H Q E h => ?_) (fun cdv A outer s H vs Q E hr h => ?_)
  · obtain ⟨_, _, _, _, rfl, _⟩ := h
    rfl
  · obtain ⟨x, a, kvs, w', rfl, ha, hv, q⟩ := h
    refine ⟨_, (@pss_cons _ _ _ _ _ (@ps_if _ _ _ _ _ _ _ _ (@pt_cmp _ _ _ _ _ _ (@pc_dnotin _ _ _ _ _ (hu_of hr) (pv 0) (pv 1)) (by first | exact nobehind _ (by decide) (by decide) | rfl)) pss_never pss_nil) (@pss_one _ _ _ (@ps_ret _ _ _ _ (@pe_dget _ _ _ _ _ _ (hu_of hr) (pv 1) (pv 0) (fun _ _ => rfl))))), ?_⟩
    have hg := DGet.k (k := .inr x) ha
    rw [hv] at hg
    first | refine wV rfl ?_ | refine ⟨_, rfl, ?_⟩
    first | refine wV rfl ?_ | refine ⟨_, rfl, ?_⟩
    refine ⟨a, some w', rfl, hg, _, rfl, iteF ⟨_, rfl, _, rfl, a, w', rfl, hg, q⟩⟩
abbrev sWithN : Stmt := top 24
abbrev psWithN : List Str := ["known", "name", "thing"]
abbrev nWithN : List Str := ["known", "name", "thing", "wider"]
def spWithN : Sp := fun vs H Q _ => ∃ a kvs x v, vs = [.ref a, .str x, v] ∧ H a = some (.dK kvs) ∧ kvs.length < 1000 ∧ ∀ p H', Same H H' → H' p = some (.dK (putK kvs (.inr x) v)) → Q (.ref p) H'
theorem scWithN : FnScope nWithN psWithN (defScope sWithN) := ⟨rfl, rfl, rfl, by decide +kernel, rfl, by decide +kernel, by decide +kernel⟩
theorem okWithN {f : Addr} {fd : FuncData} (D : Fn K mg "with_name" sWithN psWithN f fd) (X : Txt mg) : FnOk P w K mg base CX0 1 f fd psWithN spWithN := by
  refine D.F.ok scWithN (fun vs H Q E h => ?_) (fun cdv A outer s H vs Q E hr h => ?_)
  · obtain ⟨_, _, _, _, rfl, _⟩ := h
    rfl
  · obtain ⟨a, kvs, x, v, rfl, ha, hz, k⟩ := h
    have nd := scWithN.nd
    refine ⟨_, (@pss_cons _ _ _ _ _ (@ps_set _ _ (3) _ _ _ _ nd rfl (Or.inl rfl) (@pe_callTy _ _ _ _ _ _ _ _ _ call_dcopy rfl X.dict b_dict (@pa_cons _ _ _ _ _ (pv 0) pa_nil (by rfl)) (by decide) (by decide) (by rfl) (by rfl)) (by rfl) (by first | exact .inl rfl | exact .inr rfl | assumption)) (@pss_cons _ _ _ _ _ (@ps_dput _ _ _ _ _ _ _ _ _ (hu_of hr) (pv 3) (pv 1) (pv 2) rfl) (@pss_one _ _ _ (@ps_ret _ _ _ _ (pv 3))))), ?_⟩
    first | refine wV rfl ?_ | refine ⟨_, rfl, ?_⟩
    refine ⟨a, kvs, rfl, ha, ?_⟩
    refine fun p hp => ?_
    first | refine wV rfl ?_ | refine ⟨_, rfl, ?_⟩
    first | refine wV rfl ?_ | refine ⟨_, rfl, ?_⟩
    first | refine wV rfl ?_ | refine ⟨_, rfl, ?_⟩
    refine ⟨p, _, rfl, DPut.k (k := .inr x) upd_same (small1000 (Nat.le_of_lt hz)), _, rfl, k p _ (fun c o e => ?_) upd_same⟩
    rw [upd_ne (ne_of_none e hp), upd_ne (ne_of_none e hp)]
    exact e
abbrev sAlikeC : Stmt := top 25
abbrev psAlikeC : List Str := ["one", "other"]
def spAlikeC : Sp := fun vs H Q _ => ∃ i : Int, vs = [.int i, .int i] ∧ Q .non H
theorem scAlikeC : FnScope psAlikeC psAlikeC (defScope sAlikeC) := ⟨rfl, rfl, rfl, by decide +kernel, rfl, by decide +kernel, by decide +kernel⟩
theorem okAlikeC {f : Addr} {fd : FuncData} (D : Fn K mg "check_alike" sAlikeC psAlikeC f fd) : FnOk P w K mg base CX0 1 f fd psAlikeC spAlikeC := by
  refine D.F.ok scAlikeC (fun vs H Q E h => ?_) (fun cdv A outer s H vs Q E hr h => ?_)
  · obtain ⟨_, rfl, _⟩ := h
    rfl
  · obtain ⟨i, rfl, q⟩ := h
    refine ⟨_, (@pss_one _ _ _ (@ps_if _ _ _ _ _ _ _ _ (@pt_cmpR _ _ _ _ _ _ _ _ op_ne (pv 0) (pv 1) (nomark _)) pss_never pss_nil)), ?_⟩
    first | refine wV rfl ?_ | refine ⟨_, rfl, ?_⟩
    first | refine wN rfl (by simp) ?_ | refine ⟨_, rfl, rfl, _, rfl, iteQ (by simp) ?_⟩
    refine q
theorem Tr.parts {n : Nat} {H : Hp} : ∀ {ts : List V} {qs : List PS'}, Paired (fun v q => Tr n H v q.1 q.2) ts qs → Parts (Tr n H) ts qs := fun {ts qs} h => by
  have hr : ∀ v ∈ ts, isR v = true := fun v hv => by
    induction h with
    | nil => cases hv
    | cons r _ ih =>
      rcases List.mem_cons.mp hv with rfl | hv
      · obtain ⟨t, xs, rfl, _⟩ := Tr.isTup r
        rfl
      · exact ih hv
  refine ⟨fun v hv => .inl (hr v hv), ?_⟩
  rw [List.filter_eq_self.mpr hr]
  exact h
theorem Tr.mono {H : Hp} : ∀ {n m : Nat} {v : V} {ps : List Int} {s : Int}, n ≤ m → Tr n H v ps s → Tr m H v ps s
  | n + 1, m + 1, v, ps, s, hm, h => by
    obtain ⟨t, w, xs, h1, h2, h3, q, h4, h5⟩ := h
    exact ⟨t, w, xs, h1, h2, h3, q, h4.imp fun _ _ _ z => Tr.mono (by omega) z, h5⟩
theorem Tr.up {H : Hp} {v : V} {ps : List Int} {s : Int} (h : Tr 4 H v ps s) : Tr 5 H v ps s := h.mono (by decide)
theorem listG {α : Type} {g : α → V} {qs : List α} {ys : List V} (hl : ys.length = qs.length) (h : ∀ (i : Nat) (y : V), ys[i]? = some y → ∃ q, qs[i]? = some q ∧ y = g q) : ys = qs.map g := by
  apply List.ext_getElem?
  intro i
  rw [List.getElem?_map]
  cases e : ys[i]? with
  | none =>
    have : qs[i]? = none := by rw [List.getElem?_eq_none_iff] at e ⊢; omega
    rw [this]; rfl
  | some y =>
    obtain ⟨q, h1, h2⟩ := h i y e
    rw [h1, h2]; rfl
theorem ints_of {w : Int} : ∀ {ys : List V}, (∀ (i : Nat) (y : V), ys[i]? = some y → ∃ p : Int, y = V.int p ∧ p < w) → ∃ ns : List Int, ys = ns.map V.int ∧ ∀ p ∈ ns, p < w
  | [], _ => ⟨[], rfl, nofun⟩
  | y :: ys, h => by
    obtain ⟨p, rfl, hp⟩ := h 0 y rfl
    obtain ⟨ns, rfl, hn⟩ := ints_of (ys := ys) fun i z e => h (i + 1) z (by simpa using e)
    exact ⟨p :: ns, rfl, fun q hq => by rcases List.mem_cons.mp hq with rfl | hq <;> first | exact hp | exact hn q hq⟩
abbrev sOwnPl : Stmt := top 28
abbrev nOwnPl : List Str := ["V", "word"]
def spOwnPl : Sp := fun vs H Q _ => ∃ t wd us bs ws w m, vs = [.ref t] ∧ H t = some (.tup (.str wd :: (us ++ bs))) ∧ us.length = ws.length ∧ Bd H wd bs ws w m ∧ inV (.str wd) paL = false ∧ ∀ l (ns : List Int) H', Same H H' → H' l = some (.lst (ns.map V.int)) → ns.length ≤ 300000 → (∀ p ∈ ns, ∃ w1, ws[0]? = some w1 ∧ p < w1) → Q (.ref l) H'
theorem scOwnPl : FnScope nOwnPl psV (defScope sOwnPl) := ⟨rfl, rfl, rfl, by decide +kernel, rfl, by decide +kernel, by decide +kernel⟩
theorem okOwnPl {f fP fW : Addr} {fd fdP fdW : FuncData} (D : Fn K mg "own_places" sOwnPl psV f fd) (X : Txt mg) (GL : Glb K mg) (DP : Fn K mg "places_in" sPlIn psPlIn fP fdP) (DW : Fn K mg "within" sWithin psWithin fW fdW) : FnOk P w K mg base CX0 7 f fd psV spOwnPl := by
  obtain ⟨ao, mo, so⟩ := GL.gr
  have GP : FnOk P w K mg base CX0 6 fP fdP psPlIn (spPlIn 5) := okPlIns X DP DW 5 (by decide)
  refine D.F.ok (k := 6) scOwnPl (fun vs H Q E h => ?_) (fun cdv A outer s H vs Q E hr h => ?_)
  · obtain ⟨_, _, _, _, _, _, _, rfl, _⟩ := h
    rfl
  · obtain ⟨t, wd, us, bs, ws, w', m, rfl, ht, hl, hb, hpa, k⟩ := h
    have nd := scOwnPl.nd
    refine ⟨_, (@pss_cons _ _ _ _ _ (@ps_set _ _ (1) _ _ _ _ nd rfl (Or.inl rfl) (@pe_ix _ _ _ _ _ _ _ (ixT K) (pv 0) pe_int (fun _ _ => rfl)) (by rfl) (by first | exact .inl rfl | exact .inr rfl | assumption)) (@pss_cons _ _ _ _ _ (@ps_if _ _ _ _ _ _ _ _ (@pt_cmpR _ _ _ _ _ _ _ _ op_eq (pv 1) pe_str (nomark _)) (@pss_one _ _ _ (@ps_ret _ _ _ _ (@pe_call _ _ _ _ _ _ _ _ _ _ _ _ _ _ _ _ GP hr rfl DP.m DP.F.kp DP.b .nil pass0 (@pa_cons _ _ _ _ _ (@pe_ix _ _ _ _ _ _ _ (ixT K) (pv 0) pe_int (fun _ _ => rfl)) pa_nil (by rfl)) (by decide) (by rfl) (by rfl)))) pss_nil) (@pss_cons _ _ _ _ _ (@ps_if _ _ _ _ _ _ _ _ (@pt_cmpR _ _ _ _ _ _ _ _ op_eq (pv 1) pe_str (nomark _)) (@pss_one _ _ _ (@ps_ret _ _ _ _ (@pe_call _ _ _ _ _ _ _ _ _ _ _ _ _ _ _ _ GP hr rfl DP.m DP.F.kp DP.b .nil pass0 (@pa_cons _ _ _ _ _ (@pe_op _ _ _ _ _ _ _ _ op_catH (@pe_tupS _ _ _ _ _ (@pa_cons _ _ _ _ _ (pv 1) pa_nil (by rfl))) (@pe_ix _ _ _ _ _ _ _ (ixT K) (pv 0) pe_int (fun _ _ => rfl))) pa_nil (by rfl)) (by decide) (by rfl) (by rfl)))) pss_nil) (@pss_cons _ _ _ _ _ (@ps_if _ _ _ _ _ _ _ _ (@pt_cmpR _ _ _ _ _ _ _ _ op_eq (pv 1) pe_str (nomark _)) (@pss_one _ _ _ (@ps_ret _ _ _ _ (@pe_callTy _ _ _ _ _ _ _ _ _ (lstK K) rfl X.list b_list (@pa_cons _ _ _ _ _ (@pe_ix _ _ _ _ _ _ _ (ixT K) (pv 0) pe_int (fun _ _ => rfl)) pa_nil (by rfl)) (by decide) (by decide) (by rfl) (by rfl)))) pss_nil) (@pss_cons _ _ _ _ _ (@ps_if _ _ _ _ _ _ _ _ (@pt_cmpR _ _ _ _ _ _ _ _ (inK K) (pv 1) (@pe_glob _ _ (.ref ao) _ _ rfl mo rfl (by decide)) (by with_unfolding_all rfl)) (@pss_one _ _ _ (@ps_ret _ _ _ _ (@pe_op _ _ _ _ _ _ _ _ op_catS (@pe_lstS _ _ _ _ (@pa_cons _ _ _ _ _ (@pe_ix _ _ _ _ _ _ _ (ixT K) (pv 0) pe_int (fun _ _ => rfl)) pa_nil (by rfl))) (@pe_callTy _ _ _ _ _ _ _ _ _ (lstK K) rfl X.list b_list (@pa_cons _ _ _ _ _ (@pe_ix _ _ _ _ _ _ _ (ixT K) (pv 0) pe_int (fun _ _ => rfl)) pa_nil (by rfl)) (by decide) (by decide) (by rfl) (by rfl))))) pss_nil) (@pss_cons _ _ _ _ _ (@ps_if _ _ _ _ _ _ _ _ (@pt_cmpR _ _ _ _ _ _ _ _ op_eq (pv 1) pe_str (nomark _)) (@pss_one _ _ _ (@ps_ret _ _ _ _ (@pe_op _ _ _ _ _ _ _ _ op_catS (@pe_callTy _ _ _ _ _ _ _ _ _ (lstK K) rfl X.list b_list (@pa_cons _ _ _ _ _ (@pe_ix _ _ _ _ _ _ _ (ixT K) (pv 0) pe_int (fun _ _ => rfl)) pa_nil (by rfl)) (by decide) (by decide) (by rfl) (by rfl)) (@pe_comp _ _ _ _ _ _ _ (gTup K 2 (gCons (gName 0) (gCons (gName 1) gNil))) (tVar 0) (["p", "rising"]) ([]) (defScope sOwnPl) (nOwnPl) rfl rfl ⟨rfl, by decide +kernel, by decide +kernel, by decide +kernel, by decide +kernel⟩ rfl (@pi_tup _ _ _ _ (@pe_ix _ _ _ _ _ _ _ (ixT K) (pv 0) pe_int (fun _ _ => rfl))) (fun s H fp => pg_tup rfl (@pgs_cons _ _ _ _ _ (@pg_name _ _ (0) _ (show (["p", "rising"] : List Str).Nodup by decide +kernel) rfl (Or.inl rfl) (Or.inr rfl)) (@pgs_cons _ _ _ _ _ (@pg_name _ _ (1) _ (show (["p", "rising"] : List Str).Nodup by decide +kernel) rfl (Or.inl rfl) (Or.inr rfl)) pgs_nil (by rfl)) (by rfl))) (fun s H fp => (pv 0)) (by intro _; rfl))))) pss_nil) (@pss_one _ _ _ (@ps_ret _ _ _ _ (@pe_lstS _ _ _ _ pa_nil))))))))), ?_⟩
    have l1 : 1 ≤ sizeLine := by decide
    cases hb with
    | one ob =>
      match us, hl with
      | [v1], _ =>
      cases ob with
      | @sieve v ps w m a b =>
        first | refine wT rfl (SqT.of ht) rfl ?_ | refine ⟨_, rfl, t, _, _, _, rfl, rfl, SqT.of ht, rfl, ?_⟩
        first | refine wY rfl (by decide +kernel) ?_ | refine ⟨_, rfl, rfl, _, rfl, iteP (by decide +kernel) ?_⟩
        first | refine wT rfl (SqT.of ht) rfl ?_ | refine ⟨_, rfl, t, _, _, _, rfl, rfl, SqT.of ht, rfl, ?_⟩
        refine ⟨v, ps, m, rfl, a.up, ?_⟩
        refine fun l H1 s1 hl e1 => ?_
        exact k l ps H1 s1 e1 (Nat.le_trans a.few (by decide)) fun p hp => ⟨_, rfl, b p hp⟩
      | @cols c ts qs w a b hq d =>
        first | refine wT rfl (SqT.of ht) rfl ?_ | refine ⟨_, rfl, t, _, _, _, rfl, rfl, SqT.of ht, rfl, ?_⟩
        first | refine wN rfl (by decide +kernel) ?_ | refine ⟨_, rfl, rfl, _, rfl, iteQ (by decide +kernel) ?_⟩
        first | refine wY rfl (by decide +kernel) ?_ | refine ⟨_, rfl, rfl, _, rfl, iteP (by decide +kernel) ?_⟩
        first | refine wV rfl ?_ | refine ⟨_, rfl, ?_⟩
        refine ⟨l1, ?_⟩
        refine fun p1 H1 s1 e1 => ?_
        have ht1 := s1 _ _ ht
        first | refine wT rfl (SqT.of ht1) rfl ?_ | refine ⟨_, rfl, t, _, _, _, rfl, rfl, SqT.of ht1, rfl, ?_⟩
        refine ⟨p1, c, _, _, rfl, rfl, e1, s1 _ _ a, (by show 1 + ts.length ≤ sizeLine; exact Nat.le_trans (Nat.add_le_add_left b 1) (by decide)), fun p2 H2 s2 e2 => ?_⟩
        have hq2 : Paired (fun v q => Tr 4 H2 v q.1 q.2) ts qs := Paired.mapP hq fun _ _ z => z.same (s1.trans s2)
        have hT : Tr 5 H2 (.ref p2) (flat qs) (1 + tot qs) := ⟨p2, "cols", ts, rfl, e2, b, qs, Tr.parts hq2, rfl, .inr ⟨by decide +kernel, rfl⟩⟩
        refine ⟨_, _, _, rfl, hT, fun l H3 s3 hl e3 => ?_⟩
        exact k l (flat qs) H3 (s1.trans (s2.trans s3)) e3 (Nat.le_trans hT.few (by decide)) fun p hp => ⟨_, rfl, d p hp⟩
      | once =>
        first | refine wT rfl (SqT.of ht) rfl ?_ | refine ⟨_, rfl, t, _, _, _, rfl, rfl, SqT.of ht, rfl, ?_⟩
        first | refine wN rfl (by decide +kernel) ?_ | refine ⟨_, rfl, rfl, _, rfl, iteQ (by decide +kernel) ?_⟩
        first | refine wN rfl (by decide +kernel) ?_ | refine ⟨_, rfl, rfl, _, rfl, iteQ (by decide +kernel) ?_⟩
        first | refine wN rfl (by decide +kernel) ?_ | refine ⟨_, rfl, rfl, _, rfl, iteQ (by decide +kernel) ?_⟩
        first | refine wInN rfl (.inr (so _)) rfl rfl (by decide +kernel) ?_ | refine ⟨_, rfl, ao, _, rfl, .inr (so _), rfl, rfl, _, rfl, iteQ (by decide +kernel) ?_⟩
        first | refine wN rfl (by decide +kernel) ?_ | refine ⟨_, rfl, rfl, _, rfl, iteQ (by decide +kernel) ?_⟩
        refine ⟨Nat.zero_le _, ?_⟩
        refine fun l H1 s1 e1 => ?_
        refine k l [] H1 s1 e1 (by decide) nofun
      | @count v ns w a =>
        obtain ⟨tn, rfl, hn, hz, hlt⟩ := a
        first | refine wT rfl (SqT.of ht) rfl ?_ | refine ⟨_, rfl, t, _, _, _, rfl, rfl, SqT.of ht, rfl, ?_⟩
        first | refine wN rfl (by decide +kernel) ?_ | refine ⟨_, rfl, rfl, _, rfl, iteQ (by decide +kernel) ?_⟩
        first | refine wN rfl (by decide +kernel) ?_ | refine ⟨_, rfl, rfl, _, rfl, iteQ (by decide +kernel) ?_⟩
        first | refine wY rfl (by decide +kernel) ?_ | refine ⟨_, rfl, rfl, _, rfl, iteP (by decide +kernel) ?_⟩
        first | refine wT rfl (SqT.of ht) rfl ?_ | refine ⟨_, rfl, t, _, _, _, rfl, rfl, SqT.of ht, rfl, ?_⟩
        refine ⟨tn, _, rfl, .inr (SqT.of hn), ?_⟩
        refine fun l hl => ?_
        exact k l ns _ ((Same.refl H).upd hl) upd_same (by omega) fun p hp => ⟨_, rfl, hlt p hp⟩
      | @grp wd v ns w p0 a b c =>
        obtain ⟨tn, rfl, hn, hz, hlt⟩ := c
        rcases a with rfl | rfl | rfl
        all_goals
          first | refine wT rfl (SqT.of ht) rfl ?_ | refine ⟨_, rfl, t, _, _, _, rfl, rfl, SqT.of ht, rfl, ?_⟩
          first | refine wN rfl (by decide +kernel) ?_ | refine ⟨_, rfl, rfl, _, rfl, iteQ (by decide +kernel) ?_⟩
          first | refine wN rfl (by decide +kernel) ?_ | refine ⟨_, rfl, rfl, _, rfl, iteQ (by decide +kernel) ?_⟩
          first | refine wN rfl (by decide +kernel) ?_ | refine ⟨_, rfl, rfl, _, rfl, iteQ (by decide +kernel) ?_⟩
          first | refine wInY rfl (.inr (so _)) rfl rfl (by decide +kernel) ?_ | refine ⟨_, rfl, ao, _, rfl, .inr (so _), rfl, rfl, _, rfl, iteP (by decide +kernel) ?_⟩
          first | refine wT rfl (SqT.of ht) rfl ?_ | refine ⟨_, rfl, t, _, _, _, rfl, rfl, SqT.of ht, rfl, ?_⟩
          refine ⟨l1, ?_⟩
          refine fun p1 H1 s1 e1 => ?_
          have ht1 := s1 _ _ ht
          first | refine wT rfl (SqT.of ht1) rfl ?_ | refine ⟨_, rfl, t, _, _, _, rfl, rfl, SqT.of ht1, rfl, ?_⟩
          refine ⟨tn, _, rfl, .inr (SqT.of (s1 _ _ hn)), ?_⟩
          refine fun l hl => ?_
          refine ⟨p1, l, _, _, rfl, rfl, ((Same.refl H1).upd hl) _ _ e1, upd_same, ?_, fun p2 H2 s2 e2 => ?_⟩
          · rw [List.length_map]
            exact Nat.le_trans (show 1 + ns.length ≤ 13 by omega) (by decide)
          · exact k p2 (p0 :: ns) H2 (s1.trans (((Same.refl H1).upd hl).trans s2)) e2 (by rw [List.length_cons]; omega) fun p hp => ⟨_, rfl, by rcases List.mem_cons.mp hp with rfl | hp <;> first | exact b | exact hlt p hp⟩
      | @first k0 v ns w u os a b =>
        obtain ⟨tn, rfl, hn, hz, hlt⟩ := a
        obtain ⟨to, xs, rfl, ho, hz2, hp2, hlt2⟩ := b
        first | refine wT rfl (SqT.of ht) rfl ?_ | refine ⟨_, rfl, t, _, _, _, rfl, rfl, SqT.of ht, rfl, ?_⟩
        first | refine wN rfl (by decide +kernel) ?_ | refine ⟨_, rfl, rfl, _, rfl, iteQ (by decide +kernel) ?_⟩
        first | refine wN rfl (by decide +kernel) ?_ | refine ⟨_, rfl, rfl, _, rfl, iteQ (by decide +kernel) ?_⟩
        first | refine wN rfl (by decide +kernel) ?_ | refine ⟨_, rfl, rfl, _, rfl, iteQ (by decide +kernel) ?_⟩
        first | refine wInN rfl (.inr (so _)) rfl rfl (by decide +kernel) ?_ | refine ⟨_, rfl, ao, _, rfl, .inr (so _), rfl, rfl, _, rfl, iteQ (by decide +kernel) ?_⟩
        first | refine wY rfl (by decide +kernel) ?_ | refine ⟨_, rfl, rfl, _, rfl, iteP (by decide +kernel) ?_⟩
        first | refine wT rfl (SqT.of ht) rfl ?_ | refine ⟨_, rfl, t, _, _, _, rfl, rfl, SqT.of ht, rfl, ?_⟩
        refine ⟨tn, _, rfl, .inr (SqT.of hn), ?_⟩
        refine fun l hl => ?_
        have s1 : Same H (upd H l (.lst (ns.map V.int))) := (Same.refl H).upd hl
        have e1 : (upd H l (.lst (ns.map V.int))) l = some (.lst (ns.map V.int)) := upd_same
        generalize upd H l (.lst (ns.map V.int)) = H1 at s1 e1 ⊢
        have ht1 := s1 _ _ ht
        have ho1 := s1 _ _ ho
        have hx : xs.length ≤ 12 := by have := Paired.length hp2; omega
        first | refine wT rfl (SqT.of ht1) rfl ?_ | refine ⟨_, rfl, t, _, _, _, rfl, rfl, SqT.of ht1, rfl, ?_⟩
        refine ⟨to, rfl, ⟨_, SqT.of ho1⟩, ?_⟩
        refine fun l2 hl2 => ?_
        refine comp_T (K := K) ho1 (fun σ => ∃ a b, σ = [a, b]) (fun i y H => ∃ p : Int, y = .int p ∧ p < w') (fun _ _ _ _ _ z => z) (by omega) hl2 ⟨_, _, rfl⟩ ?_ ?_
        · rintro C i σ H2 x ex s2 ⟨x1, x2, rfl⟩ kk
          obtain ⟨y, ey, u, rfl, hu⟩ := pair_at hp2 ex
          refine ⟨u, _, rfl, SqT.of (s2 _ _ (s1 _ _ hu)), rfl, _, _, rfl, _, _, rfl, rfl, _, rfl, ?_⟩
          exact kk _ _ _ (Same.refl _) ⟨_, _, rfl⟩ ⟨_, rfl, hlt2 _ (List.mem_of_getElem? ey)⟩
        · intro H2 ys s2 e2 hyl hyr
          obtain ⟨ns2, rfl, hn2⟩ := ints_of hyr
          rw [List.length_map] at hyl
          refine ⟨l, l2, _, _, rfl, rfl, s2 _ _ e1, e2, ?_, fun p2 H3 s3 e3 => ?_⟩
          · rw [List.length_map, List.length_map]
            exact Nat.le_trans (show ns.length + ns2.length ≤ 24 by omega) (by decide)
          · rw [← List.map_append] at e3
            exact k p2 (ns ++ ns2) H3 (s1.trans (s2.trans s3)) e3 (by rw [List.length_append]; omega) fun p hp => ⟨_, rfl, by rcases List.mem_append.mp hp with hp | hp <;> first | exact hlt p hp | exact hn2 p hp⟩
    | two ob =>
      match us, hl with
      | [v1, v2], _ =>
      cases ob with
      | alike a =>
        rcases a with rfl | rfl | rfl | rfl
        all_goals
          first | refine wT rfl (SqT.of ht) rfl ?_ | refine ⟨_, rfl, t, _, _, _, rfl, rfl, SqT.of ht, rfl, ?_⟩
          first | refine wN rfl (by decide +kernel) ?_ | refine ⟨_, rfl, rfl, _, rfl, iteQ (by decide +kernel) ?_⟩
          first | refine wN rfl (by decide +kernel) ?_ | refine ⟨_, rfl, rfl, _, rfl, iteQ (by decide +kernel) ?_⟩
          first | refine wN rfl (by decide +kernel) ?_ | refine ⟨_, rfl, rfl, _, rfl, iteQ (by decide +kernel) ?_⟩
          first | refine wInN rfl (.inr (so _)) rfl rfl (by decide +kernel) ?_ | refine ⟨_, rfl, ao, _, rfl, .inr (so _), rfl, rfl, _, rfl, iteQ (by decide +kernel) ?_⟩
          first | refine wN rfl (by decide +kernel) ?_ | refine ⟨_, rfl, rfl, _, rfl, iteQ (by decide +kernel) ?_⟩
          refine ⟨Nat.zero_le _, ?_⟩
          refine fun l H1 s1 e1 => ?_
          refine k l [] H1 s1 e1 (by decide) nofun
      | join a b =>
        rcases a with rfl | rfl <;> exact absurd hpa (by decide +kernel)
      | notin a => exact absurd hpa (by decide +kernel)
end
end VK
namespace VK
open PySem PySem.Spec PyProof.Rows L2
section
variable {P : Program} {w : World} {K : PySem.W.Frag} {mg : Str → Option Value} {base : Heap}
def PlOk (H : Hp) (ws : List Int) (x : V) : Prop := ∃ (u : Addr) (i p w1 : Int), x = .ref u ∧ H u = some (.tup [.int i, .int p]) ∧ atI (ws.map V.int) i = some (.int w1) ∧ p < w1
theorem PlOk.same {H H' : Hp} (e : SameT H H') {ws : List Int} {x : V} : PlOk H ws x → PlOk H' ws x := fun ⟨u, i, p, w1, h1, h2, h3⟩ => ⟨u, i, p, w1, h1, e _ _ h2, h3⟩
abbrev sPlOf : Stmt := top 27
abbrev nPlOf : List Str := ["V", "places", "p", "q"]
def spPlOf : Sp := fun vs H Q _ => ∃ t wd us bs ws w m, vs = [.ref t] ∧ H t = some (.tup (.str wd :: (us ++ bs))) ∧ us.length = ws.length ∧ Bd H wd bs ws w m ∧ ∀ l xs H', Same H H' → H' l = some (.lst xs) → xs.length ≤ 300000 → (∀ x ∈ xs, PlOk H' ws x) → Q (.ref l) H'
theorem scPlOf : FnScope nPlOf psV (defScope sPlOf) := ⟨rfl, rfl, rfl, by decide +kernel, rfl, by decide +kernel, by decide +kernel⟩
theorem okPlOf {f fO fP fW : Addr} {fd fdO fdP fdW : FuncData} (D : Fn K mg "places_of" sPlOf psV f fd) (X : Txt mg) (GL : Glb K mg) (DO : Fn K mg "own_places" sOwnPl psV fO fdO) (DP : Fn K mg "places_in" sPlIn psPlIn fP fdP) (DW : Fn K mg "within" sWithin psWithin fW fdW) : FnOk P w K mg base CX0 8 f fd psV spPlOf := by
  obtain ⟨ao, mo, so⟩ := GL.pa
  have GO : FnOk P w K mg base CX0 7 fO fdO psV spOwnPl := okOwnPl DO X GL DP DW
  refine D.F.ok (k := 7) scPlOf (fun vs H Q E h => ?_) (fun cdv A outer s H vs Q E hr h => ?_)
  · obtain ⟨_, _, _, _, _, _, _, rfl, _⟩ := h
    rfl
  · obtain ⟨t, wd, us, bs, ws, w', m, rfl, ht, hl, hb, k⟩ := h
    have nd := scPlOf.nd
    refine ⟨_, (@pss_cons _ _ _ _ _ (@ps_if _ _ _ _ _ _ _ _ (@pt_cmpR _ _ _ _ _ _ _ _ (inK K) (@pe_ix _ _ _ _ _ _ _ (ixT K) (pv 0) pe_int (fun _ _ => rfl)) (@pe_glob _ _ (.ref ao) _ _ rfl mo rfl (by decide)) (by with_unfolding_all rfl)) (@pss_cons _ _ _ _ _ (@ps_set _ _ (1) _ _ _ _ nd rfl (Or.inl rfl) (@pe_lst _ _ _ _ pa_nil) (by rfl) (by first | exact .inl rfl | exact .inr rfl | assumption)) (@pss_cons _ _ _ _ _ (@ps_for _ _ _ _ _ _ _ _ PassesOwn.never rfl (@pi_tup _ _ _ _ (@pe_ix _ _ _ _ _ _ _ (ixT K) (pv 0) pe_int (fun _ _ => rfl))) (@pg_tup _ _ _ _ _ _ rfl (@pgs_cons _ _ _ _ _ (@pg_name _ _ (2) _ nd rfl (Or.inl rfl) (by first | exact .inl rfl | exact .inr rfl | assumption)) (@pgs_cons _ _ _ _ _ (@pg_name _ _ (3) _ nd rfl (Or.inl rfl) (by first | exact .inl rfl | exact .inr rfl | assumption)) pgs_nil (by rfl)) (by rfl)) (by rfl) (by rfl)) (@pss_one _ _ _ (@ps_expr _ _ _ _ (@pe_bm _ _ _ _ _ _ _ _ _ _ _ _ PySem.F.plainAttrs_list PySem.F.slot_list_extend PySem.F.type_list_extend mt_extend (pv 1) (@pa_cons _ _ _ _ _ (@pe_lstS _ _ _ _ (@pa_cons _ _ _ _ _ (@pe_tupS _ _ _ _ _ (@pa_cons _ _ _ _ _ pe_int (@pa_cons _ _ _ _ _ (pv 2) pa_nil (by rfl)) (by rfl))) (@pa_cons _ _ _ _ _ (@pe_tupS _ _ _ _ _ (@pa_cons _ _ _ _ _ pe_int (@pa_cons _ _ _ _ _ (pv 3) pa_nil (by rfl)) (by rfl))) pa_nil (by rfl)) (by rfl))) pa_nil (by rfl)) (by rfl) (by rfl) (by rfl) (by rfl) (by rfl)) (by rfl))) (by intro _; rfl)) (@pss_one _ _ _ (@ps_ret _ _ _ _ (pv 1))))) pss_nil) (@pss_one _ _ _ (@ps_ret _ _ _ _ (@pe_comp _ _ _ _ _ _ _ _ (tTupS (tCons (tC (V.int 0)) (tCons (tVar 0) tNil))) (["place"]) ([]) (defScope sPlOf) (nPlOf) rfl rfl ⟨rfl, by decide +kernel, by decide +kernel, by decide +kernel, by decide +kernel⟩ rfl (@pi_list _ _ _ _ (@pe_call _ _ _ _ _ _ _ _ _ _ _ _ _ _ _ _ GO hr rfl DO.m DO.F.kp DO.b .nil pass0 (@pa_cons _ _ _ _ _ (pv 0) pa_nil (by rfl)) (by decide) (by rfl) (by rfl))) (fun s H fp => pg_name (i := 0) (show (["place"] : List Str).Nodup by decide +kernel) rfl (Or.inl rfl) (Or.inr rfl)) (fun s H fp => (@pe_tupS _ _ _ _ _ (@pa_cons _ _ _ _ _ pe_int (@pa_cons _ _ _ _ _ (pv 0) pa_nil (by rfl)) (by rfl)))) (by intro _; rfl))))), ?_⟩
    have l2 : 2 ≤ sizeLine := by decide
    by_cases hpa : inV (.str wd) paL = true
    · have hT : ∃ v1 v2 v ps w1 w2, us = [v1, v2] ∧ bs = [v] ∧ ws = [w1, w2] ∧ Prs H v ps w1 w2 := by
        cases hb with
        | one ob => rw [ob.word.2.2.2.1] at hpa; cases hpa
        | two ob =>
          match us, hl with
          | [v1, v2], _ =>
          cases ob with
          | alike a => rcases a with rfl | rfl | rfl | rfl <;> exact absurd hpa (by decide +kernel)
          | join a b => exact ⟨_, _, _, _, _, _, rfl, rfl, rfl, b⟩
          | notin b => exact ⟨_, _, _, _, _, _, rfl, rfl, rfl, b⟩
      obtain ⟨v1, v2, v, ps, w1, w2, rfl, rfl, rfl, tp, xs, rfl, hp, hz, hpp, hlt⟩ := hT
      have hx : xs.length ≤ 12 := by have := Paired.length hpp; omega
      first | refine wT rfl (SqT.of ht) at0 ?_ | refine ⟨_, rfl, t, _, _, _, rfl, rfl, SqT.of ht, at0, ?_⟩
      refine ⟨ao, _, rfl, .inr (so _), rfl, rfl, _, rfl, ?_⟩
      refine iteP hpa ?_
      refine ⟨Nat.zero_le _, ?_⟩
      refine fun l hl => ?_
      have S1 : Same H (upd H l (.lst [])) := (Same.refl H).upd hl
      have ht1 := S1 _ _ ht
      first | refine wT rfl (SqT.of ht1) rfl ?_ | refine ⟨_, rfl, t, _, _, _, rfl, rfl, SqT.of ht1, rfl, ?_⟩
      refine ⟨tp, rfl, ⟨_, SqT.of (S1 _ _ hp)⟩, ?_⟩
      refine for_tup (K := K) (a := tp) (xs := xs) (fun i σ' H' => ∃ x2 x3 ys, σ' = [some (.ref t), some (.ref l), x2, x3] ∧ Same H H' ∧ H' l = some (.lst ys) ∧ ys.length = 2 * i ∧ ∀ x ∈ ys, PlOk H' [w1, w2] x) ⟨none, none, [], rfl, S1, upd_same, rfl, nofun⟩ (fun i σ' H' _ ⟨_, _, _, _, z, _⟩ => SqT.of (z _ _ hp)) ?_ ?_
      · rintro i x σ' H' ex ⟨x2, x3, ys, rfl, s2, hl2, hyl, hyr⟩
        have hi : i < xs.length := (List.getElem?_eq_some_iff.mp ex).1
        obtain ⟨y, ey, u, rfl, hu⟩ := pair_at hpp ex
        have hy := hlt y (List.mem_of_getElem? ey)
        refine ⟨u, _, rfl, SqT.of (s2 _ _ hu), rfl, _, _, rfl, _, _, rfl, rfl, ?_⟩
        first | refine wV rfl ?_ | refine ⟨_, rfl, ?_⟩
        refine ⟨.inl ⟨rfl, _, SqL.of hl2⟩, ?_⟩
        first | refine wV rfl ?_ | refine ⟨_, rfl, ?_⟩
        refine ⟨l2, ?_⟩
        refine fun p1 H3 s3 e3 => ?_
        first | refine wV rfl ?_ | refine ⟨_, rfl, ?_⟩
        refine ⟨l2, ?_⟩
        refine fun p2 H4 s4 e4 => ?_
        refine ⟨l2, ?_⟩
        refine fun l5 H5 s5 e5 => ?_
        have hl5 := s5 _ _ (s4 _ _ (s3 _ _ hl2))
        refine ⟨l, l5, _, _, rfl, rfl, hl5, e5, ?_, ?_⟩
        · refine Nat.le_trans (show ys.length + 2 ≤ 26 by omega) (by decide)
        · have sT : SameT H5 (upd H5 l (.lst (ys ++ [.ref p1, .ref p2]))) := SameT.updL hl5
          refine ⟨_, _, _, rfl, fun c o z => ?_, upd_same, by rw [List.length_append]; show _ + 2 = _; omega, fun x hx => ?_⟩
          · rw [upd_ne (ne_of_none z hl)]
            exact s5 _ _ (s4 _ _ (s3 _ _ (s2 c o z)))
          · rcases List.mem_append.mp hx with hx | hx
            · exact (hyr x hx).same ((s3.trans (s4.trans s5)).t.trans sT)
            · simp only [List.mem_cons, List.not_mem_nil, or_false] at hx
              rcases hx with rfl | rfl
              · refine ⟨p1, 0, y.1, w1, rfl, sT _ _ (s5 _ _ (s4 _ _ e3)), rfl, ?_⟩
                refine hy.1
              · refine ⟨p2, 1, y.2, w2, rfl, sT _ _ (s5 _ _ e4), rfl, ?_⟩
                refine hy.2
      · rintro σ' H' ⟨x2, x3, ys, rfl, s2, hl2, hyl, hyr⟩
        first | refine wV rfl ?_ | refine ⟨_, rfl, ?_⟩
        refine k l ys H' s2 hl2 (by omega) hyr
    · have hpa' : inV (.str wd) paL = false := by simpa using hpa
      first | refine wT rfl (SqT.of ht) at0 ?_ | refine ⟨_, rfl, t, _, _, _, rfl, rfl, SqT.of ht, at0, ?_⟩
      refine ⟨ao, _, rfl, .inr (so _), rfl, rfl, _, rfl, ?_⟩
      refine iteQ hpa' ?_
      first | refine wV rfl ?_ | refine ⟨_, rfl, ?_⟩
      refine ⟨t, wd, us, bs, ws, w', m, rfl, ht, hl, hb, hpa', ?_⟩
      refine fun lo ns H1 s1 e1 hn1 hn2 => ?_
      refine ⟨lo, rfl, ⟨_, SqL.of e1⟩, ?_⟩
      refine fun l hl => ?_
      refine comp_L (K := K) e1 (fun σ => ∃ a, σ = [a]) (fun i y H => PlOk H ws y) (fun _ _ _ _ z q => q.same z) (by rw [List.length_map]; exact hn1) hl ⟨_, rfl⟩ ?_ ?_
      · rintro C i σ H2 x ex s2 ⟨x1, rfl⟩ kk
        rw [List.getElem?_map] at ex
        obtain ⟨p, ep, rfl⟩ := Option.map_eq_some_iff.mp ex
        obtain ⟨w1, hw1, hlt⟩ := hn2 p (List.mem_of_getElem? ep)
        first | refine wV rfl ?_ | refine ⟨_, rfl, ?_⟩
        refine ⟨l2, ?_⟩
        refine fun p3 H3 s3 e3 => ?_
        refine kk _ _ _ s3 ⟨_, rfl⟩ ⟨p3, 0, p, w1, rfl, e3, ?_, hlt⟩
        refine atI_nat (j := 0) ?_
        rw [List.getElem?_map, hw1]
        rfl
      · intro H2 ys s2 e2 hyl hyr
        rw [List.length_map] at hyl
        refine k l ys H2 (s1.trans s2) e2 (by omega) fun x hx => ?_
        obtain ⟨i, hi⟩ := List.getElem?_of_mem hx
        exact hyr i x hi
abbrev sChPl : Stmt := top 26
abbrev psChPl : List Str := ["V", "inner"]
abbrev nChPl : List Str := ["V", "inner", "i", "place"]
def spChPl : Sp := fun vs H Q _ => ∃ t wd us bs ws w m li, vs = [.ref t, .ref li] ∧ H t = some (.tup (.str wd :: (us ++ bs))) ∧ us.length = ws.length ∧ Bd H wd bs ws w m ∧ H li = some (.lst (ws.map V.int)) ∧ ∀ H', Same H H' → Q .non H'
theorem scChPl : FnScope nChPl psChPl (defScope sChPl) := ⟨rfl, rfl, rfl, by decide +kernel, rfl, by decide +kernel, by decide +kernel⟩
theorem okChPl {f fC fO fP fW : Addr} {fd fdC fdO fdP fdW : FuncData} (D : Fn K mg "check_places" sChPl psChPl f fd) (X : Txt mg) (GL : Glb K mg) (DO : Fn K mg "places_of" sPlOf psV fC fdC) (DN : Fn K mg "own_places" sOwnPl psV fO fdO) (DP : Fn K mg "places_in" sPlIn psPlIn fP fdP) (DW : Fn K mg "within" sWithin psWithin fW fdW) : FnOk P w K mg base CX0 9 f fd psChPl spChPl := by
  have GO : FnOk P w K mg base CX0 8 fC fdC psV spPlOf := okPlOf DO X GL DN DP DW
  refine D.F.ok (k := 8) scChPl (fun vs H Q E h => ?_) (fun cdv A outer s H vs Q E hr h => ?_)
  · obtain ⟨_, _, _, _, _, _, _, _, rfl, _⟩ := h
    rfl
  · obtain ⟨t, wd, us, bs, ws, w', m, li, rfl, ht, hl, hb, hi, k⟩ := h
    have nd := scChPl.nd
    refine ⟨_, (@pss_one _ _ _ (@ps_for _ _ _ _ _ _ _ _ PassesOwn.never rfl (@pi_list _ _ _ _ (@pe_call _ _ _ _ _ _ _ _ _ _ _ _ _ _ _ _ GO hr rfl DO.m DO.F.kp DO.b .nil pass0 (@pa_cons _ _ _ _ _ (pv 0) pa_nil (by rfl)) (by decide) (by rfl) (by rfl))) (@pg_tup _ _ _ _ _ _ rfl (@pgs_cons _ _ _ _ _ (@pg_name _ _ (2) _ nd rfl (Or.inl rfl) (by first | exact .inl rfl | exact .inr rfl | assumption)) (@pgs_cons _ _ _ _ _ (@pg_name _ _ (3) _ nd rfl (Or.inl rfl) (by first | exact .inl rfl | exact .inr rfl | assumption)) pgs_nil (by rfl)) (by rfl)) (by rfl) (by rfl)) (@pss_one _ _ _ (@ps_if _ _ _ _ _ _ _ _ (@pt_cmpR _ _ _ _ _ _ _ _ op_ge (pv 3) (@pe_ix _ _ _ _ _ _ _ (ixL K) (pv 1) (pv 2) (fun _ _ => rfl)) (nomark _)) pss_never pss_nil)) (by intro _; rfl))), ?_⟩
    first | refine wV rfl ?_ | refine ⟨_, rfl, ?_⟩
    refine ⟨t, wd, us, bs, ws, w', m, rfl, ht, hl, hb, ?_⟩
    refine fun lo xs H1 s1 e1 hn1 hn2 => ?_
    refine ⟨lo, rfl, ⟨_, SqL.of e1⟩, ?_⟩
    refine for_list (K := K) (a := lo) (xs := xs) (fun i σ' H' => ∃ x2 x3, σ' = [some (.ref t), some (.ref li), x2, x3] ∧ Same H1 H') ⟨none, none, rfl, Same.refl _⟩ (fun i σ' H' _ ⟨_, _, _, z⟩ => SqL.of (z _ _ e1)) ?_ ?_
    · rintro i x σ' H' ex ⟨x2, x3, rfl, s2⟩
      obtain ⟨u, j, p, w1, rfl, hu, hj, hlt⟩ := hn2 x (List.mem_of_getElem? ex)
      refine ⟨u, _, rfl, SqT.of (s2 _ _ hu), rfl, _, _, rfl, _, _, rfl, rfl, ?_⟩
      first | refine wV rfl ?_ | refine ⟨_, rfl, ?_⟩
      first | refine wV rfl ?_ | refine ⟨_, rfl, ?_⟩
      first | refine wV rfl ?_ | refine ⟨_, rfl, ?_⟩
      refine ⟨li, _, j, .int w1, rfl, rfl, SqL.of (s2 _ _ (s1 _ _ hi)), hj, _, _, rfl, rfl, _, rfl, iteQ (decide_eq_false (by omega)) ⟨_, _, rfl, s2⟩⟩
    · rintro σ' H' ⟨x2, x3, rfl, s2⟩
      exact k H' (s1.trans s2)
abbrev sBSize : Stmt := top 30
def spBSize : Sp := fun vs H Q _ => ∃ t wd us bs ws w m, vs = [.ref t] ∧ H t = some (.tup (.str wd :: (us ++ bs))) ∧ us.length = ws.length ∧ Bd H wd bs ws w m ∧ ∀ H', Same H H' → Q (.int m) H'
theorem scBSize : FnScope nOwnPl psV (defScope sBSize) := ⟨rfl, rfl, rfl, by decide +kernel, rfl, by decide +kernel, by decide +kernel⟩
theorem okBSize {f fE fW : Addr} {fd fdE fdW : FuncData} (D : Fn K mg "besides_size" sBSize psV f fd) (X : Txt mg) (GL : Glb K mg) (DE : Fn K mg "expression_size" sESize psESize fE fdE) (DW : Fn K mg "within" sWithin psWithin fW fdW) : FnOk P w K mg base CX0 6 f fd psV spBSize := by
  obtain ⟨ao, mo, so⟩ := GL.gr
  obtain ⟨ap, mp, sp⟩ := GL.pa
  have GE : FnOk P w K mg base CX0 5 fE fdE psESize (spESize 4) := okESizes X DE DW 4
  refine D.F.ok (k := 5) scBSize (fun vs H Q E h => ?_) (fun cdv A outer s H vs Q E hr h => ?_)
  · obtain ⟨_, _, _, _, _, _, _, rfl, _⟩ := h
    rfl
  · obtain ⟨t, wd, us, bs, ws, w', m, rfl, ht, hl, hb, k⟩ := h
    have nd := scBSize.nd
    refine ⟨_, (@pss_cons _ _ _ _ _ (@ps_set _ _ (1) _ _ _ _ nd rfl (Or.inl rfl) (@pe_ix _ _ _ _ _ _ _ (ixT K) (pv 0) pe_int (fun _ _ => rfl)) (by rfl) (by first | exact .inl rfl | exact .inr rfl | assumption)) (@pss_cons _ _ _ _ _ (@ps_if _ _ _ _ _ _ _ _ (@pt_cmpR _ _ _ _ _ _ _ _ op_eq (pv 1) pe_str (nomark _)) (@pss_one _ _ _ (@ps_ret _ _ _ _ (@pe_call _ _ _ _ _ _ _ _ _ _ _ _ _ _ _ _ GE hr rfl DE.m DE.F.kp DE.b .nil pass0 (@pa_cons _ _ _ _ _ (@pe_ix _ _ _ _ _ _ _ (ixT K) (pv 0) pe_int (fun _ _ => rfl)) pa_nil (by rfl)) (by decide) (by rfl) (by rfl)))) pss_nil) (@pss_cons _ _ _ _ _ (@ps_if _ _ _ _ _ _ _ _ (@pt_cmpR _ _ _ _ _ _ _ _ op_eq (pv 1) pe_str (nomark _)) (@pss_one _ _ _ (@ps_ret _ _ _ _ (@pe_callB _ _ _ _ _ _ _ _ _ (sumK K rfl) (by rfl) X.sum b_sum (@pa_cons _ _ _ _ _ (@pe_comp _ _ _ _ _ _ _ _ (tCall (spESize 4) [] E0 (tCons (tVar 0) tNil)) (["E"]) ([]) (defScope sBSize) (nOwnPl) rfl rfl ⟨rfl, by decide +kernel, by decide +kernel, by decide +kernel, by decide +kernel⟩ rfl (@pi_tup _ _ _ _ (@pe_ix _ _ _ _ _ _ _ (ixT K) (pv 0) pe_int (fun _ _ => rfl))) (fun s H fp => pg_name (i := 0) (show (["E"] : List Str).Nodup by decide +kernel) rfl (Or.inl rfl) (Or.inr rfl)) (fun s H fp => pe_call GE hr rfl DE.m DE.F.kp DE.b .nil pass0 (@pa_cons _ _ _ _ _ (pv 0) pa_nil (by rfl))) (by intro _; rfl)) pa_nil (by rfl)) (by decide) (by decide) (by rfl) (by rfl)))) pss_nil) (@pss_cons _ _ _ _ _ (@ps_if _ _ _ _ _ _ _ _ (@pt_cmpR _ _ _ _ _ _ _ _ (inK K) (pv 1) (@pe_glob _ _ (.ref ap) _ _ rfl mp rfl (by decide)) (by with_unfolding_all rfl)) (@pss_one _ _ _ (@ps_ret _ _ _ _ (@pe_callB _ _ _ _ _ _ _ _ _ (lenK K) (by rfl) X.len b_len (@pa_cons _ _ _ _ _ (@pe_ix _ _ _ _ _ _ _ (ixT K) (pv 0) pe_int (fun _ _ => rfl)) pa_nil (by rfl)) (by decide) (by decide) (by rfl) (by rfl)))) pss_nil) (@pss_cons _ _ _ _ _ (@ps_if _ _ _ _ _ _ _ _ (@pt_cmpR _ _ _ _ _ _ _ _ (inK K) (pv 1) (@pe_glob _ _ (.ref ao) _ _ rfl mo rfl (by decide)) (by with_unfolding_all rfl)) (@pss_one _ _ _ (@ps_ret _ _ _ _ (@pe_callB _ _ _ _ _ _ _ _ _ (lenK K) (by rfl) X.len b_len (@pa_cons _ _ _ _ _ (@pe_ix _ _ _ _ _ _ _ (ixT K) (pv 0) (@pe_un _ _ _ _ _ _ un_neg pe_int) (fun _ _ => rfl)) pa_nil (by rfl)) (by decide) (by decide) (by rfl) (by rfl)))) pss_nil) (@pss_cons _ _ _ _ _ (@ps_if _ _ _ _ _ _ _ _ (@pt_cmpR _ _ _ _ _ _ _ _ op_eq (pv 1) pe_str (nomark _)) (@pss_one _ _ _ (@ps_ret _ _ _ _ (@pe_op _ _ _ _ _ _ _ _ op_add (@pe_callB _ _ _ _ _ _ _ _ _ (lenK K) (by rfl) X.len b_len (@pa_cons _ _ _ _ _ (@pe_ix _ _ _ _ _ _ _ (ixT K) (pv 0) pe_int (fun _ _ => rfl)) pa_nil (by rfl)) (by decide) (by decide) (by rfl) (by rfl)) (@pe_callB _ _ _ _ _ _ _ _ _ (lenK K) (by rfl) X.len b_len (@pa_cons _ _ _ _ _ (@pe_ix _ _ _ _ _ _ _ (ixT K) (pv 0) pe_int (fun _ _ => rfl)) pa_nil (by rfl)) (by decide) (by decide) (by rfl) (by rfl))))) pss_nil) (@pss_one _ _ _ (@ps_ret _ _ _ _ pe_int)))))))), ?_⟩
    cases hb with
    | one ob =>
      match us, hl with
      | [v1], _ =>
      cases ob with
      | @sieve v ps _ _ a b =>
        first | refine wT rfl (SqT.of ht) rfl ?_ | refine ⟨_, rfl, t, _, _, _, rfl, rfl, SqT.of ht, rfl, ?_⟩
        first | refine wY rfl (by decide +kernel) ?_ | refine ⟨_, rfl, rfl, _, rfl, iteP (by decide +kernel) ?_⟩
        first | refine wT rfl (SqT.of ht) rfl ?_ | refine ⟨_, rfl, t, _, _, _, rfl, rfl, SqT.of ht, rfl, ?_⟩
        refine ⟨v, ps, m, rfl, a, ?_⟩
        refine fun H1 s1 => ?_
        refine k H1 s1
      | @cols c ts qs _ a b hq d =>
        first | refine wT rfl (SqT.of ht) rfl ?_ | refine ⟨_, rfl, t, _, _, _, rfl, rfl, SqT.of ht, rfl, ?_⟩
        first | refine wN rfl (by decide +kernel) ?_ | refine ⟨_, rfl, rfl, _, rfl, iteQ (by decide +kernel) ?_⟩
        first | refine wY rfl (by decide +kernel) ?_ | refine ⟨_, rfl, rfl, _, rfl, iteP (by decide +kernel) ?_⟩
        first | refine wT rfl (SqT.of ht) rfl ?_ | refine ⟨_, rfl, t, _, _, _, rfl, rfl, SqT.of ht, rfl, ?_⟩
        refine ⟨c, rfl, ⟨_, SqT.of a⟩, ?_⟩
        refine fun l hl => ?_
        refine comp_T (K := K) a (fun σ => ∃ a, σ = [a]) (fun i y H => ∃ q, qs[i]? = some q ∧ y = .int q.2) (fun _ _ _ _ _ z => z) (by omega) hl ⟨_, rfl⟩ ?_ ?_
        · rintro C i σ H2 x ex s2 ⟨x1, rfl⟩ kk
          obtain ⟨y, ey, ry⟩ := pair_at hq ex
          first | refine wV rfl ?_ | refine ⟨_, rfl, ?_⟩
          refine ⟨x, y.1, y.2, rfl, ry.same s2, ?_⟩
          refine fun H3 s3 => ?_
          refine kk _ _ _ s3 ⟨_, rfl⟩ ⟨y, ey, rfl⟩
        · intro H2 ys s2 e2 hyl hyr
          have eS : ys = (qs.map (·.2)).map V.int := by rw [List.map_map]; exact listG (by rw [hyl]; exact Paired.length hq) hyr
          rw [eS] at e2
          refine ⟨l, _, rfl, SqL.of e2, k H2 s2⟩
      | once =>
        first | refine wT rfl (SqT.of ht) rfl ?_ | refine ⟨_, rfl, t, _, _, _, rfl, rfl, SqT.of ht, rfl, ?_⟩
        first | refine wN rfl (by decide +kernel) ?_ | refine ⟨_, rfl, rfl, _, rfl, iteQ (by decide +kernel) ?_⟩
        first | refine wN rfl (by decide +kernel) ?_ | refine ⟨_, rfl, rfl, _, rfl, iteQ (by decide +kernel) ?_⟩
        first | refine wInN rfl (.inr (sp _)) rfl rfl (by decide +kernel) ?_ | refine ⟨_, rfl, ap, _, rfl, .inr (sp _), rfl, rfl, _, rfl, iteQ (by decide +kernel) ?_⟩
        first | refine wInN rfl (.inr (so _)) rfl rfl (by decide +kernel) ?_ | refine ⟨_, rfl, ao, _, rfl, .inr (so _), rfl, rfl, _, rfl, iteQ (by decide +kernel) ?_⟩
        first | refine wN rfl (by decide +kernel) ?_ | refine ⟨_, rfl, rfl, _, rfl, iteQ (by decide +kernel) ?_⟩
        exact k H (Same.refl H)
      | @count v ns _ a =>
        obtain ⟨tn, rfl, hn, hz, hlt⟩ := a
        first | refine wT rfl (SqT.of ht) rfl ?_ | refine ⟨_, rfl, t, _, _, _, rfl, rfl, SqT.of ht, rfl, ?_⟩
        first | refine wN rfl (by decide +kernel) ?_ | refine ⟨_, rfl, rfl, _, rfl, iteQ (by decide +kernel) ?_⟩
        first | refine wN rfl (by decide +kernel) ?_ | refine ⟨_, rfl, rfl, _, rfl, iteQ (by decide +kernel) ?_⟩
        first | refine wInN rfl (.inr (sp _)) rfl rfl (by decide +kernel) ?_ | refine ⟨_, rfl, ap, _, rfl, .inr (sp _), rfl, rfl, _, rfl, iteQ (by decide +kernel) ?_⟩
        first | refine wInY rfl (.inr (so _)) rfl rfl (by decide +kernel) ?_ | refine ⟨_, rfl, ao, _, rfl, .inr (so _), rfl, rfl, _, rfl, iteP (by decide +kernel) ?_⟩
        have := k H (Same.refl H)
        first | refine wV rfl ?_ | refine ⟨_, rfl, ?_⟩
        first | refine wT rfl (SqT.of ht) rfl ?_ | refine ⟨_, rfl, t, _, _, _, rfl, rfl, SqT.of ht, rfl, ?_⟩
        refine ⟨tn, _, rfl, .inr (SqT.of hn), ?_⟩
        refine by rw [List.length_map]; exact this
      | @grp wd v ns _ p0 a b c =>
        obtain ⟨tn, rfl, hn, hz, hlt⟩ := c
        have := k H (Same.refl H)
        rcases a with rfl | rfl | rfl
        all_goals
          first | refine wT rfl (SqT.of ht) rfl ?_ | refine ⟨_, rfl, t, _, _, _, rfl, rfl, SqT.of ht, rfl, ?_⟩
          first | refine wN rfl (by decide +kernel) ?_ | refine ⟨_, rfl, rfl, _, rfl, iteQ (by decide +kernel) ?_⟩
          first | refine wN rfl (by decide +kernel) ?_ | refine ⟨_, rfl, rfl, _, rfl, iteQ (by decide +kernel) ?_⟩
          first | refine wInN rfl (.inr (sp _)) rfl rfl (by decide +kernel) ?_ | refine ⟨_, rfl, ap, _, rfl, .inr (sp _), rfl, rfl, _, rfl, iteQ (by decide +kernel) ?_⟩
          first | refine wInY rfl (.inr (so _)) rfl rfl (by decide +kernel) ?_ | refine ⟨_, rfl, ao, _, rfl, .inr (so _), rfl, rfl, _, rfl, iteP (by decide +kernel) ?_⟩
          first | refine wV rfl ?_ | refine ⟨_, rfl, ?_⟩
          first | refine wT rfl (SqT.of ht) rfl ?_ | refine ⟨_, rfl, t, _, _, _, rfl, rfl, SqT.of ht, rfl, ?_⟩
          refine ⟨tn, _, rfl, .inr (SqT.of hn), ?_⟩
          refine by rw [List.length_map]; exact this
      | @first k0 v ns _ u os a b =>
        obtain ⟨tn, rfl, hn, hz, hlt⟩ := a
        obtain ⟨to, xs, rfl, ho, hz2, hp2, hlt2⟩ := b
        have := k H (Same.refl H)
        first | refine wT rfl (SqT.of ht) rfl ?_ | refine ⟨_, rfl, t, _, _, _, rfl, rfl, SqT.of ht, rfl, ?_⟩
        first | refine wN rfl (by decide +kernel) ?_ | refine ⟨_, rfl, rfl, _, rfl, iteQ (by decide +kernel) ?_⟩
        first | refine wN rfl (by decide +kernel) ?_ | refine ⟨_, rfl, rfl, _, rfl, iteQ (by decide +kernel) ?_⟩
        first | refine wInN rfl (.inr (sp _)) rfl rfl (by decide +kernel) ?_ | refine ⟨_, rfl, ap, _, rfl, .inr (sp _), rfl, rfl, _, rfl, iteQ (by decide +kernel) ?_⟩
        first | refine wInN rfl (.inr (so _)) rfl rfl (by decide +kernel) ?_ | refine ⟨_, rfl, ao, _, rfl, .inr (so _), rfl, rfl, _, rfl, iteQ (by decide +kernel) ?_⟩
        first | refine wY rfl (by decide +kernel) ?_ | refine ⟨_, rfl, rfl, _, rfl, iteP (by decide +kernel) ?_⟩
        first | refine wT rfl (SqT.of ht) rfl ?_ | refine ⟨_, rfl, t, _, _, _, rfl, rfl, SqT.of ht, rfl, ?_⟩
        refine ⟨tn, _, rfl, .inr (SqT.of hn), ?_⟩
        first | refine wT rfl (SqT.of ht) rfl ?_ | refine ⟨_, rfl, t, _, _, _, rfl, rfl, SqT.of ht, rfl, ?_⟩
        refine ⟨to, _, rfl, .inr (SqT.of ho), ?_⟩
        first | refine wI ?_ | refine wIc ?_ | refine ⟨_, _, rfl, rfl, ?_⟩
        refine by rw [List.length_map, Paired.length hp2]; exact this
    | two ob =>
      match us, hl with
      | [v1, v2], _ =>
      cases ob with
      | alike a =>
        rcases a with rfl | rfl | rfl | rfl
        all_goals
          first | refine wT rfl (SqT.of ht) rfl ?_ | refine ⟨_, rfl, t, _, _, _, rfl, rfl, SqT.of ht, rfl, ?_⟩
          first | refine wN rfl (by decide +kernel) ?_ | refine ⟨_, rfl, rfl, _, rfl, iteQ (by decide +kernel) ?_⟩
          first | refine wN rfl (by decide +kernel) ?_ | refine ⟨_, rfl, rfl, _, rfl, iteQ (by decide +kernel) ?_⟩
          first | refine wInN rfl (.inr (sp _)) rfl rfl (by decide +kernel) ?_ | refine ⟨_, rfl, ap, _, rfl, .inr (sp _), rfl, rfl, _, rfl, iteQ (by decide +kernel) ?_⟩
          first | refine wInN rfl (.inr (so _)) rfl rfl (by decide +kernel) ?_ | refine ⟨_, rfl, ao, _, rfl, .inr (so _), rfl, rfl, _, rfl, iteQ (by decide +kernel) ?_⟩
          first | refine wN rfl (by decide +kernel) ?_ | refine ⟨_, rfl, rfl, _, rfl, iteQ (by decide +kernel) ?_⟩
          exact k H (Same.refl H)
      | join a b =>
        obtain ⟨tp, xs, rfl, hp, hz, hpp, hlt⟩ := b
        have := k H (Same.refl H)
        rcases a with rfl | rfl
        all_goals
          first | refine wT rfl (SqT.of ht) rfl ?_ | refine ⟨_, rfl, t, _, _, _, rfl, rfl, SqT.of ht, rfl, ?_⟩
          first | refine wN rfl (by decide +kernel) ?_ | refine ⟨_, rfl, rfl, _, rfl, iteQ (by decide +kernel) ?_⟩
          first | refine wN rfl (by decide +kernel) ?_ | refine ⟨_, rfl, rfl, _, rfl, iteQ (by decide +kernel) ?_⟩
          first | refine wInY rfl (.inr (sp _)) rfl rfl (by decide +kernel) ?_ | refine ⟨_, rfl, ap, _, rfl, .inr (sp _), rfl, rfl, _, rfl, iteP (by decide +kernel) ?_⟩
          first | refine wT rfl (SqT.of ht) rfl ?_ | refine ⟨_, rfl, t, _, _, _, rfl, rfl, SqT.of ht, rfl, ?_⟩
          refine ⟨tp, _, rfl, .inr (SqT.of hp), ?_⟩
          refine by rw [Paired.length hpp]; exact this
      | notin b =>
        obtain ⟨tp, xs, rfl, hp, hz, hpp, hlt⟩ := b
        have := k H (Same.refl H)
        first | refine wT rfl (SqT.of ht) rfl ?_ | refine ⟨_, rfl, t, _, _, _, rfl, rfl, SqT.of ht, rfl, ?_⟩
        first | refine wN rfl (by decide +kernel) ?_ | refine ⟨_, rfl, rfl, _, rfl, iteQ (by decide +kernel) ?_⟩
        first | refine wN rfl (by decide +kernel) ?_ | refine ⟨_, rfl, rfl, _, rfl, iteQ (by decide +kernel) ?_⟩
        first | refine wInY rfl (.inr (sp _)) rfl rfl (by decide +kernel) ?_ | refine ⟨_, rfl, ap, _, rfl, .inr (sp _), rfl, rfl, _, rfl, iteP (by decide +kernel) ?_⟩
        first | refine wT rfl (SqT.of ht) rfl ?_ | refine ⟨_, rfl, t, _, _, _, rfl, rfl, SqT.of ht, rfl, ?_⟩
        refine ⟨tp, _, rfl, .inr (SqT.of hp), ?_⟩
        refine by rw [Paired.length hpp]; exact this
end
end VK
namespace VK
open PySem PySem.Spec PyProof.Rows L2
section
variable {P : Program} {w : World} {K : PySem.W.Frag} {mg : Str → Option Value} {base : Heap}
theorem Bd.len {H : Hp} {wd : Str} {bs : List V} {ws : List Int} {w m : Int} (h : Bd H wd bs ws w m) : ws.length ≤ 2 := by
  cases h <;> simp
abbrev Env := Str → Option (Int × Int)
def Env.put (E : Env) (x : Str) (p : Int × Int) : Env := fun y => if y = x then some p else E y
def Vw : Nat → Hp → Env → V → Int → Int → Prop
  | 0, _, _, _, _, _ => False
  | n + 1, H, E, v, w, s => w ≤ 12 ∧ ∃ t, v = .ref t ∧
    ((∃ x, H t = some (.tup [.str "name", .str x]) ∧ E x = some (w, s)) ∨
     (∃ (wd : Str) (us bs : List V) (qs : List (Int × Int)) (m : Int), H t = some (.tup (.str wd :: (us ++ bs))) ∧ Paired (fun v q => Vw n H E v q.1 q.2) us qs ∧ Bd H wd bs (qs.map (·.1)) w m ∧ s = 1 + (qs.map (·.2)).sum + m) ∨
     (∃ (x : Str) (k : Int) (v1 v2 : V) (s1 s2 : Int), H t = some (.tup [.str "rounds", .str x, .int k, v1, v2]) ∧ 0 ≤ k ∧ k ≤ 64 ∧ E x = none ∧ Vw n H E v1 w s1 ∧ Vw n H (E.put x (w, 1)) v2 w s2 ∧ s = s1 + k * (2 + s2)))
theorem Vw.same {H H' : Hp} (e : SameT H H') {n : Nat} : ∀ {E : Env} {v : V} {w s : Int}, Vw n H E v w s → Vw n H' E v w s := by
  induction n with
  | zero => exact fun h => h
  | succ n ih =>
    intro E v w s h
    obtain ⟨hw, t, rfl, h⟩ := h
    refine ⟨hw, t, rfl, ?_⟩
    rcases h with ⟨x, h1, h2⟩ | ⟨wd, us, bs, qs, m, h1, h2, h3, h4⟩ | ⟨x, k, v1, v2, s1, s2, h1, hk, hk2, h2, h3, h4, h5⟩
    · exact .inl ⟨x, e _ _ h1, h2⟩
    · exact .inr (.inl ⟨wd, us, bs, qs, m, e _ _ h1, Paired.mapP h2 fun _ _ z => ih z, h3.same e, h4⟩)
    · exact .inr (.inr ⟨x, k, v1, v2, s1, s2, e _ _ h1, hk, hk2, h2, ih h3, ih h4, h5⟩)
theorem Vw.up1 {H : Hp} {n : Nat} : ∀ {E : Env} {v : V} {w s : Int}, Vw n H E v w s → Vw (n + 1) H E v w s := by
  induction n with
  | zero => exact fun h => h.elim
  | succ n ih =>
    intro E v w s h
    obtain ⟨hw, t, rfl, h⟩ := h
    refine ⟨hw, t, rfl, ?_⟩
    rcases h with h | ⟨wd, us, bs, qs, m, h1, h2, h3, h4⟩ | ⟨x, k, v1, v2, s1, s2, h1, hk, hk2, h2, h3, h4, h5⟩
    · exact .inl h
    · exact .inr (.inl ⟨wd, us, bs, qs, m, h1, Paired.mapP h2 fun _ _ z => ih z, h3, h4⟩)
    · exact .inr (.inr ⟨x, k, v1, v2, s1, s2, h1, hk, hk2, h2, ih h3, ih h4, h5⟩)
theorem Vw.mono {H : Hp} {n m : Nat} {E : Env} {v : V} {w s : Int} (hm : n ≤ m) (h : Vw n H E v w s) : Vw m H E v w s := by
  induction hm with
  | refl => exact h
  | step _ ih => exact ih.up1
def DkE (kvs : List (Key × V)) (E : Env) (g : Int × Int → Int) : Prop := ∀ x : Str, valV kvs (.inr x) = (E x).map fun p => V.int (g p)
theorem DkE.put {kvs : List (Key × V)} {E : Env} {g : Int × Int → Int} (h : DkE kvs E g) (x : Str) (p : Int × Int) {i : Int} (hi : i = g p) : DkE (putK kvs (.inr x) (.int i)) (E.put x p) g := fun y => by
  subst hi
  rw [valV_put]
  unfold Env.put
  by_cases hy : y = x
  · subst hy
    rw [if_pos rfl, if_pos rfl]
    rfl
  · rw [if_neg hy, if_neg (fun z => hy (by injection z)), h y]
theorem list_of {α : Type} {g : α → Int} {qs : List α} {ys : List V} (hl : ys.length = qs.length) (h : ∀ (i : Nat) (y : V), ys[i]? = some y → ∃ q, qs[i]? = some q ∧ y = .int (g q)) : ys = (qs.map g).map V.int := by
  rw [List.map_map]
  exact listG hl h
abbrev sLook : Stmt := top 21
abbrev psLook : List Str := ["V", "widths"]
abbrev nLook : List Str := ["V", "widths", "width", "inner"]
def spLook (n : Nat) : Sp := fun vs H Q _ => ∃ v w s E a kvs, vs = [v, .ref a] ∧ Vw n H E v w s ∧ H a = some (.dK kvs) ∧ DkE kvs E (·.1) ∧ kvs.length + n ≤ 900 ∧ ∀ H', Same H H' → Q (.int w) H'
theorem scLook : FnScope nLook psLook (defScope sLook) := ⟨rfl, rfl, rfl, by decide +kernel, rfl, by decide +kernel, by decide +kernel⟩
abbrev sRW : Stmt := top 23
abbrev nRW : List Str := ["V", "widths", "width"]
def spRW (n : Nat) : Sp := fun vs H Q _ => ∃ (t : Addr) (x : Str) (k : Int) (v1 v2 : V) (w s1 s2 : Int) (E : Env) (a : Addr) (kvs : List (Key × V)), vs = [.ref t, .ref a] ∧ H t = some (.tup [.str "rounds", .str x, .int k, v1, v2]) ∧ E x = none ∧ Vw n H E v1 w s1 ∧ Vw n H (E.put x (w, 1)) v2 w s2 ∧ H a = some (.dK kvs) ∧ DkE kvs E (·.1) ∧ kvs.length + n + 1 ≤ 900 ∧ ∀ H', Same H H' → Q (.int w) H'
theorem scRW : FnScope nRW psLook (defScope sRW) := ⟨rfl, rfl, rfl, by decide +kernel, rfl, by decide +kernel, by decide +kernel⟩
theorem okRW (n : Nat) {f fL fA fW : Addr} {fd fdL fdA fdW : FuncData} (D : Fn K mg "rounds_width" sRW psLook f fd) (X : Txt mg) (DL : Fn K mg "look" sLook psLook fL fdL) (DA : Fn K mg "check_alike" sAlikeC psAlikeC fA fdA) (DW : Fn K mg "with_name" sWithN psWithN fW fdW) (GL : FnOk P w K mg base CX0 (2 * n + 10) fL fdL psLook (spLook n)) : FnOk P w K mg base CX0 (2 * n + 11) f fd psLook (spRW n) := by
  have GA : FnOk P w K mg base CX0 (2 * n + 10) fA fdA psAlikeC spAlikeC := (okAlikeC DA).mono (by omega)
  have GW : FnOk P w K mg base CX0 (2 * n + 10) fW fdW psWithN spWithN := (okWithN DW X).mono (by omega)
  refine D.F.ok (k := 2 * n + 10) scRW (fun vs H Q E h => ?_) (fun cdv A outer s H vs Q E hr h => ?_)
  · obtain ⟨_, _, _, _, _, _, _, _, _, _, _, rfl, _⟩ := h
    rfl
  · obtain ⟨t, x, k0, v1, v2, w', s1, s2, Ev, a, kvs, rfl, ht, hx, h1, h2, ha, hd, hz, k⟩ := h
    have nd := scRW.nd
    refine ⟨_, (@pss_cons _ _ _ _ _ (@ps_if _ _ _ _ _ _ _ _ (@pt_cmp _ _ _ _ _ _ (@pc_din _ _ _ _ _ (hu_of hr) (@pe_ix _ _ _ _ _ _ _ (ixT K) (pv 0) pe_int (fun _ _ => rfl)) (pv 1)) (by first | exact nobehind _ (by decide) (by decide) | rfl)) pss_never pss_nil) (@pss_cons _ _ _ _ _ (@ps_set _ _ (2) _ _ _ _ nd rfl (Or.inl rfl) (@pe_call _ _ _ _ _ _ _ _ _ _ _ _ _ _ _ _ GL hr rfl DL.m DL.F.kp DL.b .nil pass0 (@pa_cons _ _ _ _ _ (@pe_ix _ _ _ _ _ _ _ (ixT K) (pv 0) pe_int (fun _ _ => rfl)) (@pa_cons _ _ _ _ _ (pv 1) pa_nil (by rfl)) (by rfl)) (by decide) (by rfl) (by rfl)) (by rfl) (by first | exact .inl rfl | exact .inr rfl | assumption)) (@pss_cons _ _ _ _ _ (@ps_expr _ _ _ _ (@pe_call _ _ _ _ _ _ _ _ _ _ _ _ _ _ _ _ GA hr rfl DA.m DA.F.kp DA.b .nil pass0 (@pa_cons _ _ _ _ _ (pv 2) (@pa_cons _ _ _ _ _ (@pe_call _ _ _ _ _ _ _ _ _ _ _ _ _ _ _ _ GL hr rfl DL.m DL.F.kp DL.b .nil pass0 (@pa_cons _ _ _ _ _ (@pe_ix _ _ _ _ _ _ _ (ixT K) (pv 0) pe_int (fun _ _ => rfl)) (@pa_cons _ _ _ _ _ (@pe_call _ _ _ _ _ _ _ _ _ _ _ _ _ _ _ _ GW hr rfl DW.m DW.F.kp DW.b .nil pass0 (@pa_cons _ _ _ _ _ (pv 1) (@pa_cons _ _ _ _ _ (@pe_ix _ _ _ _ _ _ _ (ixT K) (pv 0) pe_int (fun _ _ => rfl)) (@pa_cons _ _ _ _ _ (pv 2) pa_nil (by rfl)) (by rfl)) (by rfl)) (by decide) (by rfl) (by rfl)) pa_nil (by rfl)) (by rfl)) (by decide) (by rfl) (by rfl)) pa_nil (by rfl)) (by rfl)) (by decide) (by rfl) (by rfl)) (by rfl)) (@pss_one _ _ _ (@ps_ret _ _ _ _ (pv 2)))))), ?_⟩
    have hg := DGet.k (k := .inr x) ha
    rw [hd x, hx] at hg
    first | refine wT rfl (SqT.of ht) rfl ?_ | refine ⟨_, rfl, t, _, _, _, rfl, rfl, SqT.of ht, rfl, ?_⟩
    first | refine wV rfl ?_ | refine ⟨_, rfl, ?_⟩
    refine ⟨a, none, rfl, hg, _, rfl, iteF ?_⟩
    first | refine wT rfl (SqT.of ht) rfl ?_ | refine ⟨_, rfl, t, _, _, _, rfl, rfl, SqT.of ht, rfl, ?_⟩
    first | refine wV rfl ?_ | refine ⟨_, rfl, ?_⟩
    refine ⟨v1, w', s1, Ev, a, kvs, rfl, h1, ha, hd, by omega, ?_⟩
    refine fun H1 e1 => ?_
    have ht1 := e1 _ _ ht
    first | refine wV rfl ?_ | refine ⟨_, rfl, ?_⟩
    first | refine wT rfl (SqT.of ht1) rfl ?_ | refine ⟨_, rfl, t, _, _, _, rfl, rfl, SqT.of ht1, rfl, ?_⟩
    first | refine wV rfl ?_ | refine ⟨_, rfl, ?_⟩
    first | refine wT rfl (SqT.of ht1) rfl ?_ | refine ⟨_, rfl, t, _, _, _, rfl, rfl, SqT.of ht1, rfl, ?_⟩
    first | refine wV rfl ?_ | refine ⟨_, rfl, ?_⟩
    refine ⟨a, kvs, x, _, rfl, e1 _ _ ha, by omega, fun p H2 e2 hp => ?_⟩
    refine ⟨v2, w', s2, _, p, _, rfl, (h2.same (e1.trans e2).t), hp, hd.put x (w', 1) rfl, ?_, fun H3 e3 => ?_⟩
    · have := length_putK kvs (.inr x) (V.int w')
      omega
    · refine ⟨w', rfl, ?_⟩
      first | refine wV rfl ?_ | refine ⟨_, rfl, ?_⟩
      refine k H3 (e1.trans (e2.trans e3))
theorem okLook (n : Nat) {f fR fN fV fC fA fO fB fW fP fQ fI fX : Addr} {fd fdR fdN fdV fdC fdA fdO fdB fdW fdP fdQ fdI fdX : FuncData} (D : Fn K mg "look" sLook psLook f fd) (X : Txt mg) (GLB : Glb K mg) (DR : Fn K mg "rounds_width" sRW psLook fR fdR) (DN : Fn K mg "name_width" sNameW psNameW fN fdN) (DV : Fn K mg "views_in" sViewsIn psV fV fdV) (DC : Fn K mg "check_places" sChPl psChPl fC fdC) (DA : Fn K mg "check_alike" sAlikeC psAlikeC fA fdA) (DO : Fn K mg "width_over" sWidthO psWidthO fO fdO) (DB : Fn K mg "besides_of" sBesides psV fB fdB) (DW : Fn K mg "with_name" sWithN psWithN fW fdW) (DP : Fn K mg "places_of" sPlOf psV fP fdP) (DQ : Fn K mg "own_places" sOwnPl psV fQ fdQ) (DI : Fn K mg "places_in" sPlIn psPlIn fI fdI) (DX : Fn K mg "within" sWithin psWithin fX fdX) (IH : FnOk P w K mg base CX0 (2 * n + 10) f fd psLook (spLook n)) : FnOk P w K mg base CX0 (2 * n + 12) f fd psLook (spLook (n + 1)) := by
  have GR : FnOk P w K mg base CX0 (2 * n + 11) fR fdR psLook (spRW n) := okRW n DR X D DA DW IH
  have GN : FnOk P w K mg base CX0 (2 * n + 11) fN fdN psNameW spNameW := (okNameW DN).mono (by omega)
  have GV : FnOk P w K mg base CX0 (2 * n + 11) fV fdV psV spViewsIn := (okViewsIn DV GLB).mono (by omega)
  have GC : FnOk P w K mg base CX0 (2 * n + 11) fC fdC psChPl spChPl := (okChPl DC X GLB DP DQ DI DX).mono (by omega)
  have GA : FnOk P w K mg base CX0 (2 * n + 11) fA fdA psAlikeC spAlikeC := (okAlikeC DA).mono (by omega)
  have GO : FnOk P w K mg base CX0 (2 * n + 11) fO fdO psWidthO spWidthO := (okWidthO DO X GLB).mono (by omega)
  have GB : FnOk P w K mg base CX0 (2 * n + 11) fB fdB psV spBesides := (okBesides DB X GLB DV).mono (by omega)
  replace IH : FnOk P w K mg base CX0 (2 * n + 11) f fd psLook (spLook n) := IH.mono (by omega)
  obtain ⟨um, mm, rm⟩ := GLB.mc
  obtain ⟨ao, mo, so⟩ := GLB.of
  refine D.F.ok (k := 2 * n + 11) scLook (fun vs H Q E h => ?_) (fun cdv A outer s H vs Q E hr h => ?_)
  · obtain ⟨_, _, _, _, _, _, rfl, _⟩ := h
    rfl
  · obtain ⟨v, w', s0, Ev, a, kvs, rfl, ⟨hw, t, rfl, hv⟩, ha, hd, hz, k⟩ := h
    have nd := scLook.nd
    refine ⟨_, (@pss_cons _ _ _ _ _ (@ps_if _ _ _ _ _ _ _ _ (@pt_cmpR _ _ _ _ _ _ _ _ op_eq (@pe_ix _ _ _ _ _ _ _ (ixT K) (pv 0) pe_int (fun _ _ => rfl)) pe_str (nomark _)) (@pss_one _ _ _ (@ps_set _ _ (2) _ _ _ _ nd rfl (Or.inl rfl) (@pe_call _ _ _ _ _ _ _ _ _ _ _ _ _ _ _ _ GN hr rfl DN.m DN.F.kp DN.b .nil pass0 (@pa_cons _ _ _ _ _ (@pe_ix _ _ _ _ _ _ _ (ixT K) (pv 0) pe_int (fun _ _ => rfl)) (@pa_cons _ _ _ _ _ (pv 1) pa_nil (by rfl)) (by rfl)) (by decide) (by rfl) (by rfl)) (by rfl) (by first | exact .inl rfl | exact .inr rfl | assumption))) (@pss_one _ _ _ (@ps_if _ _ _ _ _ _ _ _ (@pt_cmpR _ _ _ _ _ _ _ _ op_eq (@pe_ix _ _ _ _ _ _ _ (ixT K) (pv 0) pe_int (fun _ _ => rfl)) pe_str (nomark _)) (@pss_one _ _ _ (@ps_set _ _ (2) _ _ _ _ nd rfl (Or.inl rfl) (@pe_call _ _ _ _ _ _ _ _ _ _ _ _ _ _ _ _ GR hr rfl DR.m DR.F.kp DR.b .nil pass0 (@pa_cons _ _ _ _ _ (pv 0) (@pa_cons _ _ _ _ _ (pv 1) pa_nil (by rfl)) (by rfl)) (by decide) (by rfl) (by rfl)) (by rfl) (by first | exact .inl rfl | exact .inr rfl | assumption))) (@pss_cons _ _ _ _ _ (@ps_comp _ _ _ _ _ _ _ _ (tCall (spLook n) [] E0 (tCons (tVar 0) (tCons (tVar 1) tNil))) (["view"]) ([("widths", 1)]) (defScope sLook) (nLook) (3) _ _ _ nd rfl (Or.inl rfl) rfl rfl ⟨rfl, by decide +kernel, by decide +kernel, by decide +kernel, by decide +kernel⟩ rfl (@pi_list _ _ _ _ (@pe_call _ _ _ _ _ _ _ _ _ _ _ _ _ _ _ _ GV hr rfl DV.m DV.F.kp DV.b .nil pass0 (@pa_cons _ _ _ _ _ (pv 0) pa_nil (by rfl)) (by decide) (by rfl) (by rfl))) (fun s H fp => pg_name (i := 0) (show (["view", "widths"] : List Str).Nodup by decide +kernel) rfl (Or.inl rfl) (Or.inr rfl)) (fun s H fp => pe_call IH hr rfl D.m D.F.kp D.b .nil pass0 (@pa_cons _ _ _ _ _ (pv 0) (@pa_cons _ _ _ _ _ (pv 1) pa_nil (by rfl)) (by rfl))) (by rfl) (by intro _; rfl) (by first | exact .inl rfl | exact .inr rfl | assumption)) (@pss_cons _ _ _ _ _ (@ps_expr _ _ _ _ (@pe_call _ _ _ _ _ _ _ _ _ _ _ _ _ _ _ _ GC hr rfl DC.m DC.F.kp DC.b .nil pass0 (@pa_cons _ _ _ _ _ (pv 0) (@pa_cons _ _ _ _ _ (pv 3) pa_nil (by rfl)) (by rfl)) (by decide) (by rfl) (by rfl)) (by rfl)) (@pss_cons _ _ _ _ _ (@ps_if _ _ _ _ _ _ _ _ (@pt_cmpR _ _ _ _ _ _ _ _ (inK K) (@pe_ix _ _ _ _ _ _ _ (ixT K) (pv 0) pe_int (fun _ _ => rfl)) (@pe_glob _ _ (.ref ao) _ _ rfl mo rfl (by decide)) (by with_unfolding_all rfl)) (@pss_one _ _ _ (@ps_expr _ _ _ _ (@pe_call _ _ _ _ _ _ _ _ _ _ _ _ _ _ _ _ GA hr rfl DA.m DA.F.kp DA.b .nil pass0 (@pa_cons _ _ _ _ _ (@pe_ix _ _ _ _ _ _ _ (ixL K) (pv 3) pe_int (fun _ _ => rfl)) (@pa_cons _ _ _ _ _ (@pe_ix _ _ _ _ _ _ _ (ixL K) (pv 3) pe_int (fun _ _ => rfl)) pa_nil (by rfl)) (by rfl)) (by decide) (by rfl) (by rfl)) (by rfl))) pss_nil) (@pss_one _ _ _ (@ps_set _ _ (2) _ _ _ _ nd rfl (Or.inl rfl) (@pe_call _ _ _ _ _ _ _ _ _ _ _ _ _ _ _ _ GO hr rfl DO.m DO.F.kp DO.b .nil pass0 (@pa_cons _ _ _ _ _ (@pe_ix _ _ _ _ _ _ _ (ixT K) (pv 0) pe_int (fun _ _ => rfl)) (@pa_cons _ _ _ _ _ (@pe_call _ _ _ _ _ _ _ _ _ _ _ _ _ _ _ _ GB hr rfl DB.m DB.F.kp DB.b .nil pass0 (@pa_cons _ _ _ _ _ (pv 0) pa_nil (by rfl)) (by decide) (by rfl) (by rfl)) (@pa_cons _ _ _ _ _ (pv 3) pa_nil (by rfl)) (by rfl)) (by rfl)) (by decide) (by rfl) (by rfl)) (by rfl) (by first | exact .inl rfl | exact .inr rfl | assumption))))))))) (@pss_cons _ _ _ _ _ (@ps_if _ _ _ _ _ _ _ _ (@pt_cmpR _ _ _ _ _ _ _ _ op_gt (pv 2) (@pe_glob _ _ (.int 12) _ _ rfl mm rm (by decide)) (nomark _)) pss_never pss_nil) (@pss_one _ _ _ (@ps_ret _ _ _ _ (pv 2))))), ?_⟩
    rcases hv with ⟨x, ht, hx⟩ | ⟨wd, us, bs, qs, m, ht, hp, hb, hs⟩ | ⟨x, k0, v1, v2, s1, s2, ht, hk1, hk2, hx, h1, h2, hs⟩
    · first | refine wT rfl (SqT.of ht) rfl ?_ | refine ⟨_, rfl, t, _, _, _, rfl, rfl, SqT.of ht, rfl, ?_⟩
      refine ⟨rfl, ?_⟩
      first | refine wV rfl ?_ | refine ⟨_, rfl, ?_⟩
      refine iteP (by decide +kernel) ?_
      have hg := hd x
      rw [hx] at hg
      first | refine wT rfl (SqT.of ht) rfl ?_ | refine ⟨_, rfl, t, _, _, _, rfl, rfl, SqT.of ht, rfl, ?_⟩
      first | refine wV rfl ?_ | refine ⟨_, rfl, ?_⟩
      refine ⟨x, a, kvs, _, rfl, ha, hg, ?_⟩
      first | refine wV rfl ?_ | refine ⟨_, rfl, ?_⟩
      first | refine wI ?_ | refine wIc ?_ | refine ⟨_, _, rfl, rfl, ?_⟩
      first | refine wV rfl ?_ | refine ⟨_, rfl, ?_⟩
      refine iteQ (decide_eq_false (by show ¬ (12 : Int) < w'; omega)) ?_
      first | refine wV rfl ?_ | refine ⟨_, rfl, ?_⟩
      refine k H (Same.refl H)
    · obtain ⟨n1, n2⟩ := hb.word
      have hul : us.length = (qs.map (·.1)).length := by rw [List.length_map]; exact Paired.length hp
      first | refine wT rfl (SqT.of ht) at0 ?_ | refine ⟨_, rfl, t, _, _, _, rfl, rfl, SqT.of ht, at0, ?_⟩
      refine ⟨rfl, ?_⟩
      first | refine wV rfl ?_ | refine ⟨_, rfl, ?_⟩
      refine iteQ (neD n2) ?_
      first | refine wT rfl (SqT.of ht) at0 ?_ | refine ⟨_, rfl, t, _, _, _, rfl, rfl, SqT.of ht, at0, ?_⟩
      refine ⟨rfl, ?_⟩
      first | refine wV rfl ?_ | refine ⟨_, rfl, ?_⟩
      refine iteQ (neD n1) ?_
      first | refine wV rfl ?_ | refine ⟨_, rfl, ?_⟩
      refine ⟨t, wd, us, bs, _, w', m, rfl, ht, hul, hb, fun lv H1 e1 hlv => ⟨lv, rfl, ⟨_, SqL.of hlv⟩, fun l hl => ?_⟩⟩
      have hu5 : us.length ≤ 2 := by
        have := hb.len
        omega
      refine comp_L (K := K) hlv (fun σ => ∃ x, σ = [x, some (.ref a)]) (fun i y H => ∃ q, qs[i]? = some q ∧ y = .int q.1) (fun _ _ _ _ _ z => z) (by omega) hl ⟨_, rfl⟩ ?_ ?_
      · rintro CC i σ H2 x ex e2 ⟨x1, rfl⟩ kk
        obtain ⟨y, ey, ry⟩ := pair_at hp ex
        first | refine wV rfl ?_ | refine ⟨_, rfl, ?_⟩
        first | refine wV rfl ?_ | refine ⟨_, rfl, ?_⟩
        refine ⟨x, y.1, y.2, Ev, a, kvs, rfl, ry.same (e1.trans e2).t, e2 _ _ (e1 _ _ ha), hd, by omega, ?_⟩
        refine fun H3 e3 => ?_
        refine kk _ _ _ e3 ⟨_, rfl⟩ ⟨y, ey, rfl⟩
      · intro H2 ys e2 hys hyl hyr
        have hq : ys = (qs.map (·.1)).map V.int := list_of (by rw [hyl]; exact Paired.length hp) hyr
        rw [hq] at hys
        have ht2 := e2 _ _ (e1 _ _ ht)
        have hb2 := hb.same (e1.trans e2).t
        first | refine wV rfl ?_ | refine ⟨_, rfl, ?_⟩
        first | refine wV rfl ?_ | refine ⟨_, rfl, ?_⟩
        refine ⟨t, wd, us, bs, _, w', m, l, rfl, ht2, hul, hb2, hys, fun H3 e3 => ?_⟩
        have ht3 := e3 _ _ ht2
        have hb3 := hb2.same e3.t
        have hys3 := e3 _ _ hys
        have fin : ∀ H', Same H3 H' → _ := fun H' e' => k H' (e1.trans (e2.trans (e3.trans e')))
        first | refine wT rfl (SqT.of ht3) at0 ?_ | refine ⟨_, rfl, t, _, _, _, rfl, rfl, SqT.of ht3, at0, ?_⟩
        refine ⟨ao, _, rfl, .inr (so _), rfl, rfl, _, rfl, ?_⟩
        have rest : ∀ H4, Same H3 H4 → Q (.int w') H4 → True := fun _ _ _ => trivial
        refine ite2 (fun hc => ?_) (fun hc => ?_)
        · cases hqq : qs.map (·.1) with
          | nil => rw [hqq] at hb3; cases hb3
          | cons w1 r =>
            rw [hqq] at hb3
            cases hb3 with
            | one ob => exact absurd (show inV (.str wd) ofL = true from hc) (by rw [ob.word.2.2.2.2]; decide)
            | two ob =>
              obtain ⟨_, _, _, hh⟩ := ob.word
              rcases hh with ⟨_, ee⟩ | hh
              · subst ee
                rw [hqq] at hys3
                first | refine wL rfl (SqL.of hys3) rfl ?_ | refine ⟨_, rfl, l, _, _, _, rfl, rfl, SqL.of hys3, rfl, ?_⟩
                first | refine wL rfl (SqL.of hys3) rfl ?_ | refine ⟨_, rfl, l, _, _, _, rfl, rfl, SqL.of hys3, rfl, ?_⟩
                refine ⟨w1, rfl, ?_⟩
                first | refine wT rfl (SqT.of ht3) at0 ?_ | refine ⟨_, rfl, t, _, _, _, rfl, rfl, SqT.of ht3, at0, ?_⟩
                first | refine wV rfl ?_ | refine ⟨_, rfl, ?_⟩
                refine ⟨t, wd, us, bs, _, w', m, rfl, ht3, by rw [hqq] at hul; exact hul, .two ob, fun p H4 e4 hp4 => ⟨_, rfl, wd, p, bs, l, [w1, w1], w', m, rfl, hp4, e4 _ _ hys3, .two (ob.same e4.t), fun H5 e5 => ?_⟩⟩
                first | refine wV rfl ?_ | refine ⟨_, rfl, ?_⟩
                first | refine wI ?_ | refine wIc ?_ | refine ⟨_, _, rfl, rfl, ?_⟩
                first | refine wV rfl ?_ | refine ⟨_, rfl, ?_⟩
                refine iteQ (decide_eq_false (by show ¬ (12 : Int) < w'; omega)) ?_
                first | refine wV rfl ?_ | refine ⟨_, rfl, ?_⟩
                refine fin H5 (e4.trans e5)
              · exact absurd (show inV (.str wd) ofL = true from hc) (by rw [hh]; decide)
        · first | refine wT rfl (SqT.of ht3) at0 ?_ | refine ⟨_, rfl, t, _, _, _, rfl, rfl, SqT.of ht3, at0, ?_⟩
          first | refine wV rfl ?_ | refine ⟨_, rfl, ?_⟩
          refine ⟨t, wd, us, bs, _, w', m, rfl, ht3, hul, hb3, fun p H4 e4 hp4 => ⟨_, rfl, wd, p, bs, l, _, w', m, rfl, hp4, e4 _ _ hys3, hb3.same e4.t, fun H5 e5 => ?_⟩⟩
          first | refine wV rfl ?_ | refine ⟨_, rfl, ?_⟩
          first | refine wI ?_ | refine wIc ?_ | refine ⟨_, _, rfl, rfl, ?_⟩
          first | refine wV rfl ?_ | refine ⟨_, rfl, ?_⟩
          refine iteQ (decide_eq_false (by show ¬ (12 : Int) < w'; omega)) ?_
          first | refine wV rfl ?_ | refine ⟨_, rfl, ?_⟩
          refine fin H5 (e4.trans e5)
    · first | refine wT rfl (SqT.of ht) rfl ?_ | refine ⟨_, rfl, t, _, _, _, rfl, rfl, SqT.of ht, rfl, ?_⟩
      refine ⟨rfl, ?_⟩
      first | refine wV rfl ?_ | refine ⟨_, rfl, ?_⟩
      refine iteQ (by decide +kernel) ?_
      first | refine wT rfl (SqT.of ht) rfl ?_ | refine ⟨_, rfl, t, _, _, _, rfl, rfl, SqT.of ht, rfl, ?_⟩
      refine ⟨rfl, ?_⟩
      first | refine wV rfl ?_ | refine ⟨_, rfl, ?_⟩
      refine iteP (by decide +kernel) ?_
      first | refine wV rfl ?_ | refine ⟨_, rfl, ?_⟩
      first | refine wV rfl ?_ | refine ⟨_, rfl, ?_⟩
      refine ⟨t, x, k0, v1, v2, w', s1, s2, Ev, a, kvs, rfl, ht, hx, h1, h2, ha, hd, by omega, ?_⟩
      refine fun H1 e1 => ?_
      first | refine wV rfl ?_ | refine ⟨_, rfl, ?_⟩
      first | refine wI ?_ | refine wIc ?_ | refine ⟨_, _, rfl, rfl, ?_⟩
      first | refine wV rfl ?_ | refine ⟨_, rfl, ?_⟩
      refine iteQ (decide_eq_false (by show ¬ (12 : Int) < w'; omega)) ?_
      first | refine wV rfl ?_ | refine ⟨_, rfl, ?_⟩
      refine k H1 e1
theorem okLooks {f fR fN fV fC fA fO fB fW fP fQ fI fX : Addr} {fd fdR fdN fdV fdC fdA fdO fdB fdW fdP fdQ fdI fdX : FuncData} (D : Fn K mg "look" sLook psLook f fd) (X : Txt mg) (GLB : Glb K mg) (DR : Fn K mg "rounds_width" sRW psLook fR fdR) (DN : Fn K mg "name_width" sNameW psNameW fN fdN) (DV : Fn K mg "views_in" sViewsIn psV fV fdV) (DC : Fn K mg "check_places" sChPl psChPl fC fdC) (DA : Fn K mg "check_alike" sAlikeC psAlikeC fA fdA) (DO : Fn K mg "width_over" sWidthO psWidthO fO fdO) (DB : Fn K mg "besides_of" sBesides psV fB fdB) (DW : Fn K mg "with_name" sWithN psWithN fW fdW) (DP : Fn K mg "places_of" sPlOf psV fP fdP) (DQ : Fn K mg "own_places" sOwnPl psV fQ fdQ) (DI : Fn K mg "places_in" sPlIn psPlIn fI fdI) (DX : Fn K mg "within" sWithin psWithin fX fdX) : ∀ n, FnOk P w K mg base CX0 (2 * n + 10) f fd psLook (spLook n)
  | 0 => ⟨fun vs H Q E ⟨_, _, _, _, _, _, _, h, _⟩ => h.elim, fun A outer s H args us vs Q E _ _ _ _ ⟨_, _, _, _, _, _, _, h, _⟩ => h.elim⟩
  | n + 1 => okLook n D X GLB DR DN DV DC DA DO DB DW DP DQ DI DX (okLooks D X GLB DR DN DV DC DA DO DB DW DP DQ DI DX n)
abbrev sSize : Stmt := top 29
abbrev psSize : List Str := ["V", "sizes"]
def spSize (n : Nat) : Sp := fun vs H Q _ => ∃ v w s E a kvs, vs = [v, .ref a] ∧ Vw n H E v w s ∧ H a = some (.dK kvs) ∧ DkE kvs E (·.2) ∧ kvs.length + n ≤ 900 ∧ ∀ H', Same H H' → Q (.int s) H'
theorem scSize : FnScope psSize psSize (defScope sSize) := ⟨rfl, rfl, rfl, by decide +kernel, rfl, by decide +kernel, by decide +kernel⟩
theorem okSize (n : Nat) {f fV fW fB fE fX : Addr} {fd fdV fdW fdB fdE fdX : FuncData} (D : Fn K mg "size" sSize psSize f fd) (X : Txt mg) (GLB : Glb K mg) (DV : Fn K mg "views_in" sViewsIn psV fV fdV) (DW : Fn K mg "with_name" sWithN psWithN fW fdW) (DB : Fn K mg "besides_size" sBSize psV fB fdB) (DE : Fn K mg "expression_size" sESize psESize fE fdE) (DX : Fn K mg "within" sWithin psWithin fX fdX) (IH : FnOk P w K mg base CX0 (n + 6) f fd psSize (spSize n)) : FnOk P w K mg base CX0 (n + 7) f fd psSize (spSize (n + 1)) := by
  have GV : FnOk P w K mg base CX0 (n + 6) fV fdV psV spViewsIn := (okViewsIn DV GLB).mono (by omega)
  have GW : FnOk P w K mg base CX0 (n + 6) fW fdW psWithN spWithN := (okWithN DW X).mono (by omega)
  have GB : FnOk P w K mg base CX0 (n + 6) fB fdB psV spBSize := (okBSize DB X GLB DE DX).mono (by omega)
  refine D.F.ok (k := n + 6) scSize (fun vs H Q E h => ?_) (fun cdv A outer s H vs Q E hr h => ?_)
  · obtain ⟨_, _, _, _, _, _, rfl, _⟩ := h
    rfl
  · obtain ⟨v, w', s0, Ev, a, kvs, rfl, ⟨hw, t, rfl, hv⟩, ha, hd, hz, k⟩ := h
    refine ⟨_, (@pss_cons _ _ _ _ _ (@ps_if _ _ _ _ _ _ _ _ (@pt_cmpR _ _ _ _ _ _ _ _ op_eq (@pe_ix _ _ _ _ _ _ _ (ixT K) (pv 0) pe_int (fun _ _ => rfl)) pe_str (nomark _)) (@pss_one _ _ _ (@ps_ret _ _ _ _ (@pe_dget _ _ _ _ _ _ (hu_of hr) (pv 1) (@pe_ix _ _ _ _ _ _ _ (ixT K) (pv 0) pe_int (fun _ _ => rfl)) (fun _ _ => rfl)))) pss_nil) (@pss_cons _ _ _ _ _ (@ps_if _ _ _ _ _ _ _ _ (@pt_cmpR _ _ _ _ _ _ _ _ op_eq (@pe_ix _ _ _ _ _ _ _ (ixT K) (pv 0) pe_int (fun _ _ => rfl)) pe_str (nomark _)) (@pss_one _ _ _ (@ps_ret _ _ _ _ (@pe_op _ _ _ _ _ _ _ _ op_add (@pe_call _ _ _ _ _ _ _ _ _ _ _ _ _ _ _ _ IH hr rfl D.m D.F.kp D.b .nil pass0 (@pa_cons _ _ _ _ _ (@pe_ix _ _ _ _ _ _ _ (ixT K) (pv 0) pe_int (fun _ _ => rfl)) (@pa_cons _ _ _ _ _ (pv 1) pa_nil (by rfl)) (by rfl)) (by decide) (by rfl) (by rfl)) (@pe_op _ _ _ _ _ _ _ _ op_mul (@pe_ix _ _ _ _ _ _ _ (ixT K) (pv 0) pe_int (fun _ _ => rfl)) (@pe_op _ _ _ _ _ _ _ _ op_add pe_int (@pe_call _ _ _ _ _ _ _ _ _ _ _ _ _ _ _ _ IH hr rfl D.m D.F.kp D.b .nil pass0 (@pa_cons _ _ _ _ _ (@pe_ix _ _ _ _ _ _ _ (ixT K) (pv 0) pe_int (fun _ _ => rfl)) (@pa_cons _ _ _ _ _ (@pe_call _ _ _ _ _ _ _ _ _ _ _ _ _ _ _ _ GW hr rfl DW.m DW.F.kp DW.b .nil pass0 (@pa_cons _ _ _ _ _ (pv 1) (@pa_cons _ _ _ _ _ (@pe_ix _ _ _ _ _ _ _ (ixT K) (pv 0) pe_int (fun _ _ => rfl)) (@pa_cons _ _ _ _ _ pe_int pa_nil (by rfl)) (by rfl)) (by rfl)) (by decide) (by rfl) (by rfl)) pa_nil (by rfl)) (by rfl)) (by decide) (by rfl) (by rfl))))))) pss_nil) (@pss_one _ _ _ (@ps_ret _ _ _ _ (@pe_op _ _ _ _ _ _ _ _ op_add (@pe_op _ _ _ _ _ _ _ _ op_add pe_int (@pe_callB _ _ _ _ _ _ _ _ _ (sumK K rfl) (by rfl) X.sum b_sum (@pa_cons _ _ _ _ _ (@pe_comp _ _ _ _ _ _ _ _ (tCall (spSize n) [] E0 (tCons (tVar 0) (tCons (tVar 1) tNil))) (["view"]) ([("sizes", 1)]) (defScope sSize) (psSize) rfl rfl ⟨rfl, by decide +kernel, by decide +kernel, by decide +kernel, by decide +kernel⟩ rfl (@pi_list _ _ _ _ (@pe_call _ _ _ _ _ _ _ _ _ _ _ _ _ _ _ _ GV hr rfl DV.m DV.F.kp DV.b .nil pass0 (@pa_cons _ _ _ _ _ (pv 0) pa_nil (by rfl)) (by decide) (by rfl) (by rfl))) (fun s H fp => pg_name (i := 0) (show (["view", "sizes"] : List Str).Nodup by decide +kernel) rfl (Or.inl rfl) (Or.inr rfl)) (fun s H fp => pe_call IH hr rfl D.m D.F.kp D.b .nil pass0 (@pa_cons _ _ _ _ _ (pv 0) (@pa_cons _ _ _ _ _ (pv 1) pa_nil (by rfl)) (by rfl))) (by intro _; rfl)) pa_nil (by rfl)) (by decide) (by decide) (by rfl) (by rfl))) (@pe_call _ _ _ _ _ _ _ _ _ _ _ _ _ _ _ _ GB hr rfl DB.m DB.F.kp DB.b .nil pass0 (@pa_cons _ _ _ _ _ (pv 0) pa_nil (by rfl)) (by decide) (by rfl) (by rfl))))))), ?_⟩
    rcases hv with ⟨x, ht, hx⟩ | ⟨wd, us, bs, qs, m, ht, hp, hb, hs⟩ | ⟨x, k0, v1, v2, s1, s2, ht, hk1, hk2, hx, h1, h2, hs⟩
    · first | refine wT rfl (SqT.of ht) rfl ?_ | refine ⟨_, rfl, t, _, _, _, rfl, rfl, SqT.of ht, rfl, ?_⟩
      refine ⟨rfl, ?_⟩
      first | refine wV rfl ?_ | refine ⟨_, rfl, ?_⟩
      refine iteP (by decide +kernel) ?_
      have hg := DGet.k (k := .inr x) ha
      rw [hd x, hx] at hg
      first | refine wV rfl ?_ | refine ⟨_, rfl, ?_⟩
      first | refine wT rfl (SqT.of ht) rfl ?_ | refine ⟨_, rfl, t, _, _, _, rfl, rfl, SqT.of ht, rfl, ?_⟩
      refine ⟨a, _, rfl, hg, k H (Same.refl H)⟩
    · obtain ⟨n1, n2⟩ := hb.word
      have hul : us.length = (qs.map (·.1)).length := by rw [List.length_map]; exact Paired.length hp
      have hu5 : us.length ≤ 2 := by
        have := hb.len
        omega
      first | refine wT rfl (SqT.of ht) at0 ?_ | refine ⟨_, rfl, t, _, _, _, rfl, rfl, SqT.of ht, at0, ?_⟩
      refine ⟨rfl, ?_⟩
      first | refine wV rfl ?_ | refine ⟨_, rfl, ?_⟩
      refine iteQ (neD n2) ?_
      first | refine wT rfl (SqT.of ht) at0 ?_ | refine ⟨_, rfl, t, _, _, _, rfl, rfl, SqT.of ht, at0, ?_⟩
      refine ⟨rfl, ?_⟩
      first | refine wV rfl ?_ | refine ⟨_, rfl, ?_⟩
      refine iteQ (neD n1) ?_
      first | refine wV rfl ?_ | refine ⟨_, rfl, ?_⟩
      refine ⟨t, wd, us, bs, _, w', m, rfl, ht, hul, hb, fun lv H1 e1 hlv => ⟨lv, rfl, ⟨_, SqL.of hlv⟩, fun l hl => ?_⟩⟩
      refine comp_L (K := K) hlv (fun σ => ∃ x, σ = [x, some (.ref a)]) (fun i y H => ∃ q, qs[i]? = some q ∧ y = .int q.2) (fun _ _ _ _ _ z => z) (by omega) hl ⟨_, rfl⟩ ?_ ?_
      · rintro CC i σ H2 x ex e2 ⟨x1, rfl⟩ kk
        obtain ⟨y, ey, ry⟩ := pair_at hp ex
        first | refine wV rfl ?_ | refine ⟨_, rfl, ?_⟩
        first | refine wV rfl ?_ | refine ⟨_, rfl, ?_⟩
        refine ⟨x, y.1, y.2, Ev, a, kvs, rfl, ry.same (e1.trans e2).t, e2 _ _ (e1 _ _ ha), hd, by omega, ?_⟩
        refine fun H3 e3 => ?_
        refine kk _ _ _ e3 ⟨_, rfl⟩ ⟨y, ey, rfl⟩
      · intro H2 ys e2 hys hyl hyr
        have hq : ys = (qs.map (·.2)).map V.int := list_of (by rw [hyl]; exact Paired.length hp) hyr
        rw [hq] at hys
        refine ⟨l, _, rfl, SqL.of hys, _, _, rfl, rfl, _, rfl, t, wd, us, bs, _, w', m, rfl, e2 _ _ (e1 _ _ ht), hul, hb.same (e1.trans e2).t, fun H3 e3 => ⟨_, _, rfl, rfl, ?_⟩⟩
        rw [hs] at k
        exact k H3 (e1.trans (e2.trans e3))
    · first | refine wT rfl (SqT.of ht) rfl ?_ | refine ⟨_, rfl, t, _, _, _, rfl, rfl, SqT.of ht, rfl, ?_⟩
      refine ⟨rfl, ?_⟩
      first | refine wV rfl ?_ | refine ⟨_, rfl, ?_⟩
      refine iteQ (by decide +kernel) ?_
      first | refine wT rfl (SqT.of ht) rfl ?_ | refine ⟨_, rfl, t, _, _, _, rfl, rfl, SqT.of ht, rfl, ?_⟩
      refine ⟨rfl, ?_⟩
      first | refine wV rfl ?_ | refine ⟨_, rfl, ?_⟩
      refine iteP (by decide +kernel) ?_
      first | refine wT rfl (SqT.of ht) rfl ?_ | refine ⟨_, rfl, t, _, _, _, rfl, rfl, SqT.of ht, rfl, ?_⟩
      first | refine wV rfl ?_ | refine ⟨_, rfl, ?_⟩
      refine ⟨v1, w', s1, Ev, a, kvs, rfl, h1, ha, hd, by omega, ?_⟩
      refine fun H1 e1 => ?_
      have ht1 := e1 _ _ ht
      first | refine wT rfl (SqT.of ht1) rfl ?_ | refine ⟨_, rfl, t, _, _, _, rfl, rfl, SqT.of ht1, rfl, ?_⟩
      first | refine wT rfl (SqT.of ht1) rfl ?_ | refine ⟨_, rfl, t, _, _, _, rfl, rfl, SqT.of ht1, rfl, ?_⟩
      first | refine wV rfl ?_ | refine ⟨_, rfl, ?_⟩
      first | refine wT rfl (SqT.of ht1) rfl ?_ | refine ⟨_, rfl, t, _, _, _, rfl, rfl, SqT.of ht1, rfl, ?_⟩
      refine ⟨a, kvs, x, _, rfl, e1 _ _ ha, by omega, fun p H2 e2 hp => ?_⟩
      refine ⟨v2, w', s2, _, p, _, rfl, (h2.same (e1.trans e2).t), hp, hd.put x (w', 1) rfl, ?_, fun H3 e3 => ?_⟩
      · have := length_putK kvs (.inr x) (V.int 1)
        omega
      · rw [hs] at k
        first | refine wI ?_ | refine wIc ?_ | refine ⟨_, _, rfl, rfl, ?_⟩
        first | refine wC (.inl ⟨by omega, by omega⟩) ?_ | refine wCc (.inl ⟨by omega, by omega⟩) ?_ | refine ⟨_, _, rfl, rfl, .inl ⟨by omega, by omega⟩, ?_⟩
        first | refine wI ?_ | refine wIc ?_ | refine ⟨_, _, rfl, rfl, ?_⟩
        refine k H3 (e1.trans (e2.trans e3))
theorem okSizes {f fV fW fB fE fX : Addr} {fd fdV fdW fdB fdE fdX : FuncData} (D : Fn K mg "size" sSize psSize f fd) (X : Txt mg) (GLB : Glb K mg) (DV : Fn K mg "views_in" sViewsIn psV fV fdV) (DW : Fn K mg "with_name" sWithN psWithN fW fdW) (DB : Fn K mg "besides_size" sBSize psV fB fdB) (DE : Fn K mg "expression_size" sESize psESize fE fdE) (DX : Fn K mg "within" sWithin psWithin fX fdX) : ∀ n, FnOk P w K mg base CX0 (n + 6) f fd psSize (spSize n)
  | 0 => ⟨fun vs H Q E ⟨_, _, _, _, _, _, _, h, _⟩ => h.elim, fun A outer s H args us vs Q E _ _ _ _ ⟨_, _, _, _, _, _, _, h, _⟩ => h.elim⟩
  | n + 1 => okSize n D X GLB DV DW DB DE DX (okSizes D X GLB DV DW DB DE DX n)
end
end VK
namespace VK
open PySem PySem.Spec PyProof.Rows L2
section
variable {P : Program} {w : World} {K : PySem.W.Frag} {mg : Str → Option Value} {base : Heap}
def okC (c : Nat) : Bool := decide (97 ≤ c) && decide (c ≤ 122)
def nameB (z : Str) : Bool := (decide (1 ≤ z.length) && decide (z.length ≤ 8)) && z.cps.toList.all okC
theorem lt1 (a b : Nat) : (([a] : List Nat) < [b]) ↔ a < b := by
  rw [List.cons_lt_cons_iff]
  simp
theorem leA (c : Nat) : (!decide (((⟨#[c]⟩ : Str)).cps.toList < (Str.ofString "a").cps.toList)) = decide (97 ≤ c) := by
  have e : (Str.ofString "a").cps.toList = [97] := by decide +kernel
  rw [e]
  show (!decide (([c] : List Nat) < [97])) = _
  by_cases h : 97 ≤ c
  · rw [decide_eq_true h, decide_eq_false (by rw [lt1]; omega)]; rfl
  · rw [decide_eq_false h, decide_eq_true (by rw [lt1]; omega)]; rfl
theorem leZ (c : Nat) : (!decide ((Str.ofString "z").cps.toList < ((⟨#[c]⟩ : Str)).cps.toList)) = decide (c ≤ 122) := by
  have e : (Str.ofString "z").cps.toList = [122] := by decide +kernel
  rw [e]
  show (!decide (([122] : List Nat) < [c])) = _
  by_cases h : c ≤ 122
  · rw [decide_eq_true h, decide_eq_false (by rw [lt1]; omega)]; rfl
  · rw [decide_eq_false h, decide_eq_true (by rw [lt1]; omega)]; rfl
theorem bools_of {α : Type} {g : α → Bool} {qs : List α} {ys : List V} (hl : ys.length = qs.length) (h : ∀ (i : Nat) (y : V), ys[i]? = some y → ∃ q, qs[i]? = some q ∧ y = .bl (g q)) : ys = (qs.map g).map V.bl := by
  rw [List.map_map]
  exact listG hl h
def rLeS : R2 := fun x y H Q => ∃ i j, x = .str i ∧ y = .str j ∧ Q (.bl (!decide (j.cps.toList < i.cps.toList))) H
theorem k_str_str {K : PySem.W.Frag} : PySem.W.kitOne K (.type "str") (.type "str") = some true := kt (by decide +kernel)
abbrev sIsName : Stmt := top 17
abbrev psIsName : List Str := ["thing"]
def spIsName (K : PySem.W.Frag) : Sp := fun vs H Q _ => ∃ x, vs = [x] ∧ ((∃ z : Str, x = .str z ∧ z.length ≤ 1000 ∧ ∀ H', Same H H' → Q (.bl (nameB z)) H') ∨ (∃ U, TyOf K H x (.type U) ∧ PySem.W.kitOne K (.type U) (.type "str") = some false ∧ Q (.bl false) H))
theorem scIsName : FnScope psIsName psIsName (defScope sIsName) := ⟨rfl, rfl, rfl, by decide +kernel, rfl, by decide +kernel, by decide +kernel⟩
theorem okIsName {f : Addr} {fd : FuncData} (D : Fn K mg "is_name" sIsName psIsName f fd) (X : Txt mg) : FnOk P w K mg base CX0 1 f fd psIsName (spIsName K) := by
  refine D.F.ok scIsName (fun vs H Q E h => ?_) (fun cdv A outer s H vs Q E hr h => ?_)
  · obtain ⟨_, rfl, _⟩ := h
    rfl
  · obtain ⟨x, rfl, h⟩ := h
    refine ⟨_, (@pss_cons _ _ _ _ _ (@ps_if _ _ _ _ _ _ _ _ (PW.pt (@pw_or _ _ _ _ _ _ _ (@pt_not _ _ _ _ (@pt_val _ _ _ (@pe_callB _ _ _ _ _ _ _ _ (rIsi K) call_isi (by rfl) X.isinstance b_isinstance (@pa_cons _ _ _ _ _ (pv 0) (@pa_cons _ _ _ _ _ (@pe_ty _ _ _ _ rfl X.str b_isinst_str (by decide) (by decide)) pa_nil (by rfl)) (by rfl)) (by decide) (by decide) (by rfl) (by rfl)) (by intro _; rfl))) (@pw_or1 _ _ _ _ (@pt_not _ _ _ _ (@pt_chain _ _ _ _ _ _ _ _ _ _ _ _ op_le op_le pe_int (@pe_callB _ _ _ _ _ _ _ _ _ call_len_str (by rfl) X.len b_len (@pa_cons _ _ _ _ _ (pv 0) pa_nil (by rfl)) (by decide) (by decide) (by rfl) (by rfl)) pe_int (by with_unfolding_all rfl)))))) (@pss_one _ _ _ (@ps_ret _ _ _ _ pe_bl)) pss_nil) (@pss_one _ _ _ (@ps_ret _ _ _ _ (@pe_callB _ _ _ _ _ _ _ _ _ (call_all rfl) (by rfl) X.all b_all (@pa_cons _ _ _ _ _ (@pe_comp _ _ _ _ _ _ _ _ (tChain rLeS rLeS (tC (V.str "a")) (tVar 0) (tC (V.str "z"))) (["sign"]) ([]) (defScope sIsName) (psIsName) rfl rfl ⟨rfl, by decide +kernel, by decide +kernel, by decide +kernel, by decide +kernel⟩ rfl (@pi_str _ _ _ _ (pv 0)) (fun s H fp => pg_name (i := 0) (show (["sign"] : List Str).Nodup by decide +kernel) rfl (Or.inl rfl) (Or.inr rfl)) (fun s H fp => pe_chain op_le_str op_le_str pe_str (pv 0) pe_str) (by intro _; rfl)) pa_nil (by rfl)) (by decide) (by decide) (by rfl) (by rfl))))), ?_⟩
    rcases h with ⟨z, rfl, hz, k⟩ | ⟨U, hU, hk, q⟩
    · have hz' : z.length ≤ sizeLine := Nat.le_of_lt (small1000 hz)
      first | refine wV rfl ?_ | refine ⟨_, rfl, ?_⟩
      refine ⟨_, _, "str", true, rfl, TyOf.str z, k_str_str, true, rfl, iteF ?_⟩
      first | refine wV rfl ?_ | refine ⟨_, rfl, ?_⟩
      refine ⟨z, rfl, hz', _, _, rfl, rfl, _, rfl, ?_⟩
      by_cases h1 : 1 ≤ z.length
      · refine iteP (decide_eq_true (by omega)) ⟨_, _, rfl, rfl, _, rfl, ?_⟩
        by_cases h8 : z.length ≤ 8
        · rw [decide_eq_true (show (z.length : Int) ≤ 8 by omega)]
          refine iteF ?_
          first | refine wV rfl ?_ | refine ⟨_, rfl, ?_⟩
          refine ⟨z, rfl, ?_⟩
          refine fun l hl => ?_
          refine comp_gen (J := Its z) (n := z.cps.size) (fun σ => ∃ a, σ = [a]) (fun i y H => ∃ c, z.cps.toList[i]? = some c ∧ y = .bl (okC c)) (fun _ _ _ _ _ z => z) (by have : z.length = z.cps.size := rfl; omega) hl ⟨_, rfl⟩ (fun i H hi _ => ⟨z.cps[i], by simp [hi]⟩) (fun H _ => Nat.le_refl _) ?_ ?_
          · rintro C i σ H2 x H3 hi s2 ⟨x1, rfl⟩ ⟨rfl, c, hc, rfl⟩ kk
            have kc := kk [some (.str ⟨#[c]⟩)] (.bl (okC c)) _ (Same.refl _) ⟨_, rfl⟩ ⟨c, by simpa using hc, rfl⟩
            first | refine wV rfl ?_ | refine ⟨_, rfl, ?_⟩
            first | refine wI ?_ | refine wIc ?_ | refine ⟨_, _, rfl, rfl, ?_⟩
            first | refine wV rfl ?_ | refine ⟨_, rfl, ?_⟩
            rw [leA]
            by_cases ha : 97 ≤ c
            · refine iteP (decide_eq_true ha) ⟨_, _, rfl, rfl, ?_⟩
              rw [leZ]
              unfold okC at kc
              rw [decide_eq_true ha] at kc
              exact kc
            · refine iteQ (decide_eq_false ha) ?_
              unfold okC at kc
              rw [decide_eq_false ha] at kc
              exact kc
          · intro H2 ys s2 e2 hyl hyr
            have e := bools_of (g := okC) (qs := z.cps.toList) (by rw [hyl]; simp) hyr
            rw [e] at e2
            refine ⟨l, _, rfl, SqL.of e2, ?_⟩
            have kz := k H2 s2
            unfold nameB at kz
            rw [decide_eq_true h1, decide_eq_true h8] at kz
            have ee : (z.cps.toList.map okC).all id = z.cps.toList.all okC := by rw [List.all_map]; rfl
            rw [ee]
            exact kz
        · rw [decide_eq_false (show ¬ (z.length : Int) ≤ 8 by omega)]
          have kz := k H (Same.refl H)
          unfold nameB at kz
          rw [decide_eq_true h1, decide_eq_false h8] at kz
          exact iteT kz
      · refine iteQ (decide_eq_false (by omega)) ⟨_, rfl, ?_⟩
        have kz := k H (Same.refl H)
        unfold nameB at kz
        rw [decide_eq_false h1] at kz
        exact iteT kz
    · first | refine wV rfl ?_ | refine ⟨_, rfl, ?_⟩
      refine ⟨_, _, U, false, rfl, hU, hk, false, rfl, ?_⟩
      exact iteT (iteT q)
def Lower (z : Str) : Prop := ∀ c ∈ z.cps.toList, okC c = true
theorem mem_foldl {c : Nat} {a : Array Nat} : ∀ {n : Nat} {b : Array Nat}, c ∈ ((List.replicate n a).foldl (· ++ ·) b).toList → c ∈ b.toList ∨ c ∈ a.toList
  | 0, b, h => .inl h
  | n + 1, b, h => by
    rw [List.replicate_succ, List.foldl_cons] at h
    rcases mem_foldl h with h | h
    · rw [Array.toList_append, List.mem_append] at h
      exact h
    · exact .inr h
theorem Lower.mul {z : Str} (h : Lower z) (n : Int) : Lower (Txt.mul z n) := fun c hc => by
  unfold Txt.mul at hc
  split at hc
  · cases hc
  · split at hc
    · exact h c hc
    · rcases mem_foldl hc with hc | hc
      · cases hc
      · exact h c hc
theorem Lower.slice {z : Str} (h : Lower z) (l u : Option Int) : Lower (Txt.slice z l u) := fun c hc => by
  unfold Txt.slice at hc
  split at hc
  · exact h c hc
  · simp only [List.mem_filterMap] at hc
    obtain ⟨i, _, e⟩ := hc
    exact h c (by rw [Array.mem_toList_iff]; exact Array.mem_of_getElem? e)
theorem nameB_of {z : Str} (h : Lower z) (h1 : 1 ≤ z.length) (h8 : z.length ≤ 8) : nameB z = true := by
  unfold nameB
  rw [decide_eq_true h1, decide_eq_true h8, List.all_eq_true.mpr h]
  rfl
theorem nameB_not {z : Str} {c : Nat} (h : c ∈ z.cps.toList) (hc : okC c = false) : nameB z = false := by
  unfold nameB
  have e : z.cps.toList.all okC = false := by
    rw [List.all_eq_false]
    exact ⟨c, h, by rw [hc]; decide⟩
  rw [e, Bool.and_false]
theorem nameB_len {z : Str} (h : ¬ (1 ≤ z.length ∧ z.length ≤ 8)) : nameB z = false := by
  unfold nameB
  by_cases h1 : 1 ≤ z.length
  · rw [decide_eq_false (show ¬ z.length ≤ 8 from fun h8 => h ⟨h1, h8⟩)]
    simp
  · rw [decide_eq_false h1]
    simp
theorem len_cut {z : Str} {n : Nat} (h1 : 1 ≤ z.length) (hn : 1 ≤ n) : (Txt.slice (Txt.mul z n) none (some n)).length = n := by
  have e : ((Txt.mul z n).length : Int) = z.length * n := by
    rw [len_mul, if_neg]
    simp
  have h2 : n ≤ (Txt.mul z n).length := by
    have : (n : Int) ≤ (z.length : Int) * n := by
      have := Int.mul_le_mul_of_nonneg_right (show (1 : Int) ≤ z.length by omega) (show (0 : Int) ≤ n by omega)
      omega
    omega
  rcases slice_ns_cases (Txt.mul z n) n (by omega) with ⟨_, h⟩ | ⟨h, _⟩ <;> omega
end
end VK
namespace VK
open PySem PySem.Spec PyProof.Rows L2
section
variable {P : Program} {w : World} {K : PySem.W.Frag} {mg : Str → Option Value} {base : Heap}
abbrev sMixed : Stmt := top 34
abbrev psMixed : List Str := ["_law_cell"]
def spMixed : Sp := fun vs H Q _ => ∃ c : Int, vs = [.int c] ∧ ∀ m : Int, Q (.int m) H
theorem scMixed : FnScope psMixed psMixed (defScope sMixed) := ⟨rfl, rfl, rfl, by decide +kernel, rfl, by decide +kernel, by decide +kernel⟩
theorem p30 : (0 : Int) < 10 ^ (30 : Int).toNat := by decide +kernel
theorem okMixed {f : Addr} {fd : FuncData} (D : Fn K mg "_law_mixed" sMixed psMixed f fd) : FnOk P w K mg base CX0 1 f fd psMixed spMixed := by
  refine D.F.ok scMixed (fun vs H Q E h => ?_) (fun cdv A outer s H vs Q E hr h => ?_)
  · obtain ⟨c, rfl, _⟩ := h
    rfl
  · obtain ⟨c, rfl, q⟩ := h
    refine ⟨_, pss_one (@ps_ret _ _ _ _ (@pe_op _ _ _ _ _ _ _ _ op_add (@pe_op _ _ _ _ _ _ _ _ op_mod (@pe_op _ _ _ _ _ _ _ _ op_mul (pv 0) pe_int) pe_int) (@pe_op _ _ _ _ _ _ _ _ op_mul pe_int (@pe_op _ _ _ _ _ _ _ _ op_mod (pv 0) (@pe_op _ _ _ _ _ _ _ _ op_pow pe_int pe_int))))), ?_⟩
    first | refine wV rfl ?_ | refine ⟨_, rfl, ?_⟩
    first | refine wC (.inr ⟨by decide, by decide⟩) ?_ | refine wCc (.inr ⟨by decide, by decide⟩) ?_ | refine ⟨_, _, rfl, rfl, .inr ⟨by decide, by decide⟩, ?_⟩
    first | refine wC (show (0 : Int) < 2147483629 by decide) ?_ | refine wCc (show (0 : Int) < 2147483629 by decide) ?_ | refine ⟨_, _, rfl, rfl, (show (0 : Int) < 2147483629 by decide), ?_⟩
    first | refine wV rfl ?_ | refine ⟨_, rfl, ?_⟩
    first | refine wC (c10 (by decide) (by decide) (by decide)) ?_ | refine wCc (c10 (by decide) (by decide) (by decide)) ?_ | refine ⟨_, _, rfl, rfl, c10 (by decide) (by decide) (by decide), ?_⟩
    first | refine wC p30 ?_ | refine wCc p30 ?_ | refine ⟨_, _, rfl, rfl, p30, ?_⟩
    first | refine wC (.inl ⟨by decide, by decide⟩) ?_ | refine wCc (.inl ⟨by decide, by decide⟩) ?_ | refine ⟨_, _, rfl, rfl, .inl ⟨by decide, by decide⟩, ?_⟩
    first | refine wI ?_ | refine wIc ?_ | refine ⟨_, _, rfl, rfl, ?_⟩
    refine q _
abbrev sWhole : Stmt := top 33
abbrev psWhole : List Str := ["_law_found"]
def spWhole : Sp := fun vs H Q _ => ∃ i : Int, vs = [.int i] ∧ Q (.bl true) H
theorem scWhole : FnScope psWhole psWhole (defScope sWhole) := ⟨rfl, rfl, rfl, by decide +kernel, rfl, by decide +kernel, by decide +kernel⟩
theorem okWhole {f : Addr} {fd : FuncData} (D : Fn K mg "_law_whole" sWhole psWhole f fd) (T : Txt mg) : FnOk P w K mg base CX0 1 f fd psWhole spWhole := by
  refine D.F.ok scWhole (fun vs H Q E h => ?_) (fun cdv A outer s H vs Q E hr h => ?_)
  · obtain ⟨i, rfl, _⟩ := h
    rfl
  · obtain ⟨i, rfl, q⟩ := h
    refine ⟨_, pss_one (@ps_ret _ _ _ _ (@pe_and _ _ _ _ _ _ _ (@pe_callB _ _ _ _ _ _ _ _ _ call_isinst (by rfl) T.isinstance b_isinstance (@pa_cons _ _ _ _ _ (pv 0) (@pa_cons _ _ _ _ _ (@pe_ty _ _ _ _ rfl T.int b_int (by decide) (by decide)) pa_nil (by rfl)) (by rfl)) (by decide) (by decide) (by rfl) (by rfl)) (@pe_one _ _ _ _ _ (@pe_not _ _ _ _ (@pe_callB _ _ _ _ _ _ _ _ _ call_isinst (by rfl) T.isinstance b_isinstance (@pa_cons _ _ _ _ _ (pv 0) (@pa_cons _ _ _ _ _ (@pe_ty _ _ _ _ rfl T.bool b_bool (by decide) (by decide)) pa_nil (by rfl)) (by rfl)) (by decide) (by decide) (by rfl) (by rfl)))))), ?_⟩
    first | refine wV rfl ?_ | refine ⟨_, rfl, ?_⟩
    refine ⟨_, _, "int", true, rfl, TyOf.int i, k_int_int, true, rfl, iteT ?_⟩
    first | refine wV rfl ?_ | refine ⟨_, rfl, ?_⟩
    refine ⟨_, _, "int", false, rfl, TyOf.int i, k_int_bool, false, rfl, q⟩
abbrev sDigits : Stmt := top 35
abbrev psDigits : List Str := ["_law_number", "_law_many", "_law_top"]
abbrev nDigits : List Str := ["_law_number", "_law_many", "_law_top", "_law_found", "_law_k"]
def spDigits : Sp := fun vs H Q _ => ∃ (n m top : Int), vs = [.int n, .int m, .int top] ∧ 0 ≤ m ∧ m ≤ 13 ∧ 0 < top ∧ top < 1000 ∧ ∀ l H' (ds : List Int), Same H H' → (ds.length : Int) = m → (∀ d ∈ ds, 0 ≤ d ∧ d < top) → H' l = some (.lst (ds.map V.int)) → Q (.ref l) H'
theorem scDigits : FnScope nDigits psDigits (defScope sDigits) := ⟨rfl, rfl, rfl, by decide +kernel, rfl, by decide +kernel, by decide +kernel⟩
theorem okDigits {f : Addr} {fd : FuncData} (D : Fn K mg "_law_digits" sDigits psDigits f fd) (X : Txt mg) : FnOk P w K mg base CX0 1 f fd psDigits spDigits := by
  refine D.F.ok scDigits (fun vs H Q E h => ?_) (fun cdv A outer s H vs Q E hr h => ?_)
  · obtain ⟨_, _, _, rfl, _⟩ := h
    rfl
  · obtain ⟨n, m0, top, rfl, hm0, hm, ht, ht2, q⟩ := h
    have nd := scDigits.nd
    obtain ⟨m, rfl⟩ : ∃ m : Nat, m0 = (m : Int) := ⟨m0.toNat, by omega⟩
    refine ⟨_, (@pss_cons _ _ _ _ _ (@ps_set _ _ (3) _ _ _ _ nd rfl (Or.inl rfl) (@pe_lst _ _ _ _ pa_nil) (by rfl) (by first | exact .inl rfl | exact .inr rfl | assumption)) (@pss_cons _ _ _ _ _ (@ps_for _ _ _ _ _ _ _ _ PassesOwn.never rfl (@pi_range1 _ _ _ _ _ _ rfl X.range (@pa_cons _ _ _ _ _ (pv 1) pa_nil (by rfl)) (by rfl)) (@pg_name _ _ (4) _ nd rfl (Or.inl rfl) (by first | exact .inl rfl | exact .inr rfl | assumption)) (@pss_cons _ _ _ _ _ (@ps_expr _ _ _ _ (@pe_bm _ _ _ _ _ _ _ _ _ _ _ _ PySem.F.plainAttrs_list PySem.F.slot_list_append PySem.F.type_list_append mt_append (pv 3) (@pa_cons _ _ _ _ _ (@pe_op _ _ _ _ _ _ _ _ op_mod (pv 0) (pv 2)) pa_nil (by rfl)) (by rfl) (by rfl) (by rfl) (by rfl) (by rfl)) (by rfl)) (@pss_one _ _ _ (@ps_set _ _ (0) _ _ _ _ nd rfl (Or.inl rfl) (@pe_op _ _ _ _ _ _ _ _ op_fdiv (pv 0) (pv 2)) (by rfl) (by first | exact .inl rfl | exact .inr rfl | assumption)))) (by intro _; rfl)) (@pss_one _ _ _ (@ps_ret _ _ _ _ (pv 3))))), ?_⟩
    refine ⟨Nat.zero_le _, ?_⟩
    refine fun l hfr => ?_
    first | refine wV rfl ?_ | refine ⟨_, rfl, ?_⟩
    first | refine wV rfl ?_ | refine ⟨_, rfl, ?_⟩
    refine ⟨by omega, by omega, ?_⟩
    refine for_range (lo := 0) (n := m) (fun i σ H1 => ∃ (n' : Int) (kx : Option V) (ds : List Int), σ = [some (.int n'), some (.int m), some (.int top), some (.ref l), kx] ∧ Same H H1 ∧ H1 l = some (.lst (ds.map V.int)) ∧ ds.length = i ∧ ∀ d ∈ ds, 0 ≤ d ∧ d < top) ⟨n, none, [], rfl, (Same.refl H).upd hfr, upd_same, rfl, nofun⟩ ?_ ?_
    · rintro i σ H1 hi ⟨n', kx, ds, rfl, s1, hl1, hlen, hds⟩
      first | refine wV rfl ?_ | refine ⟨_, rfl, ?_⟩
      refine ⟨.inl ⟨rfl, _, SqL.of hl1⟩, ?_⟩
      first | refine wV rfl ?_ | refine ⟨_, rfl, ?_⟩
      first | refine wV rfl ?_ | refine ⟨_, rfl, ?_⟩
      first | refine wC ht ?_ | refine wCc ht ?_ | refine ⟨_, _, rfl, rfl, ht, ?_⟩
      refine ⟨l, _, _, rfl, rfl, hl1, small1000 (by rw [List.length_map]; omega), ?_⟩
      first | refine wV rfl ?_ | refine ⟨_, rfl, ?_⟩
      first | refine wV rfl ?_ | refine ⟨_, rfl, ?_⟩
      first | refine wC ⟨ht, by omega⟩ ?_ | refine wCc ⟨ht, by omega⟩ ?_ | refine ⟨_, _, rfl, rfl, ⟨ht, by omega⟩, ?_⟩
      refine ⟨_, _, ds ++ [n' % top], rfl, fun b o z => ?_, ?_, by simp [hlen], fun d hd => ?_⟩
      · rw [upd_ne (ne_of_none z hfr)]
        exact s1 b o z
      · rw [upd_same, List.map_append]
        rfl
      · rcases List.mem_append.mp hd with hd | hd
        · exact hds d hd
        · simp only [List.mem_cons, List.not_mem_nil, or_false] at hd
          subst hd
          refine ⟨Int.emod_nonneg _ (by omega), ?_⟩
          refine Int.emod_lt_of_pos _ ht
    · rintro σ H1 ⟨n', kx, ds, rfl, s1, hl1, hlen, hds⟩
      first | refine wV rfl ?_ | refine ⟨_, rfl, ?_⟩
      refine q l H1 ds s1 (by omega) hds hl1
def abc : Str := "abcdefghijklmnopqrstuvwxyz"
theorem abc_list : abc.cps.toList = List.range' 97 26 := by decide +kernel
theorem abc_at {i : Int} (h0 : 0 ≤ i) (h1 : i < 26) : atI abc.cps.toList i = some (97 + i.toNat) := by
  obtain ⟨k, rfl⟩ : ∃ k : Nat, i = (k : Int) := ⟨i.toNat, by omega⟩
  rw [abc_list]
  refine atI_nat ?_
  rw [List.getElem?_range' (by omega)]
  simp
theorem abc_len : abc.length ≤ sizeLine := by decide +kernel
def one (c : Nat) : Str := ⟨#[c]⟩
theorem ex_ok {c : Nat} (h : c < 26) : okC (97 + c) = true := by
  unfold okC
  rw [decide_eq_true (by omega), decide_eq_true (by omega)]
  rfl
theorem join_of : ∀ {cs : List Nat}, 1 ≤ cs.length → cs.length ≤ 5 → JoinOk "" (cs.map one) = true ∧ Txt.join "" (cs.map one) = ⟨cs.toArray⟩ := by
  intro cs h1 h5
  have e : Str.ofString "" = ⟨#[]⟩ := by decide +kernel
  match cs, h1, h5 with
  | [a], _, _ => rw [e]; exact ⟨rfl, rfl⟩
  | [a, b], _, _ => rw [e]; exact ⟨rfl, rfl⟩
  | [a, b, c], _, _ => rw [e]; exact ⟨rfl, rfl⟩
  | [a, b, c, d], _, _ => rw [e]; exact ⟨rfl, rfl⟩
  | [a, b, c, d, f], _, _ => rw [e]; exact ⟨rfl, rfl⟩
  | _ :: _ :: _ :: _ :: _ :: _ :: _, _, h => exact absurd h (by simp only [List.length_cons]; omega)
theorem ones_of : ∀ {ys : List V}, (∀ (i : Nat) (y : V), ys[i]? = some y → ∃ c, okC c = true ∧ y = .str (one c)) → ∃ cs : List Nat, ys = (cs.map one).map V.str ∧ ∀ c ∈ cs, okC c = true
  | [], _ => ⟨[], rfl, nofun⟩
  | y :: ys, h => by
    obtain ⟨c, hc, rfl⟩ := h 0 y rfl
    obtain ⟨cs, rfl, hn⟩ := ones_of (ys := ys) fun i z e => h (i + 1) z (by simpa using e)
    exact ⟨c :: cs, rfl, fun q hq => by rcases List.mem_cons.mp hq with rfl | hq <;> first | exact hc | exact hn q hq⟩
abbrev sNames : Stmt := top 36
abbrev psNames : List Str := ["_law_cell"]
abbrev nNames : List Str := ["_law_cell", "_law_letters", "_law_number", "_law_base", "_law_at", "_law_names_here", "_law_j"]
def NmsL (zs : List Str) : Prop := zs.length = 4 ∧ ∃ L : Nat, 1 ≤ L ∧ L ≤ 5 ∧ ∀ z ∈ zs, z.length = L ∧ Lower z
def spNames : Sp := fun vs H Q _ => ∃ c : Int, vs = [.int c] ∧ ∀ l H' (zs : List Str), Same H H' → NmsL zs → H' l = some (.lst (zs.map V.str)) → Q (.ref l) H'
theorem scNames : FnScope nNames psNames (defScope sNames) := ⟨rfl, rfl, rfl, by decide +kernel, rfl, by decide +kernel, by decide +kernel⟩
theorem okNames {f fM fD : Addr} {fd fdM fdD : FuncData} (D : Fn K mg "_law_names" sNames psNames f fd) (X : Txt mg) (DM : Fn K mg "_law_mixed" sMixed psMixed fM fdM) (DD : Fn K mg "_law_digits" sDigits psDigits fD fdD) : FnOk P w K mg base CX0 2 f fd psNames spNames := by
  have GM : FnOk P w K mg base CX0 1 fM fdM psMixed spMixed := okMixed DM
  have GD : FnOk P w K mg base CX0 1 fD fdD psDigits spDigits := okDigits DD X
  refine D.F.ok (k := 1) scNames (fun vs H Q E h => ?_) (fun cdv A outer s H vs Q E hr h => ?_)
  · obtain ⟨_, rfl, _⟩ := h
    rfl
  · obtain ⟨c, rfl, k⟩ := h
    have nd := scNames.nd
    refine ⟨_, (@pss_cons _ _ _ _ _ (@ps_set _ _ (1) _ _ _ _ nd rfl (Or.inr rfl) pe_str (by rfl) (by first | exact .inl rfl | exact .inr rfl | assumption)) (@pss_cons _ _ _ _ _ (@ps_set _ _ (2) _ _ _ _ nd rfl (Or.inl rfl) (@pe_call _ _ _ _ _ _ _ _ _ _ _ _ _ _ _ _ GM hr rfl DM.m DM.F.kp DM.b .nil pass0 (@pa_cons _ _ _ _ _ (pv 0) pa_nil (by rfl)) (by decide) (by rfl) (by rfl)) (by rfl) (by first | exact .inl rfl | exact .inr rfl | assumption)) (@pss_cons _ _ _ _ _ (@ps_set _ _ (3) _ _ _ _ nd rfl (Or.inr rfl) (@pe_call _ _ _ _ _ _ _ _ _ _ _ _ _ _ _ _ GD hr rfl DD.m DD.F.kp DD.b .nil pass0 (@pa_cons _ _ _ _ _ (@pe_op _ _ _ _ _ _ _ _ op_fdiv (pv 2) pe_int) (@pa_cons _ _ _ _ _ (@pe_op _ _ _ _ _ _ _ _ op_add pe_int (@pe_op _ _ _ _ _ _ _ _ op_mod (pv 2) pe_int)) (@pa_cons _ _ _ _ _ pe_int pa_nil (by rfl)) (by rfl)) (by rfl)) (by decide) (by rfl) (by rfl)) (by rfl) (by first | exact .inl rfl | exact .inr rfl | assumption)) (@pss_cons _ _ _ _ _ (@ps_set _ _ (4) _ _ _ _ nd rfl (Or.inr rfl) (@pe_op _ _ _ _ _ _ _ _ op_mod (@pe_op _ _ _ _ _ _ _ _ op_mod (@pe_op _ _ _ _ _ _ _ _ op_fdiv (pv 2) pe_int) pe_int) (@pe_callB _ _ _ _ _ _ _ _ _ (lenK K) (by rfl) X.len b_len (@pa_cons _ _ _ _ _ (pv 3) pa_nil (by rfl)) (by decide) (by decide) (by rfl) (by rfl))) (by rfl) (by first | exact .inl rfl | exact .inr rfl | assumption)) (@pss_cons _ _ _ _ _ (@ps_set _ _ (5) _ _ _ _ nd rfl (Or.inl rfl) (@pe_lst _ _ _ _ pa_nil) (by rfl) (by first | exact .inl rfl | exact .inr rfl | assumption)) (@pss_cons _ _ _ _ _ (@ps_for _ _ _ _ _ _ _ _ PassesOwn.never rfl (@pi_range1 _ _ _ _ _ _ rfl X.range (@pa_cons _ _ _ _ _ pe_int pa_nil (by rfl)) (by rfl)) (@pg_name _ _ (6) _ nd rfl (Or.inr rfl) (by first | exact .inl rfl | exact .inr rfl | assumption)) (@pss_one _ _ _ (@ps_expr _ _ _ _ (@pe_bm _ _ _ _ _ _ _ _ _ _ _ _ PySem.F.plainAttrs_list PySem.F.slot_list_append PySem.F.type_list_append mt_append (pv 5) (@pa_cons _ _ _ _ _ (@pe_bm _ _ _ _ _ _ _ _ _ _ _ _ PySem.F.plainAttrs_str PySem.F.slot_str_join PySem.F.type_str_join mt_join pe_str (@pa_cons _ _ _ _ _ (@pe_comp _ _ _ _ _ _ _ _ (tOp rIxS (tVar 4) (tOp _ (tOp _ (tOp (rIxL K) (tVar 2) (tVar 0)) _) _)) (["_law_k"]) ([("_law_at", 4), ("_law_base", 3), ("_law_j", 6), ("_law_letters", 1)]) (defScope sNames) (nNames) rfl rfl ⟨rfl, by decide +kernel, by decide +kernel, by decide +kernel, by decide +kernel⟩ rfl (@pi_range1 _ _ _ _ _ _ rfl X.range (@pa_cons _ _ _ _ _ (@pe_callB _ _ _ _ _ _ _ _ _ (lenK K) (by rfl) X.len b_len (@pa_cons _ _ _ _ _ (pv 3) pa_nil (by rfl)) (by decide) (by decide) (by rfl) (by rfl)) pa_nil (by rfl)) (by rfl)) (fun s H fp => pg_name (i := 0) (show (["_law_k", "_law_at", "_law_base", "_law_j", "_law_letters"] : List Str).Nodup by decide +kernel) rfl (Or.inl rfl) (Or.inr rfl)) (fun s H fp => pe_ix ix_str (pv 4) (@pe_op _ _ _ _ _ _ _ _ op_mod (@pe_op _ _ _ _ _ _ _ _ op_add (@pe_ix _ _ _ _ _ _ _ (ixL K) (pv 2) (pv 0) (fun _ _ => rfl)) (@pe_op _ _ _ _ _ _ _ _ op_mul (pv 3) (@pe_callTy _ _ _ _ _ _ _ _ _ call_int1 rfl X.int b_int (@pa_cons _ _ _ _ _ (@pe_cmpR _ _ _ _ _ _ _ _ op_eq (pv 0) (pv 1) (nomark _)) pa_nil (by rfl)) (by decide) (by decide) (by rfl) (by rfl)))) pe_int) (fun _ _ => rfl)) (by intro _; rfl)) pa_nil (by rfl)) (by rfl) (by rfl) (by rfl) (by rfl) (by rfl)) pa_nil (by rfl)) (by rfl) (by rfl) (by rfl) (by rfl) (by rfl)) (by rfl))) (by intro _; rfl)) (@pss_one _ _ _ (@ps_ret _ _ _ _ (pv 5))))))))), ?_⟩
    first | refine wV rfl ?_ | refine ⟨_, rfl, ?_⟩
    refine ⟨c, rfl, ?_⟩
    refine fun m => ?_
    first | refine wV rfl ?_ | refine ⟨_, rfl, ?_⟩
    first | refine wC ⟨by decide, by decide⟩ ?_ | refine wCc ⟨by decide, by decide⟩ ?_ | refine ⟨_, _, rfl, rfl, ⟨by decide, by decide⟩, ?_⟩
    first | refine wV rfl ?_ | refine ⟨_, rfl, ?_⟩
    first | refine wC (show (0 : Int) < 5 by decide) ?_ | refine wCc (show (0 : Int) < 5 by decide) ?_ | refine ⟨_, _, rfl, rfl, (show (0 : Int) < 5 by decide), ?_⟩
    first | refine wI ?_ | refine wIc ?_ | refine ⟨_, _, rfl, rfl, ?_⟩
    refine ⟨m / 25, 1 + m % 5, 26, rfl, by omega, by omega, by decide, by decide, ?_⟩
    refine fun lb H1 ds s1 hdl hds e1 => ?_
    have hd1 : 1 ≤ ds.length ∧ ds.length ≤ 5 := by omega
    first | refine wV rfl ?_ | refine ⟨_, rfl, ?_⟩
    first | refine wC ⟨by decide, by decide⟩ ?_ | refine wCc ⟨by decide, by decide⟩ ?_ | refine ⟨_, _, rfl, rfl, ⟨by decide, by decide⟩, ?_⟩
    first | refine wC (show (0 : Int) < 5 by decide) ?_ | refine wCc (show (0 : Int) < 5 by decide) ?_ | refine ⟨_, _, rfl, rfl, (show (0 : Int) < 5 by decide), ?_⟩
    first | refine wV rfl ?_ | refine ⟨_, rfl, ?_⟩
    refine ⟨lb, _, rfl, .inl (SqL.of e1), ?_⟩
    first | refine wC (show (0 : Int) < ((ds.map V.int).length : Int) by rw [List.length_map]; omega) ?_ | refine wCc (show (0 : Int) < ((ds.map V.int).length : Int) by rw [List.length_map]; omega) ?_ | refine ⟨_, _, rfl, rfl, (show (0 : Int) < ((ds.map V.int).length : Int) by rw [List.length_map]; omega), ?_⟩
    refine ⟨Nat.zero_le _, ?_⟩
    refine fun l hl => ?_
    refine ⟨(4 : Nat), rfl, by decide, by decide, ?_⟩
    refine for_range (lo := 0) (n := 4) (fun i σ H2 => ∃ (x6 : Option V) (zs : List Str), σ = [some (.int c), some (.str abc), some (.int m), some (.ref lb), some (.int (m / 5 % 5 % ((ds.map V.int).length : Int))), some (.ref l), x6] ∧ Same H1 H2 ∧ H2 l = some (.lst (zs.map V.str)) ∧ zs.length = i ∧ ∀ z ∈ zs, z.length = ds.length ∧ Lower z) ⟨none, [], rfl, (Same.refl H1).upd hl, upd_same, rfl, nofun⟩ ?_ ?_
    · rintro i σ H2 hi ⟨x6, zs, rfl, s2, hl2, hlen, hzs⟩
      have e2 := s2 _ _ e1
      first | refine wV rfl ?_ | refine ⟨_, rfl, ?_⟩
      refine ⟨.inl ⟨rfl, _, SqL.of hl2⟩, rfl, ?_⟩
      first | refine wV rfl ?_ | refine ⟨_, rfl, ?_⟩
      refine ⟨lb, _, rfl, .inl (SqL.of e2), ?_⟩
      refine ⟨(ds.length : Int), congrArg (fun z : Nat => [V.int (z : Int)]) (List.length_map _), by omega, by omega, ?_⟩
      refine fun lc hlc => ?_
      refine comp_R (n := ds.length) (fun σ => ∃ x, σ = [x, some (.int (m / 5 % 5 % ((ds.map V.int).length : Int))), some (.ref lb), some (.int (0 + (i : Int))), some (.str abc)]) (fun i y H => ∃ c, okC c = true ∧ y = .str (one c)) (fun _ _ _ _ _ z => z) (by omega) hlc ⟨_, rfl⟩ ?_ ?_
      · rintro C j σ H3 hj s3 ⟨x1, rfl⟩ kk
        have hdj : (ds.map V.int)[j]? = some (.int ds[j]) := by rw [List.getElem?_map, List.getElem?_eq_getElem hj]; rfl
        have hdj' : atI (ds.map V.int) (0 + (j : Int)) = some (.int ds[j]) := by rw [Int.zero_add]; exact atI_nat hdj
        first | refine wV rfl ?_ | refine ⟨_, rfl, ?_⟩
        first | refine wV rfl ?_ | refine ⟨_, rfl, ?_⟩
        first | refine wV rfl ?_ | refine ⟨_, rfl, ?_⟩
        refine ⟨lb, _, _, _, rfl, rfl, SqL.of (s3 _ _ e2), hdj', _, rfl, _, rfl, _, rfl, rfl, .inr ⟨_, rfl, ?_⟩⟩
        first | refine wI ?_ | refine wIc ?_ | refine ⟨_, _, rfl, rfl, ?_⟩
        refine ⟨.inr ?_, _, _, rfl, rfl, _, _, rfl, rfl, (show (0 : Int) < 26 by decide), ?_⟩
        · split <;> exact ⟨by decide, by decide⟩
        · refine ⟨abc, _, _, rfl, rfl, abc_len, abc_at (Int.emod_nonneg _ (by decide)) (Int.emod_lt_of_pos _ (by decide)), ?_⟩
          exact kk _ _ _ (Same.refl _) ⟨_, rfl⟩ ⟨_, ex_ok (by have := Int.emod_lt_of_pos (ds[j] + (0 + (i : Int)) * (if decide (V.int (0 + (j : Int)) = V.int (m / 5 % 5 % ((ds.map V.int).length : Int))) = true then 1 else 0)) (show (0 : Int) < 26 by decide); omega), rfl⟩
      · intro H3 ys s3 e3 hyl hyr
        obtain ⟨cs, rfl, hcs⟩ := ones_of hyr
        rw [List.length_map, List.length_map] at hyl
        obtain ⟨j1, j2⟩ := join_of (cs := cs) (by omega) (by omega)
        refine ⟨"", lc, _, rfl, rfl, SqL.of e3, j1, ?_⟩
        rw [j2]
        have hl3 := s3 _ _ hl2
        refine ⟨l, _, _, rfl, rfl, hl3, small1000 (by rw [List.length_map]; omega), ?_⟩
        refine ⟨_, zs ++ [⟨cs.toArray⟩], rfl, fun b o z => ?_, ?_, by simp [hlen], fun z hz => ?_⟩
        · rw [upd_ne (ne_of_none z hl)]
          exact s3 _ _ (s2 b o z)
        · rw [upd_same, List.map_append]
          rfl
        · rcases List.mem_append.mp hz with hz | hz
          · exact hzs z hz
          · simp only [List.mem_cons, List.not_mem_nil, or_false] at hz
            subst hz
            refine ⟨hyl, ?_⟩
            refine fun c hc => ?_
            refine hcs c hc
    · rintro σ H2 ⟨x6, zs, rfl, s2, hl2, hlen, hzs⟩
      first | refine wV rfl ?_ | refine ⟨_, rfl, ?_⟩
      refine k l H2 zs (s1.trans s2) ⟨hlen, ds.length, hd1.1, hd1.2, hzs⟩ hl2
def fresh (z : Str) (k : Nat) : Str := z ++ one (97 + k % 26) ++ one (97 + k / 26 % 26)
abbrev sFresh : Stmt := top 37
abbrev psFresh : List Str := ["_law_names_here", "_law_k"]
abbrev nFresh : List Str := ["_law_names_here", "_law_k", "_law_letters"]
def spFresh : Sp := fun vs H Q _ => ∃ (l : Addr) (zs : List Str) (z0 : Str) (k : Nat), vs = [.ref l, .int k] ∧ H l = some (.lst (zs.map V.str)) ∧ zs[0]? = some z0 ∧ z0.length ≤ 100 ∧ Q (.str (fresh z0 k)) H
theorem scFresh : FnScope nFresh psFresh (defScope sFresh) := ⟨rfl, rfl, rfl, by decide +kernel, rfl, by decide +kernel, by decide +kernel⟩
theorem okFresh {f : Addr} {fd : FuncData} (D : Fn K mg "_law_fresh" sFresh psFresh f fd) : FnOk P w K mg base CX0 1 f fd psFresh spFresh := by
  refine D.F.ok scFresh (fun vs H Q E h => ?_) (fun cdv A outer s H vs Q E hr h => ?_)
  · obtain ⟨_, _, _, _, rfl, _⟩ := h
    rfl
  · obtain ⟨l, zs, z0, k, rfl, hl, hz, hz2, q⟩ := h
    have nd := scFresh.nd
    refine ⟨_, (@pss_cons _ _ _ _ _ (@ps_set _ _ (2) _ _ _ _ nd rfl (Or.inl rfl) pe_str (by rfl) (by first | exact .inl rfl | exact .inr rfl | assumption)) (@pss_one _ _ _ (@ps_ret _ _ _ _ (@pe_op _ _ _ _ _ _ _ _ op_add_str (@pe_op _ _ _ _ _ _ _ _ op_add_str (@pe_ix _ _ _ _ _ _ _ (ixL K) (pv 0) pe_int (fun _ _ => rfl)) (@pe_ix _ _ _ _ _ _ _ ix_str (pv 2) (@pe_op _ _ _ _ _ _ _ _ op_mod (pv 1) pe_int) (fun _ _ => rfl))) (@pe_ix _ _ _ _ _ _ _ ix_str (pv 2) (@pe_op _ _ _ _ _ _ _ _ op_mod (@pe_op _ _ _ _ _ _ _ _ op_fdiv (pv 1) pe_int) pe_int) (fun _ _ => rfl)))))), ?_⟩
    have h0 : atI (zs.map V.str) 0 = some (.str z0) := atI_nat (j := 0) (by rw [List.getElem?_map, hz]; rfl)
    first | refine wV rfl ?_ | refine ⟨_, rfl, ?_⟩
    refine ⟨l, _, _, _, rfl, rfl, SqL.of hl, h0, _, rfl, _, rfl, _, _, rfl, rfl, (show (0 : Int) < 26 by decide), abc, _, _, rfl, rfl, abc_len, abc_at (Int.emod_nonneg _ (by decide)) (Int.emod_lt_of_pos _ (by decide)), _, _, rfl, rfl, ?_, ?_⟩
    · show z0.length + 1 ≤ sizeLine
      exact Nat.le_trans (show z0.length + 1 ≤ 101 by omega) (by decide)
    · first | refine wV rfl ?_ | refine ⟨_, rfl, ?_⟩
      first | refine wV rfl ?_ | refine ⟨_, rfl, ?_⟩
      first | refine wC ⟨by decide, by decide⟩ ?_ | refine wCc ⟨by decide, by decide⟩ ?_ | refine ⟨_, _, rfl, rfl, ⟨by decide, by decide⟩, ?_⟩
      first | refine wC (show (0 : Int) < 26 by decide) ?_ | refine wCc (show (0 : Int) < 26 by decide) ?_ | refine ⟨_, _, rfl, rfl, (show (0 : Int) < 26 by decide), ?_⟩
      refine ⟨abc, _, _, rfl, rfl, abc_len, abc_at (Int.emod_nonneg _ (by decide)) (Int.emod_lt_of_pos _ (by decide)), _, _, rfl, rfl, ?_, ?_⟩
      · have e : (z0 ++ (⟨#[97 + ((k : Int) % 26).toNat]⟩ : Str)).length = z0.length + 1 := by show (z0.cps ++ #[_]).size = _; rw [Array.size_append]; rfl
        rw [e]
        show z0.length + 1 + 1 ≤ sizeLine
        exact Nat.le_trans (show z0.length + 1 + 1 ≤ 102 by omega) (by decide)
      · have e1 : ((k : Int) % 26).toNat = k % 26 := by omega
        have e2 : ((k : Int) / 26 % 26).toNat = k / 26 % 26 := by omega
        rw [e1, e2]
        exact q
theorem cps_cat (a b : Str) : (a ++ b).cps.toList = a.cps.toList ++ b.cps.toList := Array.toList_append
theorem len_cat (a b : Str) : (a ++ b).length = a.length + b.length := Array.size_append
theorem len_fresh (z : Str) (k : Nat) : (fresh z k).length = z.length + 2 := by
  unfold fresh
  rw [len_cat, len_cat]
  rfl
theorem fresh_ne {z : Str} {k j : Nat} (hk : k < 676) (hj : j < 676) (e : fresh z k = fresh z j) : k = j := by
  have h := congrArg (fun s : Str => s.cps.toList) e
  simp only [fresh, cps_cat] at h
  rw [List.append_assoc, List.append_assoc] at h
  have h2 := List.append_cancel_left h
  simp only [one, List.cons_append, List.nil_append, List.cons.injEq, and_true] at h2
  have h3 : 97 + k % 26 = 97 + j % 26 ∧ 97 + k / 26 % 26 = 97 + j / 26 % 26 := h2
  omega
end
end VK
namespace VK
open PySem PySem.Spec PyProof.Rows L2
section
variable {P : Program} {w : World} {K : PySem.W.Frag} {mg : Str → Option Value} {base : Heap}
theorem Parts.nil {R : V → List Int → Int → Prop} : Parts R [] [] := ⟨nofun, .nil⟩
theorem Parts.int {R : V → List Int → Int → Prop} {i : Int} {xs : List V} {q : List PS'} (h : Parts R xs q) : Parts R (.int i :: xs) q := ⟨fun v hv => by
  rcases List.mem_cons.mp hv with rfl | hv
  · exact .inr ⟨i, rfl⟩
  · exact h.1 v hv, h.2⟩
theorem Parts.ref {R : V → List Int → Int → Prop} {t : Addr} {p : List Int} {s : Int} {xs : List V} {q : List PS'} (r : R (.ref t) p s) (h : Parts R xs q) : Parts R (.ref t :: xs) ((p, s) :: q) := ⟨fun v hv => by
  rcases List.mem_cons.mp hv with rfl | hv
  · exact .inl rfl
  · exact h.1 v hv, .cons r h.2⟩
theorem Tr.mk {n : Nat} {H : Hp} {t : Addr} {w : Str} {xs : List V} {q : List PS'} (h : H t = some (.tup (.str w :: xs))) (hp : Parts (Tr n H) xs q) (hw : w ≠ "at" := by decide +kernel) (hl : Nat.ble xs.length 12 = true := by rfl) : Tr (n + 1) H (.ref t) (flat q) (1 + tot q) := ⟨t, w, xs, rfl, h, Nat.le_of_ble_eq_true hl, q, hp, rfl, .inr ⟨hw, rfl⟩⟩
theorem Tr.at {n : Nat} {H : Hp} {t : Addr} {p : Int} (h : H t = some (.tup [.str "at", .int p])) : Tr (n + 1) H (.ref t) [p] 1 := ⟨t, "at", [.int p], rfl, h, Nat.le_of_ble_eq_true rfl, [], Parts.nil.int, rfl, .inl ⟨rfl, p, rfl, rfl⟩⟩
theorem l4 {n : Nat} (h : Nat.ble n 16 = true) : n ≤ sizeLine := Nat.le_trans (Nat.le_of_ble_eq_true h) (by decide)
def Term (H : Hp) (t : Addr) (w : Int) : Prop := ∃ u ps sz, H t = some (.tup [u, .int sz]) ∧ Tr 4 H u ps sz ∧ ∀ p ∈ ps, p < w
theorem Term.mk {H : Hp} {t : Addr} {w sz s : Int} {u : V} {ps : List Int} (h : H t = some (.tup [u, .int sz])) (hT : Tr 4 H u ps s) (e : s = sz) (hp : ∀ p ∈ ps, p < w) : Term H t w := ⟨u, ps, sz, h, e ▸ hT, hp⟩
theorem Term.same {H H' : Hp} (e : SameT H H') {t : Addr} {w : Int} : Term H t w → Term H' t w := fun ⟨u, ps, sz, h1, h2, h3⟩ => ⟨u, ps, sz, e _ _ h1, h2.sameT e, h3⟩
abbrev psTerm : List Str := ["_law_number", "_law_wide"]
abbrev nTerm : List Str := ["_law_number", "_law_wide", "_law_first", "_law_other"]
def spTerm : Sp := fun vs H Q _ => ∃ n w : Int, vs = [.int n, .int w] ∧ 0 < w ∧ ∀ t H', Same H H' → Term H' t w → Q (.ref t) H'
abbrev sTerm : Stmt := top 38
theorem scTerm : FnScope nTerm psTerm (defScope sTerm) := ⟨rfl, rfl, rfl, by decide +kernel, rfl, by decide +kernel, by decide +kernel⟩
abbrev sAsked : Stmt := top 39
theorem scAsked : FnScope nTerm psTerm (defScope sAsked) := ⟨rfl, rfl, rfl, by decide +kernel, rfl, by decide +kernel, by decide +kernel⟩
theorem flat_nil {w : Int} : ∀ p ∈ flat [], p < w := nofun
theorem flat_cons {w : Int} {a : List Int} {s : Int} {q : List PS'} (h : ∀ p ∈ a, p < w) (hq : ∀ p ∈ flat q, p < w) : ∀ p ∈ flat ((a, s) :: q), p < w := fun p hp => by
  have e : flat ((a, s) :: q) = a ++ flat q := rfl
  rw [e] at hp
  rcases List.mem_append.mp hp with hp | hp
  · exact h p hp
  · exact hq p hp
theorem in1 {w a : Int} (h : a < w) : ∀ p ∈ [a], p < w := fun p hp => by
  simp only [List.mem_cons, List.not_mem_nil, or_false] at hp
  subst hp
  exact h
theorem okTerm {f : Addr} {fd : FuncData} (D : Fn K mg "_law_term" sTerm psTerm f fd) : FnOk P w K mg base CX0 1 f fd psTerm spTerm := by
  refine D.F.ok scTerm (fun vs H Q E h => ?_) (fun cdv A outer s H vs Q E hr h => ?_)
  · obtain ⟨_, _, rfl, _⟩ := h
    rfl
  · obtain ⟨n, w', rfl, hw, k⟩ := h
    have nd := scTerm.nd
    refine ⟨_, (@pss_cons _ _ _ _ _ (@ps_set _ _ (2) _ _ _ _ nd rfl (Or.inl rfl) (@pe_tupS _ _ _ _ _ (@pa_cons _ _ _ _ _ pe_str (@pa_cons _ _ _ _ _ (@pe_op _ _ _ _ _ _ _ _ op_mod (@pe_op _ _ _ _ _ _ _ _ op_fdiv (pv 0) pe_int) (pv 1)) pa_nil (by rfl)) (by rfl))) (by rfl) (by first | exact .inl rfl | exact .inr rfl | assumption)) (@pss_cons _ _ _ _ _ (@ps_set _ _ (3) _ _ _ _ nd rfl (Or.inl rfl) (@pe_tupS _ _ _ _ _ (@pa_cons _ _ _ _ _ pe_str (@pa_cons _ _ _ _ _ (@pe_op _ _ _ _ _ _ _ _ op_mod (@pe_op _ _ _ _ _ _ _ _ op_fdiv (pv 0) pe_int) (pv 1)) pa_nil (by rfl)) (by rfl))) (by rfl) (by first | exact .inl rfl | exact .inr rfl | assumption)) (@pss_cons _ _ _ _ _ (@ps_if _ _ _ _ _ _ _ _ (@pt_cmpR _ _ _ _ _ _ _ _ op_eq (@pe_op _ _ _ _ _ _ _ _ op_mod (pv 0) pe_int) pe_int (nomark _)) (@pss_one _ _ _ (@ps_ret _ _ _ _ (@pe_tupS _ _ _ _ _ (@pa_cons _ _ _ _ _ (@pe_tupS _ _ _ _ _ (@pa_cons _ _ _ _ _ pe_str (@pa_cons _ _ _ _ _ (@pe_op _ _ _ _ _ _ _ _ op_sub (@pe_op _ _ _ _ _ _ _ _ op_mod (pv 0) (@pe_op _ _ _ _ _ _ _ _ op_pow pe_int pe_int)) (@pe_op _ _ _ _ _ _ _ _ op_mod (@pe_op _ _ _ _ _ _ _ _ op_fdiv (pv 0) pe_int) (@pe_op _ _ _ _ _ _ _ _ op_pow pe_int pe_int))) pa_nil (by rfl)) (by rfl))) (@pa_cons _ _ _ _ _ pe_int pa_nil (by rfl)) (by rfl))))) pss_nil) (@pss_cons _ _ _ _ _ (@ps_if _ _ _ _ _ _ _ _ (@pt_cmpR _ _ _ _ _ _ _ _ op_eq (@pe_op _ _ _ _ _ _ _ _ op_mod (pv 0) pe_int) pe_int (nomark _)) (@pss_one _ _ _ (@ps_ret _ _ _ _ (@pe_tupS _ _ _ _ _ (@pa_cons _ _ _ _ _ (@pe_tupS _ _ _ _ _ (@pa_cons _ _ _ _ _ pe_str pa_nil (by rfl))) (@pa_cons _ _ _ _ _ pe_int pa_nil (by rfl)) (by rfl))))) pss_nil) (@pss_cons _ _ _ _ _ (@ps_if _ _ _ _ _ _ _ _ (@pt_cmpR _ _ _ _ _ _ _ _ op_eq (@pe_op _ _ _ _ _ _ _ _ op_mod (pv 0) pe_int) pe_int (nomark _)) (@pss_one _ _ _ (@ps_ret _ _ _ _ (@pe_tupS _ _ _ _ _ (@pa_cons _ _ _ _ _ (@pe_tupS _ _ _ _ _ (@pa_cons _ _ _ _ _ pe_str (@pa_cons _ _ _ _ _ pe_int (@pa_cons _ _ _ _ _ (pv 2) pa_nil (by rfl)) (by rfl)) (by rfl))) (@pa_cons _ _ _ _ _ pe_int pa_nil (by rfl)) (by rfl))))) pss_nil) (@pss_cons _ _ _ _ _ (@ps_if _ _ _ _ _ _ _ _ (@pt_cmpR _ _ _ _ _ _ _ _ op_eq (@pe_op _ _ _ _ _ _ _ _ op_mod (pv 0) pe_int) pe_int (nomark _)) (@pss_one _ _ _ (@ps_ret _ _ _ _ (@pe_tupS _ _ _ _ _ (@pa_cons _ _ _ _ _ (@pe_tupS _ _ _ _ _ (@pa_cons _ _ _ _ _ pe_str (@pa_cons _ _ _ _ _ (pv 2) (@pa_cons _ _ _ _ _ (@pe_tupS _ _ _ _ _ (@pa_cons _ _ _ _ _ pe_str (@pa_cons _ _ _ _ _ (pv 3) (@pa_cons _ _ _ _ _ (@pe_tupS _ _ _ _ _ (@pa_cons _ _ _ _ _ pe_str (@pa_cons _ _ _ _ _ pe_int pa_nil (by rfl)) (by rfl))) pa_nil (by rfl)) (by rfl)) (by rfl))) pa_nil (by rfl)) (by rfl)) (by rfl))) (@pa_cons _ _ _ _ _ pe_int pa_nil (by rfl)) (by rfl))))) pss_nil) (@pss_cons _ _ _ _ _ (@ps_if _ _ _ _ _ _ _ _ (@pt_cmpR _ _ _ _ _ _ _ _ op_eq (@pe_op _ _ _ _ _ _ _ _ op_mod (pv 0) pe_int) pe_int (nomark _)) (@pss_one _ _ _ (@ps_ret _ _ _ _ (@pe_tupS _ _ _ _ _ (@pa_cons _ _ _ _ _ (@pe_tupS _ _ _ _ _ (@pa_cons _ _ _ _ _ pe_str (@pa_cons _ _ _ _ _ (@pe_tupS _ _ _ _ _ (@pa_cons _ _ _ _ _ pe_str (@pa_cons _ _ _ _ _ (@pe_tupS _ _ _ _ _ (@pa_cons _ _ _ _ _ pe_str (@pa_cons _ _ _ _ _ (pv 2) (@pa_cons _ _ _ _ _ (@pe_tupS _ _ _ _ _ (@pa_cons _ _ _ _ _ pe_str pa_nil (by rfl))) pa_nil (by rfl)) (by rfl)) (by rfl))) pa_nil (by rfl)) (by rfl))) (@pa_cons _ _ _ _ _ (pv 3) (@pa_cons _ _ _ _ _ (@pe_tupS _ _ _ _ _ (@pa_cons _ _ _ _ _ pe_str (@pa_cons _ _ _ _ _ pe_int (@pa_cons _ _ _ _ _ (pv 2) pa_nil (by rfl)) (by rfl)) (by rfl))) pa_nil (by rfl)) (by rfl)) (by rfl)) (by rfl))) (@pa_cons _ _ _ _ _ pe_int pa_nil (by rfl)) (by rfl))))) pss_nil) (@pss_one _ _ _ (@ps_ret _ _ _ _ (@pe_tupS _ _ _ _ _ (@pa_cons _ _ _ _ _ (pv 2) (@pa_cons _ _ _ _ _ pe_int pa_nil (by rfl)) (by rfl)))))))))))), ?_⟩
    first | refine wV rfl ?_ | refine ⟨_, rfl, ?_⟩
    first | refine wC ⟨by decide, by decide⟩ ?_ | refine wCc ⟨by decide, by decide⟩ ?_ | refine ⟨_, _, rfl, rfl, ⟨by decide, by decide⟩, ?_⟩
    first | refine wV rfl ?_ | refine ⟨_, rfl, ?_⟩
    first | refine wC hw ?_ | refine wCc hw ?_ | refine ⟨_, _, rfl, rfl, hw, ?_⟩
    refine ⟨l4 rfl, ?_⟩
    refine fun t1 H1 s1 e1 => ?_
    first | refine wV rfl ?_ | refine ⟨_, rfl, ?_⟩
    first | refine wC ⟨by decide, by decide⟩ ?_ | refine wCc ⟨by decide, by decide⟩ ?_ | refine ⟨_, _, rfl, rfl, ⟨by decide, by decide⟩, ?_⟩
    first | refine wV rfl ?_ | refine ⟨_, rfl, ?_⟩
    first | refine wC hw ?_ | refine wCc hw ?_ | refine ⟨_, _, rfl, rfl, hw, ?_⟩
    refine ⟨l4 rfl, ?_⟩
    refine fun t2 H2 s2 e2 => ?_
    have pA := Int.emod_lt_of_pos (n / 6) hw
    have pB := Int.emod_lt_of_pos (n / 72) hw
    first | refine wV rfl ?_ | refine ⟨_, rfl, ?_⟩
    first | refine wC (show (0 : Int) < 6 by decide) ?_ | refine wCc (show (0 : Int) < 6 by decide) ?_ | refine ⟨_, _, rfl, rfl, (show (0 : Int) < 6 by decide), ?_⟩
    refine ⟨rfl, ?_⟩
    first | refine wV rfl ?_ | refine ⟨_, rfl, ?_⟩
    refine ite2 (fun _ => ?_) (fun _ => ?_)
    · first | refine wV rfl ?_ | refine ⟨_, rfl, ?_⟩
      first | refine wC (c10 (by decide) (by decide) (by decide)) ?_ | refine wCc (c10 (by decide) (by decide) (by decide)) ?_ | refine ⟨_, _, rfl, rfl, c10 (by decide) (by decide) (by decide), ?_⟩
      first | refine wC p30 ?_ | refine wCc p30 ?_ | refine ⟨_, _, rfl, rfl, p30, ?_⟩
      first | refine wV rfl ?_ | refine ⟨_, rfl, ?_⟩
      first | refine wC ⟨by decide, by decide⟩ ?_ | refine wCc ⟨by decide, by decide⟩ ?_ | refine ⟨_, _, rfl, rfl, ⟨by decide, by decide⟩, ?_⟩
      first | refine wC (c10 (by decide) (by decide) (by decide)) ?_ | refine wCc (c10 (by decide) (by decide) (by decide)) ?_ | refine ⟨_, _, rfl, rfl, c10 (by decide) (by decide) (by decide), ?_⟩
      first | refine wC (show (0 : Int) < 10 ^ (29 : Int).toNat by decide +kernel) ?_ | refine wCc (show (0 : Int) < 10 ^ (29 : Int).toNat by decide +kernel) ?_ | refine ⟨_, _, rfl, rfl, (show (0 : Int) < 10 ^ (29 : Int).toNat by decide +kernel), ?_⟩
      first | refine wI ?_ | refine wIc ?_ | refine ⟨_, _, rfl, rfl, ?_⟩
      refine ⟨l4 rfl, ?_⟩
      refine fun x1 K1 c1 d1 => ?_
      refine ⟨l4 rfl, ?_⟩
      refine fun r Hr cr dr => ?_
      exact k r Hr ((s1.trans s2).trans (c1.trans cr)) (Term.mk dr (Tr.mk (cr _ _ d1) (Parts.nil).int) rfl flat_nil)
    first | refine wV rfl ?_ | refine ⟨_, rfl, ?_⟩
    first | refine wC (show (0 : Int) < 6 by decide) ?_ | refine wCc (show (0 : Int) < 6 by decide) ?_ | refine ⟨_, _, rfl, rfl, (show (0 : Int) < 6 by decide), ?_⟩
    refine ⟨rfl, ?_⟩
    first | refine wV rfl ?_ | refine ⟨_, rfl, ?_⟩
    refine ite2 (fun _ => ?_) (fun _ => ?_)
    · refine ⟨l4 rfl, ?_⟩
      refine fun x1 K1 c1 d1 => ?_
      refine ⟨l4 rfl, ?_⟩
      refine fun r Hr cr dr => ?_
      exact k r Hr ((s1.trans s2).trans (c1.trans cr)) (Term.mk dr (Tr.mk (cr _ _ d1) Parts.nil) rfl flat_nil)
    first | refine wV rfl ?_ | refine ⟨_, rfl, ?_⟩
    first | refine wC (show (0 : Int) < 6 by decide) ?_ | refine wCc (show (0 : Int) < 6 by decide) ?_ | refine ⟨_, _, rfl, rfl, (show (0 : Int) < 6 by decide), ?_⟩
    refine ⟨rfl, ?_⟩
    first | refine wV rfl ?_ | refine ⟨_, rfl, ?_⟩
    refine ite2 (fun _ => ?_) (fun _ => ?_)
    · first | refine wV rfl ?_ | refine ⟨_, rfl, ?_⟩
      refine ⟨l4 rfl, ?_⟩
      refine fun x1 K1 c1 d1 => ?_
      refine ⟨l4 rfl, ?_⟩
      refine fun r Hr cr dr => ?_
      have g1 := cr _ _ d1
      have gA := cr _ _ (c1 _ _ (s2 _ _ e1))
      have gB := cr _ _ (c1 _ _ e2)
      exact k r Hr (((s1.trans s2).trans c1).trans cr) (Term.mk dr (Tr.mk g1 ((Parts.ref (Tr.at gA) Parts.nil)).int) rfl (flat_cons (in1 pA) flat_nil))
    first | refine wV rfl ?_ | refine ⟨_, rfl, ?_⟩
    first | refine wC (show (0 : Int) < 6 by decide) ?_ | refine wCc (show (0 : Int) < 6 by decide) ?_ | refine ⟨_, _, rfl, rfl, (show (0 : Int) < 6 by decide), ?_⟩
    refine ⟨rfl, ?_⟩
    first | refine wV rfl ?_ | refine ⟨_, rfl, ?_⟩
    refine ite2 (fun _ => ?_) (fun _ => ?_)
    · first | refine wV rfl ?_ | refine ⟨_, rfl, ?_⟩
      first | refine wV rfl ?_ | refine ⟨_, rfl, ?_⟩
      refine ⟨l4 rfl, ?_⟩
      refine fun x1 K1 c1 d1 => ?_
      refine ⟨l4 rfl, ?_⟩
      refine fun x2 K2 c2 d2 => ?_
      refine ⟨l4 rfl, ?_⟩
      refine fun x3 K3 c3 d3 => ?_
      refine ⟨l4 rfl, ?_⟩
      refine fun r Hr cr dr => ?_
      have g1 := cr _ _ (c3 _ _ (c2 _ _ d1))
      have g2 := cr _ _ (c3 _ _ d2)
      have g3 := cr _ _ d3
      have gA := cr _ _ (c3 _ _ (c2 _ _ (c1 _ _ (s2 _ _ e1))))
      have gB := cr _ _ (c3 _ _ (c2 _ _ (c1 _ _ e2)))
      exact k r Hr (((((s1.trans s2).trans c1).trans c2).trans c3).trans cr) (Term.mk dr (Tr.mk g3 (Parts.ref (Tr.at gA) (Parts.ref (Tr.mk g2 (Parts.ref (Tr.at gB) (Parts.ref (Tr.mk g1 (Parts.nil).int) Parts.nil))) Parts.nil))) rfl (flat_cons (in1 pA) (flat_cons (flat_cons (in1 pB) (flat_cons flat_nil flat_nil)) flat_nil)))
    first | refine wV rfl ?_ | refine ⟨_, rfl, ?_⟩
    first | refine wC (show (0 : Int) < 6 by decide) ?_ | refine wCc (show (0 : Int) < 6 by decide) ?_ | refine ⟨_, _, rfl, rfl, (show (0 : Int) < 6 by decide), ?_⟩
    refine ⟨rfl, ?_⟩
    first | refine wV rfl ?_ | refine ⟨_, rfl, ?_⟩
    refine ite2 (fun _ => ?_) (fun _ => ?_)
    · first | refine wV rfl ?_ | refine ⟨_, rfl, ?_⟩
      refine ⟨l4 rfl, ?_⟩
      refine fun x1 K1 c1 d1 => ?_
      refine ⟨l4 rfl, ?_⟩
      refine fun x2 K2 c2 d2 => ?_
      refine ⟨l4 rfl, ?_⟩
      refine fun x3 K3 c3 d3 => ?_
      first | refine wV rfl ?_ | refine ⟨_, rfl, ?_⟩
      first | refine wV rfl ?_ | refine ⟨_, rfl, ?_⟩
      refine ⟨l4 rfl, ?_⟩
      refine fun x4 K4 c4 d4 => ?_
      refine ⟨l4 rfl, ?_⟩
      refine fun x5 K5 c5 d5 => ?_
      refine ⟨l4 rfl, ?_⟩
      refine fun r Hr cr dr => ?_
      have g1 := cr _ _ (c5 _ _ (c4 _ _ (c3 _ _ (c2 _ _ d1))))
      have g2 := cr _ _ (c5 _ _ (c4 _ _ (c3 _ _ d2)))
      have g3 := cr _ _ (c5 _ _ (c4 _ _ d3))
      have g4 := cr _ _ (c5 _ _ d4)
      have g5 := cr _ _ d5
      have gA := cr _ _ (c5 _ _ (c4 _ _ (c3 _ _ (c2 _ _ (c1 _ _ (s2 _ _ e1))))))
      have gB := cr _ _ (c5 _ _ (c4 _ _ (c3 _ _ (c2 _ _ (c1 _ _ e2)))))
      exact k r Hr (((((((s1.trans s2).trans c1).trans c2).trans c3).trans c4).trans c5).trans cr) (Term.mk dr (Tr.mk g5 (Parts.ref (Tr.mk g3 (Parts.ref (Tr.mk g2 (Parts.ref (Tr.at gA) (Parts.ref (Tr.mk g1 Parts.nil) Parts.nil))) Parts.nil)) (Parts.ref (Tr.at gB) (Parts.ref (Tr.mk g4 ((Parts.ref (Tr.at gA) Parts.nil)).int) Parts.nil)))) rfl (flat_cons (flat_cons (flat_cons (in1 pA) (flat_cons flat_nil flat_nil)) flat_nil) (flat_cons (in1 pB) (flat_cons (flat_cons (in1 pA) flat_nil) flat_nil))))
    first | refine wV rfl ?_ | refine ⟨_, rfl, ?_⟩
    refine ⟨l4 rfl, ?_⟩
    refine fun r Hr cr dr => ?_
    exact k r Hr ((s1.trans s2).trans cr) (Term.mk dr (Tr.at (cr _ _ (s2 _ _ e1))) rfl (in1 pA))
theorem okAsked {f : Addr} {fd : FuncData} (D : Fn K mg "_law_asked" sAsked psTerm f fd) : FnOk P w K mg base CX0 1 f fd psTerm spTerm := by
  refine D.F.ok scAsked (fun vs H Q E h => ?_) (fun cdv A outer s H vs Q E hr h => ?_)
  · obtain ⟨_, _, rfl, _⟩ := h
    rfl
  · obtain ⟨n, w', rfl, hw, k⟩ := h
    have nd := scAsked.nd
    refine ⟨_, (@pss_cons _ _ _ _ _ (@ps_set _ _ (2) _ _ _ _ nd rfl (Or.inl rfl) (@pe_tupS _ _ _ _ _ (@pa_cons _ _ _ _ _ pe_str (@pa_cons _ _ _ _ _ (@pe_op _ _ _ _ _ _ _ _ op_mod (@pe_op _ _ _ _ _ _ _ _ op_fdiv (pv 0) pe_int) (pv 1)) pa_nil (by rfl)) (by rfl))) (by rfl) (by first | exact .inl rfl | exact .inr rfl | assumption)) (@pss_cons _ _ _ _ _ (@ps_set _ _ (3) _ _ _ _ nd rfl (Or.inl rfl) (@pe_tupS _ _ _ _ _ (@pa_cons _ _ _ _ _ pe_str (@pa_cons _ _ _ _ _ (@pe_op _ _ _ _ _ _ _ _ op_mod (@pe_op _ _ _ _ _ _ _ _ op_fdiv (pv 0) pe_int) (pv 1)) pa_nil (by rfl)) (by rfl))) (by rfl) (by first | exact .inl rfl | exact .inr rfl | assumption)) (@pss_cons _ _ _ _ _ (@ps_if _ _ _ _ _ _ _ _ (@pt_cmpR _ _ _ _ _ _ _ _ op_eq (@pe_op _ _ _ _ _ _ _ _ op_mod (pv 0) pe_int) pe_int (nomark _)) (@pss_one _ _ _ (@ps_ret _ _ _ _ (@pe_tupS _ _ _ _ _ (@pa_cons _ _ _ _ _ (@pe_tupS _ _ _ _ _ (@pa_cons _ _ _ _ _ pe_str (@pa_cons _ _ _ _ _ (@pe_tupS _ _ _ _ _ (@pa_cons _ _ _ _ _ pe_str (@pa_cons _ _ _ _ _ (@pe_tupS _ _ _ _ _ (@pa_cons _ _ _ _ _ pe_str (@pa_cons _ _ _ _ _ (pv 2) (@pa_cons _ _ _ _ _ (@pe_tupS _ _ _ _ _ (@pa_cons _ _ _ _ _ pe_str (@pa_cons _ _ _ _ _ pe_int pa_nil (by rfl)) (by rfl))) pa_nil (by rfl)) (by rfl)) (by rfl))) pa_nil (by rfl)) (by rfl))) (@pa_cons _ _ _ _ _ (@pe_tupS _ _ _ _ _ (@pa_cons _ _ _ _ _ pe_str (@pa_cons _ _ _ _ _ (pv 3) (@pa_cons _ _ _ _ _ (@pe_tupS _ _ _ _ _ (@pa_cons _ _ _ _ _ pe_str pa_nil (by rfl))) pa_nil (by rfl)) (by rfl)) (by rfl))) pa_nil (by rfl)) (by rfl)) (by rfl))) (@pa_cons _ _ _ _ _ pe_int pa_nil (by rfl)) (by rfl))))) pss_nil) (@pss_cons _ _ _ _ _ (@ps_if _ _ _ _ _ _ _ _ (@pt_cmpR _ _ _ _ _ _ _ _ op_eq (@pe_op _ _ _ _ _ _ _ _ op_mod (pv 0) pe_int) pe_int (nomark _)) (@pss_one _ _ _ (@ps_ret _ _ _ _ (@pe_tupS _ _ _ _ _ (@pa_cons _ _ _ _ _ (@pe_tupS _ _ _ _ _ (@pa_cons _ _ _ _ _ pe_str (@pa_cons _ _ _ _ _ (@pe_tupS _ _ _ _ _ (@pa_cons _ _ _ _ _ pe_str (@pa_cons _ _ _ _ _ (@pe_tupS _ _ _ _ _ (@pa_cons _ _ _ _ _ pe_str (@pa_cons _ _ _ _ _ pe_int (@pa_cons _ _ _ _ _ (pv 2) pa_nil (by rfl)) (by rfl)) (by rfl))) (@pa_cons _ _ _ _ _ (pv 3) pa_nil (by rfl)) (by rfl)) (by rfl))) (@pa_cons _ _ _ _ _ (@pe_tupS _ _ _ _ _ (@pa_cons _ _ _ _ _ pe_str (@pa_cons _ _ _ _ _ (pv 3) (@pa_cons _ _ _ _ _ (pv 2) pa_nil (by rfl)) (by rfl)) (by rfl))) pa_nil (by rfl)) (by rfl)) (by rfl))) (@pa_cons _ _ _ _ _ pe_int pa_nil (by rfl)) (by rfl))))) pss_nil) (@pss_one _ _ _ (@ps_ret _ _ _ _ (@pe_tupS _ _ _ _ _ (@pa_cons _ _ _ _ _ (@pe_tupS _ _ _ _ _ (@pa_cons _ _ _ _ _ pe_str (@pa_cons _ _ _ _ _ (pv 2) (@pa_cons _ _ _ _ _ (pv 3) pa_nil (by rfl)) (by rfl)) (by rfl))) (@pa_cons _ _ _ _ _ pe_int pa_nil (by rfl)) (by rfl))))))))), ?_⟩
    first | refine wV rfl ?_ | refine ⟨_, rfl, ?_⟩
    first | refine wC ⟨by decide, by decide⟩ ?_ | refine wCc ⟨by decide, by decide⟩ ?_ | refine ⟨_, _, rfl, rfl, ⟨by decide, by decide⟩, ?_⟩
    first | refine wV rfl ?_ | refine ⟨_, rfl, ?_⟩
    first | refine wC hw ?_ | refine wCc hw ?_ | refine ⟨_, _, rfl, rfl, hw, ?_⟩
    refine ⟨l4 rfl, ?_⟩
    refine fun t1 H1 s1 e1 => ?_
    first | refine wV rfl ?_ | refine ⟨_, rfl, ?_⟩
    first | refine wC ⟨by decide, by decide⟩ ?_ | refine wCc ⟨by decide, by decide⟩ ?_ | refine ⟨_, _, rfl, rfl, ⟨by decide, by decide⟩, ?_⟩
    first | refine wV rfl ?_ | refine ⟨_, rfl, ?_⟩
    first | refine wC hw ?_ | refine wCc hw ?_ | refine ⟨_, _, rfl, rfl, hw, ?_⟩
    refine ⟨l4 rfl, ?_⟩
    refine fun t2 H2 s2 e2 => ?_
    have pA := Int.emod_lt_of_pos (n / 3) hw
    have pB := Int.emod_lt_of_pos (n / 36) hw
    first | refine wV rfl ?_ | refine ⟨_, rfl, ?_⟩
    first | refine wC (show (0 : Int) < 3 by decide) ?_ | refine wCc (show (0 : Int) < 3 by decide) ?_ | refine ⟨_, _, rfl, rfl, (show (0 : Int) < 3 by decide), ?_⟩
    refine ⟨rfl, ?_⟩
    first | refine wV rfl ?_ | refine ⟨_, rfl, ?_⟩
    refine ite2 (fun _ => ?_) (fun _ => ?_)
    · first | refine wV rfl ?_ | refine ⟨_, rfl, ?_⟩
      refine ⟨l4 rfl, ?_⟩
      refine fun x1 K1 c1 d1 => ?_
      refine ⟨l4 rfl, ?_⟩
      refine fun x2 K2 c2 d2 => ?_
      refine ⟨l4 rfl, ?_⟩
      refine fun x3 K3 c3 d3 => ?_
      first | refine wV rfl ?_ | refine ⟨_, rfl, ?_⟩
      refine ⟨l4 rfl, ?_⟩
      refine fun x4 K4 c4 d4 => ?_
      refine ⟨l4 rfl, ?_⟩
      refine fun x5 K5 c5 d5 => ?_
      refine ⟨l4 rfl, ?_⟩
      refine fun x6 K6 c6 d6 => ?_
      refine ⟨l4 rfl, ?_⟩
      refine fun r Hr cr dr => ?_
      have g1 := cr _ _ (c6 _ _ (c5 _ _ (c4 _ _ (c3 _ _ (c2 _ _ d1)))))
      have g2 := cr _ _ (c6 _ _ (c5 _ _ (c4 _ _ (c3 _ _ d2))))
      have g3 := cr _ _ (c6 _ _ (c5 _ _ (c4 _ _ d3)))
      have g4 := cr _ _ (c6 _ _ (c5 _ _ d4))
      have g5 := cr _ _ (c6 _ _ d5)
      have g6 := cr _ _ d6
      have gA := cr _ _ (c6 _ _ (c5 _ _ (c4 _ _ (c3 _ _ (c2 _ _ (c1 _ _ (s2 _ _ e1)))))))
      have gB := cr _ _ (c6 _ _ (c5 _ _ (c4 _ _ (c3 _ _ (c2 _ _ (c1 _ _ e2))))))
      exact k r Hr ((((((((s1.trans s2).trans c1).trans c2).trans c3).trans c4).trans c5).trans c6).trans cr) (Term.mk dr (Tr.mk g6 (Parts.ref (Tr.mk g3 (Parts.ref (Tr.mk g2 (Parts.ref (Tr.at gA) (Parts.ref (Tr.mk g1 (Parts.nil).int) Parts.nil))) Parts.nil)) (Parts.ref (Tr.mk g5 (Parts.ref (Tr.at gB) (Parts.ref (Tr.mk g4 Parts.nil) Parts.nil))) Parts.nil))) rfl (flat_cons (flat_cons (flat_cons (in1 pA) (flat_cons flat_nil flat_nil)) flat_nil) (flat_cons (flat_cons (in1 pB) (flat_cons flat_nil flat_nil)) flat_nil)))
    first | refine wV rfl ?_ | refine ⟨_, rfl, ?_⟩
    first | refine wC (show (0 : Int) < 3 by decide) ?_ | refine wCc (show (0 : Int) < 3 by decide) ?_ | refine ⟨_, _, rfl, rfl, (show (0 : Int) < 3 by decide), ?_⟩
    refine ⟨rfl, ?_⟩
    first | refine wV rfl ?_ | refine ⟨_, rfl, ?_⟩
    refine ite2 (fun _ => ?_) (fun _ => ?_)
    · first | refine wV rfl ?_ | refine ⟨_, rfl, ?_⟩
      refine ⟨l4 rfl, ?_⟩
      refine fun x1 K1 c1 d1 => ?_
      first | refine wV rfl ?_ | refine ⟨_, rfl, ?_⟩
      refine ⟨l4 rfl, ?_⟩
      refine fun x2 K2 c2 d2 => ?_
      first | refine wV rfl ?_ | refine ⟨_, rfl, ?_⟩
      first | refine wV rfl ?_ | refine ⟨_, rfl, ?_⟩
      refine ⟨l4 rfl, ?_⟩
      refine fun x3 K3 c3 d3 => ?_
      refine ⟨l4 rfl, ?_⟩
      refine fun x4 K4 c4 d4 => ?_
      refine ⟨l4 rfl, ?_⟩
      refine fun r Hr cr dr => ?_
      have g1 := cr _ _ (c4 _ _ (c3 _ _ (c2 _ _ d1)))
      have g2 := cr _ _ (c4 _ _ (c3 _ _ d2))
      have g3 := cr _ _ (c4 _ _ d3)
      have g4 := cr _ _ d4
      have gA := cr _ _ (c4 _ _ (c3 _ _ (c2 _ _ (c1 _ _ (s2 _ _ e1)))))
      have gB := cr _ _ (c4 _ _ (c3 _ _ (c2 _ _ (c1 _ _ e2))))
      exact k r Hr ((((((s1.trans s2).trans c1).trans c2).trans c3).trans c4).trans cr) (Term.mk dr (Tr.mk g4 (Parts.ref (Tr.mk g2 (Parts.ref (Tr.mk g1 ((Parts.ref (Tr.at gA) Parts.nil)).int) (Parts.ref (Tr.at gB) Parts.nil))) (Parts.ref (Tr.mk g3 (Parts.ref (Tr.at gB) (Parts.ref (Tr.at gA) Parts.nil))) Parts.nil))) rfl (flat_cons (flat_cons (flat_cons (in1 pA) flat_nil) (flat_cons (in1 pB) flat_nil)) (flat_cons (flat_cons (in1 pB) (flat_cons (in1 pA) flat_nil)) flat_nil)))
    first | refine wV rfl ?_ | refine ⟨_, rfl, ?_⟩
    first | refine wV rfl ?_ | refine ⟨_, rfl, ?_⟩
    refine ⟨l4 rfl, ?_⟩
    refine fun x1 K1 c1 d1 => ?_
    refine ⟨l4 rfl, ?_⟩
    refine fun r Hr cr dr => ?_
    have g1 := cr _ _ d1
    have gA := cr _ _ (c1 _ _ (s2 _ _ e1))
    have gB := cr _ _ (c1 _ _ e2)
    exact k r Hr (((s1.trans s2).trans c1).trans cr) (Term.mk dr (Tr.mk g1 (Parts.ref (Tr.at gA) (Parts.ref (Tr.at gB) Parts.nil))) rfl (flat_cons (in1 pA) (flat_cons (in1 pB) flat_nil)))
def EV (te : TE) (σ : L2.St) (H : Hp) (v : V) : Prop := ∀ Q : VK, Q v H → te σ H Q
def EVA (t : TA) (σ : L2.St) (H : Hp) (vs : List V) : Prop := ∀ Q : List V → Hp → Prop, Q vs H → t σ H Q
section
variable {σ : L2.St} {H : Hp} {v : V} {n : Nat} {i j : Int} {ta tb te : TE} {K' : PySem.W.Frag} {t : Addr} {xs : List V} {f : Int → Int → V} {C : Int → Int → Prop} {Q : VK} {vs : List V} {tl : TA}
theorem EV.c : EV (tC v) σ H v := fun _ q => q
theorem EV.var (h : σ[n]? = some (some v)) : EV (tVar n) σ H v := fun _ q => ⟨v, h, q⟩
theorem EV.ix (h : σ[n]? = some (some (.ref t))) (hs : SqT K' H t xs) (e : atI xs i = some v) : EV (tOp (rIxT K') (tVar n) (tC (.int i))) σ H v := fun _ q => ⟨_, h, t, xs, i, v, rfl, rfl, hs, e, q⟩
theorem EV.op0 (ha : EV ta σ H (.int i)) (hb : EV tb σ H (.int j)) : EV (tOp (rI0 f) ta tb) σ H (f i j) := fun _ q => ha _ (hb _ ⟨i, j, rfl, rfl, q⟩)
theorem EV.opC (ha : EV ta σ H (.int i)) (hb : EV tb σ H (.int j)) (c : C i j) : EV (tOp (rI C f) ta tb) σ H (f i j) := fun _ q => ha _ (hb _ ⟨i, j, rfl, rfl, c, q⟩)
theorem EVA.nil : EVA tNil σ H [] := fun _ q => q
theorem EVA.cons (ha : EV te σ H v) (ht : EVA tl σ H vs) : EVA (tCons te tl) σ H (v :: vs) := fun _ q => ha _ (ht _ q)
theorem EV.max2 (ht : EVA tl σ H [.int i, .int j]) : EV (tCB (fun xs H Q => ∃ i j, xs = [.int i, .int j] ∧ Q (.int (if j > i then j else i)) H) tl) σ H (.int (if j > i then j else i)) := fun _ q => ht _ ⟨i, j, rfl, q⟩
theorem EVA.tup (ht : EVA tl σ H vs) (hl : vs.length ≤ sizeLine) (k : ∀ p H', Same H H' → H' p = some (.tup vs) → Q (.ref p) H') : tTupS tl σ H Q := ht _ ⟨hl, k⟩
end
end
end VK
namespace VK
open PySem PySem.Spec PyProof.Rows L2
section
variable {P : Program} {w : World} {K : PySem.W.Frag} {mg : Str → Option Value} {base : Heap}
theorem pairs_of {α : Type} {F : V → α → Prop} : ∀ {ys : List V}, (∀ y ∈ ys, ∃ q, F y q) → ∃ qs : List α, Paired F ys qs
  | [], _ => ⟨[], .nil⟩
  | y :: ys, h => by
    obtain ⟨q, hq⟩ := h y (.head _)
    obtain ⟨qs, hs⟩ := pairs_of (ys := ys) fun z hz => h z (.tail _ hz)
    exact ⟨q :: qs, .cons hq hs⟩
theorem pair_right {α : Type} {F : V → α → Prop} {ys : List V} {qs : List α} (h : Paired F ys qs) : ∀ q ∈ qs, ∃ y ∈ ys, F y q := fun q hq => by
  induction h with
  | nil => cases hq
  | cons r _ ih =>
    rcases List.mem_cons.mp hq with rfl | hq
    · exact ⟨_, .head _, r⟩
    · obtain ⟨y, h1, h2⟩ := ih hq
      exact ⟨y, .tail _ h1, h2⟩
theorem paired_of {α : Type} {F : V → α → Prop} : ∀ {ys : List V} {qs : List α}, ys.length = qs.length → (∀ (i : Nat) (y : V), ys[i]? = some y → ∃ q, qs[i]? = some q ∧ F y q) → Paired F ys qs
  | [], [], _, _ => .nil
  | y :: ys, q :: qs, hl, h => by
    obtain ⟨q', e, hf⟩ := h 0 y rfl
    cases e
    refine .cons hf (paired_of (by simpa using hl) fun i z ez => ?_)
    obtain ⟨q', e1, e2⟩ := h (i + 1) z (by simpa using ez)
    exact ⟨q', by simpa using e1, e2⟩
theorem all_of {ys : List V} {R : V → Prop} (h : ∀ (i : Nat) (y : V), ys[i]? = some y → R y) : ∀ y ∈ ys, R y := fun y hy => by
  obtain ⟨i, hi⟩ := List.getElem?_of_mem hy
  exact h i y hi
theorem flat_all {w : Int} {qs : List PS'} (h : ∀ q ∈ qs, ∀ p ∈ q.1, p < w) : ∀ p ∈ flat qs, p < w := fun p hp => by
  unfold flat at hp
  obtain ⟨l, hl, hpl⟩ := List.mem_flatten.mp hp
  obtain ⟨q, hq, rfl⟩ := List.mem_map.mp hl
  exact h q hq p hpl
theorem Vw.one {n : Nat} {H : Hp} {E : Env} {tv : Addr} {wd : Str} {v : V} {bs : List V} {w s w' m : Int} (h : H tv = some (.tup (.str wd :: v :: bs))) (hv : Vw n H E v w s) (hb : OneB H wd bs w w' m) (hw : w' ≤ 12) : Vw (n + 1) H E (.ref tv) w' (1 + m + s) :=
  ⟨hw, tv, rfl, .inr (.inl ⟨wd, [v], bs, [(w, s)], m, h, .cons hv .nil, .one hb, by simp; omega⟩)⟩
theorem Vw.two {n : Nat} {H : Hp} {E : Env} {tv : Addr} {wd : Str} {v1 v2 : V} {bs : List V} {w1 s1 w2 s2 w' m : Int} (h : H tv = some (.tup (.str wd :: v1 :: v2 :: bs))) (hv1 : Vw n H E v1 w1 s1) (hv2 : Vw n H E v2 w2 s2) (hb : TwoB H wd bs w1 w2 w' m) (hw : w' ≤ 12) : Vw (n + 1) H E (.ref tv) w' (1 + m + s1 + s2) :=
  ⟨hw, tv, rfl, .inr (.inl ⟨wd, [v1, v2], bs, [(w1, s1), (w2, s2)], m, h, .cons hv1 (.cons hv2 .nil), .two hb, by simp; omega⟩)⟩
theorem Vw.name {n : Nat} {H : Hp} {E : Env} {tv : Addr} {x : Str} {w s : Int} (h : H tv = some (.tup [.str "name", .str x])) (he : E x = some (w, s)) (hw : w ≤ 12) : Vw (n + 1) H E (.ref tv) w s := ⟨hw, tv, rfl, .inl ⟨x, h, he⟩⟩
theorem Vw.rounds {n : Nat} {H : Hp} {E : Env} {tv : Addr} {x : Str} {k : Int} {v1 v2 : V} {w s1 s2 : Int} (h : H tv = some (.tup [.str "rounds", .str x, .int k, v1, v2])) (h0 : 0 ≤ k) (h1 : k ≤ 64) (he : E x = none) (hv1 : Vw n H E v1 w s1) (hv2 : Vw n H (E.put x (w, 1)) v2 w s2) (hw : w ≤ 12) : Vw (n + 1) H E (.ref tv) w (s1 + k * (2 + s2)) :=
  ⟨hw, tv, rfl, .inr (.inr ⟨x, k, v1, v2, s1, s2, h, h0, h1, he, hv1, hv2, rfl⟩)⟩
def Rc (H : Hp) (C : Env → Prop) (r : Addr) (w d : Int) : Prop := ∃ (v : V) (s sg : Int), H r = some (.tup [v, .int w, .int s, .int sg, .int d]) ∧ 1 ≤ w ∧ w ≤ 12 ∧ 0 ≤ d ∧ ∀ E, C E → Vw (d.toNat + 1) H E v w s
theorem Rc.same {H H' : Hp} (e : SameT H H') {C : Env → Prop} {r : Addr} {w d : Int} : Rc H C r w d → Rc H' C r w d := fun ⟨v, s, sg, h1, h2, h3, h4, h5⟩ => ⟨v, s, sg, e _ _ h1, h2, h3, h4, fun E hE => (h5 E hE).same e⟩
theorem Rc.imp {H : Hp} {C C' : Env → Prop} {r : Addr} {w d : Int} (f : ∀ E, C' E → C E) : Rc H C r w d → Rc H C' r w d := fun ⟨v, s, sg, h1, h2, h3, h4, h5⟩ => ⟨v, s, sg, h1, h2, h3, h4, fun E hE => h5 E (f E hE)⟩
abbrev sGrp : Stmt := top 40
abbrev psGrp : List Str := ["_law_number", "_law_word", "_law_now"]
abbrev nGrp : List Str := ["_law_number", "_law_word", "_law_now", "_law_wide", "_law_by", "_law_order"]
def GrW (wd : Str) : Prop := wd = "count" ∨ wd = "sum" ∨ wd = "least" ∨ wd = "most" ∨ wd = "first"
def spGrp : Sp := fun vs H Q _ => ∃ (n : Int) (wd : Str) (r : Addr) (v : V) (w : Int) (x2 x3 x4 : V), vs = [.int n, .str wd, .ref r] ∧ H r = some (.tup [v, .int w, x2, x3, x4]) ∧ 1 ≤ w ∧ w ≤ 12 ∧ GrW wd ∧ ∀ t tv bs w' m H', Same H H' → H' t = some (.tup [.ref tv, .int w', .int m]) → H' tv = some (.tup (.str wd :: v :: bs)) → OneB H' wd bs w w' m → 1 ≤ w' → w' ≤ 12 → Q (.ref t) H'
theorem scGrp : FnScope nGrp psGrp (defScope sGrp) := ⟨rfl, rfl, rfl, by decide +kernel, rfl, by decide +kernel, by decide +kernel⟩
theorem okGrp {f fD : Addr} {fd fdD : FuncData} (D : Fn K mg "_law_grouped" sGrp psGrp f fd) (X : Txt mg) (DD : Fn K mg "_law_digits" sDigits psDigits fD fdD) : FnOk P w K mg base CX0 2 f fd psGrp spGrp := by
  have GD : FnOk P w K mg base CX0 1 fD fdD psDigits spDigits := okDigits DD X
  refine D.F.ok (k := 1) scGrp (fun vs H Q E h => ?_) (fun cdv A outer s H vs Q E hr h => ?_)
  · obtain ⟨_, _, _, _, _, _, _, _, rfl, _⟩ := h
    rfl
  · obtain ⟨n, wd, r, v, w', x2, x3, x4, rfl, hr0, hw1, hw2, hg, k⟩ := h
    have nd := scGrp.nd
    refine ⟨_, (@pss_cons _ _ _ _ _ (@ps_set _ _ (3) _ _ _ _ nd rfl (Or.inl rfl) (@pe_ix _ _ _ _ _ _ _ (ixT K) (pv 2) pe_int (fun _ _ => rfl)) (by rfl) (by first | exact .inl rfl | exact .inr rfl | assumption)) (@pss_cons _ _ _ _ _ (@ps_set _ _ (4) _ _ _ _ nd rfl (Or.inl rfl) (@pe_callTy _ _ _ _ _ _ _ _ _ (tupK K) rfl X.tuple b_tuple (@pa_cons _ _ _ _ _ (@pe_call _ _ _ _ _ _ _ _ _ _ _ _ _ _ _ _ GD hr rfl DD.m DD.F.kp DD.b .nil pass0 (@pa_cons _ _ _ _ _ (@pe_op _ _ _ _ _ _ _ _ op_fdiv (pv 0) pe_int) (@pa_cons _ _ _ _ _ (@pe_op _ _ _ _ _ _ _ _ op_mod (pv 0) pe_int) (@pa_cons _ _ _ _ _ (pv 3) pa_nil (by rfl)) (by rfl)) (by rfl)) (by decide) (by rfl) (by rfl)) pa_nil (by rfl)) (by decide) (by decide) (by rfl) (by rfl)) (by rfl) (by first | exact .inl rfl | exact .inr rfl | assumption)) (@pss_cons _ _ _ _ _ (@ps_if _ _ _ _ _ _ _ _ (@pt_cmpR _ _ _ _ _ _ _ _ op_eq (pv 1) pe_str (nomark _)) (@pss_one _ _ _ (@ps_ret _ _ _ _ (@pe_tupS _ _ _ _ _ (@pa_cons _ _ _ _ _ (@pe_tupS _ _ _ _ _ (@pa_cons _ _ _ _ _ (pv 1) (@pa_cons _ _ _ _ _ (@pe_ix _ _ _ _ _ _ _ (ixT K) (pv 2) pe_int (fun _ _ => rfl)) (@pa_cons _ _ _ _ _ (pv 4) pa_nil (by rfl)) (by rfl)) (by rfl))) (@pa_cons _ _ _ _ _ (@pe_op _ _ _ _ _ _ _ _ op_add (@pe_callB _ _ _ _ _ _ _ _ _ (lenK K) (by rfl) X.len b_len (@pa_cons _ _ _ _ _ (pv 4) pa_nil (by rfl)) (by decide) (by decide) (by rfl) (by rfl)) pe_int) (@pa_cons _ _ _ _ _ (@pe_callB _ _ _ _ _ _ _ _ _ (lenK K) (by rfl) X.len b_len (@pa_cons _ _ _ _ _ (pv 4) pa_nil (by rfl)) (by decide) (by decide) (by rfl) (by rfl)) pa_nil (by rfl)) (by rfl)) (by rfl))))) pss_nil) (@pss_cons _ _ _ _ _ (@ps_if _ _ _ _ _ _ _ _ (@pt_cmpR _ _ _ _ _ _ _ _ op_eq (pv 1) pe_str (nomark _)) (@pss_cons _ _ _ _ _ (@ps_set _ _ (5) _ _ _ _ nd rfl (Or.inl rfl) (@pe_callTy _ _ _ _ _ _ _ _ _ (tupK K) rfl X.tuple b_tuple (@pa_cons _ _ _ _ _ (@pe_slice _ _ _ _ _ _ _ _ _ _ sl_list (@pe_comp _ _ _ _ _ _ _ _ (_) (["_law_place"]) ([("_law_number", 0)]) (defScope sGrp) (nGrp) rfl rfl ⟨rfl, by decide +kernel, by decide +kernel, by decide +kernel, by decide +kernel⟩ rfl (@pi_tup _ _ _ _ (@pe_rev _ _ _ _ _ _ _ _ (pv 4))) (fun s H fp => pg_name (i := 0) (show (["_law_place", "_law_number"] : List Str).Nodup by decide +kernel) rfl (Or.inl rfl) (Or.inr rfl)) (fun s H fp => (@pe_tupS _ _ _ _ _ (@pa_cons _ _ _ _ _ (pv 0) (@pa_cons _ _ _ _ _ (@pe_cmpR _ _ _ _ _ _ _ _ op_eq (@pe_op _ _ _ _ _ _ _ _ op_mod (@pe_op _ _ _ _ _ _ _ _ op_add (pv 0) (@pe_op _ _ _ _ _ _ _ _ op_fdiv (pv 1) pe_int)) pe_int) pe_int (nomark _)) pa_nil (by rfl)) (by rfl)))) (by intro _; rfl)) po_none (@po_some _ _ _ (@pe_op _ _ _ _ _ _ _ _ op_mod (@pe_op _ _ _ _ _ _ _ _ op_fdiv (pv 0) pe_int) pe_int))) pa_nil (by rfl)) (by decide) (by decide) (by rfl) (by rfl)) (by rfl) (by first | exact .inl rfl | exact .inr rfl | assumption)) (@pss_one _ _ _ (@ps_ret _ _ _ _ (@pe_tupS _ _ _ _ _ (@pa_cons _ _ _ _ _ (@pe_tupS _ _ _ _ _ (@pa_cons _ _ _ _ _ (pv 1) (@pa_cons _ _ _ _ _ (@pe_ix _ _ _ _ _ _ _ (ixT K) (pv 2) pe_int (fun _ _ => rfl)) (@pa_cons _ _ _ _ _ (@pe_op _ _ _ _ _ _ _ _ op_mod (@pe_op _ _ _ _ _ _ _ _ op_fdiv (pv 0) pe_int) pe_int) (@pa_cons _ _ _ _ _ (pv 4) (@pa_cons _ _ _ _ _ (pv 5) pa_nil (by rfl)) (by rfl)) (by rfl)) (by rfl)) (by rfl))) (@pa_cons _ _ _ _ _ (pv 3) (@pa_cons _ _ _ _ _ (@pe_op _ _ _ _ _ _ _ _ op_add (@pe_callB _ _ _ _ _ _ _ _ _ (lenK K) (by rfl) X.len b_len (@pa_cons _ _ _ _ _ (pv 4) pa_nil (by rfl)) (by decide) (by decide) (by rfl) (by rfl)) (@pe_callB _ _ _ _ _ _ _ _ _ (lenK K) (by rfl) X.len b_len (@pa_cons _ _ _ _ _ (pv 5) pa_nil (by rfl)) (by decide) (by decide) (by rfl) (by rfl))) pa_nil (by rfl)) (by rfl)) (by rfl)))))) pss_nil) (@pss_one _ _ _ (@ps_ret _ _ _ _ (@pe_tupS _ _ _ _ _ (@pa_cons _ _ _ _ _ (@pe_tupS _ _ _ _ _ (@pa_cons _ _ _ _ _ (pv 1) (@pa_cons _ _ _ _ _ (@pe_ix _ _ _ _ _ _ _ (ixT K) (pv 2) pe_int (fun _ _ => rfl)) (@pa_cons _ _ _ _ _ (@pe_op _ _ _ _ _ _ _ _ op_mod (@pe_op _ _ _ _ _ _ _ _ op_fdiv (pv 0) pe_int) (pv 3)) (@pa_cons _ _ _ _ _ (pv 4) pa_nil (by rfl)) (by rfl)) (by rfl)) (by rfl))) (@pa_cons _ _ _ _ _ (@pe_op _ _ _ _ _ _ _ _ op_add (@pe_callB _ _ _ _ _ _ _ _ _ (lenK K) (by rfl) X.len b_len (@pa_cons _ _ _ _ _ (pv 4) pa_nil (by rfl)) (by decide) (by decide) (by rfl) (by rfl)) pe_int) (@pa_cons _ _ _ _ _ (@pe_callB _ _ _ _ _ _ _ _ _ (lenK K) (by rfl) X.len b_len (@pa_cons _ _ _ _ _ (pv 4) pa_nil (by rfl)) (by decide) (by decide) (by rfl) (by rfl)) pa_nil (by rfl)) (by rfl)) (by rfl))))))))), ?_⟩
    first | refine wT rfl (SqT.of hr0) rfl ?_ | refine ⟨_, rfl, r, _, _, _, rfl, rfl, SqT.of hr0, rfl, ?_⟩
    first | refine wV rfl ?_ | refine ⟨_, rfl, ?_⟩
    first | refine wC ⟨by decide, by decide⟩ ?_ | refine wCc ⟨by decide, by decide⟩ ?_ | refine ⟨_, _, rfl, rfl, ⟨by decide, by decide⟩, ?_⟩
    first | refine wV rfl ?_ | refine ⟨_, rfl, ?_⟩
    first | refine wC (show (0 : Int) < 12 by decide) ?_ | refine wCc (show (0 : Int) < 12 by decide) ?_ | refine ⟨_, _, rfl, rfl, (show (0 : Int) < 12 by decide), ?_⟩
    first | refine wV rfl ?_ | refine ⟨_, rfl, ?_⟩
    refine ⟨n / 144, n % 12, w', rfl, Int.emod_nonneg _ (by decide), by have := Int.emod_lt_of_pos n (show (0 : Int) < 12 by decide); omega, by omega, by omega, ?_⟩
    refine fun ld H1 ds s1 hdl hds e1 => ?_
    have hd11 : ds.length ≤ 11 := by have := Int.emod_lt_of_pos n (show (0 : Int) < 12 by decide); omega
    refine ⟨ld, _, rfl, .inl ⟨SqL.of e1, fun tb htb => ?_⟩⟩
    have s2 : Same H (upd H1 tb (.tup (ds.map V.int))) := s1.trans ((Same.refl H1).upd htb)
    have hb : (upd H1 tb (.tup (ds.map V.int))) tb = some (.tup (ds.map V.int)) := upd_same
    generalize upd H1 tb (.tup (ds.map V.int)) = H2 at s2 hb ⊢
    have hns : ∀ {H'}, Same H2 H' → Ns H' (.ref tb) ds w' := fun s' => ⟨tb, rfl, s' _ _ hb, by omega, fun p hp => (hds p hp).2⟩
    have fin : ∀ (t tv : Addr) (bs : List V) (w1 m : Int) (H' : Hp), Same H2 H' → H' t = some (.tup [.ref tv, .int w1, .int m]) → H' tv = some (.tup (.str wd :: v :: bs)) → OneB H' wd bs w' w1 m → 1 ≤ w1 → w1 ≤ 12 → Q (.ref t) H' := fun t tv bs w1 m H' s' => k t tv bs w1 m H' (s2.trans s')
    have hr2 := s2 _ _ hr0
    have hml : ((ds.map V.int).length : Int) = ds.length := by rw [List.length_map]
    rcases hg with rfl | hg
    · first | refine wY rfl (by decide +kernel) ?_ | refine ⟨_, rfl, rfl, _, rfl, iteP (by decide +kernel) ?_⟩
      first | refine wV rfl ?_ | refine ⟨_, rfl, ?_⟩
      first | refine wT rfl (SqT.of hr2) rfl ?_ | refine ⟨_, rfl, r, _, _, _, rfl, rfl, SqT.of hr2, rfl, ?_⟩
      first | refine wV rfl ?_ | refine ⟨_, rfl, ?_⟩
      refine ⟨l4 rfl, ?_⟩
      refine fun tv H3 s3 e3 => ?_
      have hb3 := s3 _ _ hb
      first | refine wV rfl ?_ | refine ⟨_, rfl, ?_⟩
      refine ⟨tb, _, rfl, .inr (SqT.of hb3), ?_⟩
      first | refine wI ?_ | refine wIc ?_ | refine ⟨_, _, rfl, rfl, ?_⟩
      first | refine wV rfl ?_ | refine ⟨_, rfl, ?_⟩
      refine ⟨tb, _, rfl, .inr (SqT.of hb3), ?_⟩
      refine ⟨l4 rfl, ?_⟩
      refine fun t H4 s4 e4 => ?_
      rw [List.length_map] at e4
      exact fin t tv _ _ _ H4 (s3.trans s4) e4 (s4 _ _ e3) (.count (hns (s3.trans s4))) (by omega) (by omega)
    · have hw0 : decide (V.str wd = V.str "count") = false := by rcases hg with rfl | rfl | rfl | rfl <;> decide +kernel
      refine ⟨_, rfl, rfl, _, rfl, iteQ hw0 ?_⟩
      by_cases hF : wd = "first"
      · subst hF
        first | refine wY rfl (by decide +kernel) ?_ | refine ⟨_, rfl, rfl, _, rfl, iteP (by decide +kernel) ?_⟩
        first | refine wV rfl ?_ | refine ⟨_, rfl, ?_⟩
        refine ⟨tb, _, rfl, SqT.of hb, fun tr H3 s3 e3 => ⟨tr, rfl, ⟨_, SqT.of e3⟩, fun l hl => ?_⟩⟩
        refine comp_T (K := K) e3 (fun σ => ∃ a, σ = [a, some (.int n)]) (fun i y H => ∃ (u : Addr) (q : Int × Bool), y = .ref u ∧ H u = some (.tup [.int q.1, .bl q.2]) ∧ q.1 < w') (fun _ _ _ _ z ⟨u, q, h1, h2, h3⟩ => ⟨u, q, h1, z _ _ h2, h3⟩) (by rw [List.length_reverse, List.length_map]; omega) hl ⟨_, rfl⟩ ?_ ?_
        · rintro C i σ H4 x ex s4 ⟨x1, rfl⟩ kk
          have hm := List.mem_of_getElem? ex
          rw [List.mem_reverse, List.mem_map] at hm
          obtain ⟨p, hp, rfl⟩ := hm
          first | refine wV rfl ?_ | refine ⟨_, rfl, ?_⟩
          first | refine wV rfl ?_ | refine ⟨_, rfl, ?_⟩
          first | refine wV rfl ?_ | refine ⟨_, rfl, ?_⟩
          first | refine wC ⟨by decide, by decide⟩ ?_ | refine wCc ⟨by decide, by decide⟩ ?_ | refine ⟨_, _, rfl, rfl, ⟨by decide, by decide⟩, ?_⟩
          first | refine wI ?_ | refine wIc ?_ | refine ⟨_, _, rfl, rfl, ?_⟩
          first | refine wC (show (0 : Int) < 2 by decide) ?_ | refine wCc (show (0 : Int) < 2 by decide) ?_ | refine ⟨_, _, rfl, rfl, (show (0 : Int) < 2 by decide), ?_⟩
          refine ⟨rfl, l4 rfl, ?_⟩
          refine fun u H5 s5 e5 => ?_
          exact kk _ _ _ s5 ⟨_, rfl⟩ ⟨u, (p, _), rfl, e5, (hds p hp).2⟩
        · intro H4 ys s4 e4 hyl hyr
          rw [List.length_reverse, List.length_map] at hyl
          first | refine wV rfl ?_ | refine ⟨_, rfl, ?_⟩
          first | refine wC ⟨by decide, by decide⟩ ?_ | refine wCc ⟨by decide, by decide⟩ ?_ | refine ⟨_, _, rfl, rfl, ⟨by decide, by decide⟩, ?_⟩
          first | refine wC (show (0 : Int) < 13 by decide) ?_ | refine wCc (show (0 : Int) < 13 by decide) ?_ | refine ⟨_, _, rfl, rfl, (show (0 : Int) < 13 by decide), ?_⟩
          first | refine wV rfl ?_ | refine ⟨_, rfl, ?_⟩
          refine ⟨l, ys, rfl, SqL.of e4, ?_⟩
          refine fun lc hlc => ?_
          obtain ⟨kk, hkk⟩ : ∃ kk : Nat, n / 12 % 13 = (kk : Int) := ⟨(n / 12 % 13).toNat, by have := Int.emod_nonneg (n / 12) (show (13 : Int) ≠ 0 by decide); omega⟩
          refine ⟨lc, ys.take kk, rfl, ?_⟩
          refine .inl ⟨SqL.of (by rw [upd_same, show cutV ys none (some (n / 12 % 13)) = ys.take kk by rw [hkk]; exact cutV_take ys kk]), fun to hto => ?_⟩
          have s5 : Same H4 (upd (upd H4 lc (.lst (cutV ys none (some (n / 12 % 13))))) to (.tup (ys.take kk))) := ((Same.refl H4).upd hlc).trans ((Same.refl _).upd hto)
          have ho : (upd (upd H4 lc (.lst (cutV ys none (some (n / 12 % 13))))) to (.tup (ys.take kk))) to = some (.tup (ys.take kk)) := upd_same
          generalize upd (upd H4 lc (.lst (cutV ys none (some (n / 12 % 13))))) to (.tup (ys.take kk)) = H5 at s5 ho ⊢
          have hod : ∃ os : List (Int × Bool), Paired (fun x p => ∃ u, x = V.ref u ∧ H5 u = some (.tup [.int p.1, .bl p.2]) ∧ p.1 < w') (ys.take kk) os := pairs_of fun y hy => by
            obtain ⟨u, q, h1, h2, h3⟩ := all_of hyr y (List.mem_of_mem_take hy)
            refine ⟨q, u, h1, s5 _ _ h2, ?_⟩
            refine h3
          obtain ⟨os, hos⟩ := hod
          have hol := Paired.length hos
          have hol2 : os.length ≤ 12 := by rw [← hol, List.length_take]; omega
          have s25 : Same H2 H5 := s3.trans (s4.trans s5)
          have hOd : ∀ {H'}, Same H5 H' → Od H' (.ref to) os w' := fun s' => ⟨to, _, rfl, s' _ _ ho, hol2, Paired.mapP hos fun _ _ ⟨u, a, b, _⟩ => ⟨u, a, s' _ _ b⟩, fun p hp => by
            obtain ⟨y, _, _, _, _, h⟩ := pair_right hos p hp
            exact h⟩
          have hr5 := s25 _ _ hr2
          first | refine wV rfl ?_ | refine ⟨_, rfl, ?_⟩
          first | refine wT rfl (SqT.of hr5) rfl ?_ | refine ⟨_, rfl, r, _, _, _, rfl, rfl, SqT.of hr5, rfl, ?_⟩
          first | refine wV rfl ?_ | refine ⟨_, rfl, ?_⟩
          first | refine wC ⟨by decide, by decide⟩ ?_ | refine wCc ⟨by decide, by decide⟩ ?_ | refine ⟨_, _, rfl, rfl, ⟨by decide, by decide⟩, ?_⟩
          first | refine wC (show (0 : Int) < 61 by decide) ?_ | refine wCc (show (0 : Int) < 61 by decide) ?_ | refine ⟨_, _, rfl, rfl, (show (0 : Int) < 61 by decide), ?_⟩
          first | refine wV rfl ?_ | refine ⟨_, rfl, ?_⟩
          first | refine wV rfl ?_ | refine ⟨_, rfl, ?_⟩
          refine ⟨l4 rfl, ?_⟩
          refine fun tv H6 s6 e6 => ?_
          have hb3 := s6 _ _ (s25 _ _ hb)
          first | refine wV rfl ?_ | refine ⟨_, rfl, ?_⟩
          first | refine wV rfl ?_ | refine ⟨_, rfl, ?_⟩
          refine ⟨tb, _, rfl, .inr (SqT.of hb3), ?_⟩
          first | refine wV rfl ?_ | refine ⟨_, rfl, ?_⟩
          refine ⟨to, _, rfl, .inr (SqT.of (s6 _ _ ho)), ?_⟩
          first | refine wI ?_ | refine wIc ?_ | refine ⟨_, _, rfl, rfl, ?_⟩
          refine ⟨l4 rfl, ?_⟩
          refine fun t H7 s7 e7 => ?_
          rw [List.length_map, hol] at e7
          exact fin t tv _ _ _ H7 (s25.trans (s6.trans s7)) e7 (s7 _ _ e6) (.first (hns (s25.trans (s6.trans s7))) (hOd (s6.trans s7))) hw1 hw2
      · first | refine wN rfl (neD hF) ?_ | refine ⟨_, rfl, rfl, _, rfl, iteQ (neD hF) ?_⟩
        first | refine wV rfl ?_ | refine ⟨_, rfl, ?_⟩
        first | refine wT rfl (SqT.of hr2) rfl ?_ | refine ⟨_, rfl, r, _, _, _, rfl, rfl, SqT.of hr2, rfl, ?_⟩
        first | refine wV rfl ?_ | refine ⟨_, rfl, ?_⟩
        first | refine wC ⟨by decide, by decide⟩ ?_ | refine wCc ⟨by decide, by decide⟩ ?_ | refine ⟨_, _, rfl, rfl, ⟨by decide, by decide⟩, ?_⟩
        first | refine wV rfl ?_ | refine ⟨_, rfl, ?_⟩
        first | refine wC (show (0 : Int) < w' by omega) ?_ | refine wCc (show (0 : Int) < w' by omega) ?_ | refine ⟨_, _, rfl, rfl, (show (0 : Int) < w' by omega), ?_⟩
        first | refine wV rfl ?_ | refine ⟨_, rfl, ?_⟩
        refine ⟨l4 rfl, ?_⟩
        refine fun tv H3 s3 e3 => ?_
        have hb3 := s3 _ _ hb
        first | refine wV rfl ?_ | refine ⟨_, rfl, ?_⟩
        refine ⟨tb, _, rfl, .inr (SqT.of hb3), ?_⟩
        first | refine wI ?_ | refine wIc ?_ | refine ⟨_, _, rfl, rfl, ?_⟩
        first | refine wV rfl ?_ | refine ⟨_, rfl, ?_⟩
        refine ⟨tb, _, rfl, .inr (SqT.of hb3), ?_⟩
        refine ⟨l4 rfl, ?_⟩
        refine fun t H4 s4 e4 => ?_
        rw [List.length_map] at e4
        have hg3 : wd = "sum" ∨ wd = "least" ∨ wd = "most" := by
          rcases hg with h | h | h | h
          · exact .inl h
          · exact .inr (.inl h)
          · exact .inr (.inr h)
          · exact absurd h hF
        exact fin t tv _ _ _ H4 (s3.trans s4) e4 (s4 _ _ e3) (.grp hg3 (Int.emod_lt_of_pos _ (by omega)) (hns (s3.trans s4))) (by omega) (by omega)
end
end VK
namespace VK
open PySem PySem.Spec PyProof.Rows L2
section
variable {P : Program} {w : World} {K : PySem.W.Frag} {mg : Str → Option Value} {base : Heap}
abbrev sOnceR : Stmt := top 44
abbrev psOnceR : List Str := ["_law_now"]
def RcS (H : Hp) (C : Env → Prop) (r : Addr) (w s d : Int) : Prop := ∃ (v : V) (sg : Int), H r = some (.tup [v, .int w, .int s, .int sg, .int d]) ∧ 1 ≤ w ∧ w ≤ 12 ∧ 0 ≤ d ∧ ∀ E, C E → Vw (d.toNat + 1) H E v w s
theorem RcS.rc {H : Hp} {C : Env → Prop} {r : Addr} {w s d : Int} : RcS H C r w s d → Rc H C r w d := fun ⟨v, sg, h⟩ => ⟨v, s, sg, h⟩
theorem Rc.toS {H : Hp} {C : Env → Prop} {r : Addr} {w d : Int} : Rc H C r w d → ∃ s, RcS H C r w s d := fun ⟨v, s, sg, h⟩ => ⟨s, v, sg, h⟩
theorem RcS.same {H H' : Hp} (e : SameT H H') {C : Env → Prop} {r : Addr} {w s d : Int} : RcS H C r w s d → RcS H' C r w s d := fun ⟨v, sg, h1, h2, h3, h4, h5⟩ => ⟨v, sg, e _ _ h1, h2, h3, h4, fun E hE => (h5 E hE).same e⟩
theorem RcS.imp {H : Hp} {C C' : Env → Prop} {r : Addr} {w s d : Int} (f : ∀ E, C' E → C E) : RcS H C r w s d → RcS H C' r w s d := fun ⟨v, sg, h1, h2, h3, h4, h5⟩ => ⟨v, sg, h1, h2, h3, h4, fun E hE => h5 E (f E hE)⟩
def spOnceR : Sp := fun vs H Q _ => ∃ (r : Addr) (C : Env → Prop) (w s d : Int), vs = [.ref r] ∧ RcS H C r w s d ∧ ∀ r' H', Same H H' → RcS H' C r' w (1 + s) (1 + d) → Q (.ref r') H'
theorem scOnceR : FnScope psOnceR psOnceR (defScope sOnceR) := ⟨rfl, rfl, rfl, by decide +kernel, rfl, by decide +kernel, by decide +kernel⟩
theorem okOnceR {f : Addr} {fd : FuncData} (D : Fn K mg "_law_once" sOnceR psOnceR f fd) : FnOk P w K mg base CX0 1 f fd psOnceR spOnceR := by
  refine D.F.ok scOnceR (fun vs H Q E h => ?_) (fun cdv A outer s H vs Q E hr h => ?_)
  · obtain ⟨_, _, _, _, _, rfl, _⟩ := h
    rfl
  · obtain ⟨r, C, w', s0, d, rfl, ⟨v, sg, hr0, hw1, hw2, hd, hv⟩, k⟩ := h
    refine ⟨_, (@pss_one _ _ _ (@ps_ret _ _ _ _ (@pe_tupS _ _ _ _ _ (@pa_cons _ _ _ _ _ (@pe_tupS _ _ _ _ _ (@pa_cons _ _ _ _ _ pe_str (@pa_cons _ _ _ _ _ (@pe_ix _ _ _ _ _ _ _ (ixT K) (pv 0) pe_int (fun _ _ => rfl)) pa_nil (by rfl)) (by rfl))) (@pa_cons _ _ _ _ _ (@pe_ix _ _ _ _ _ _ _ (ixT K) (pv 0) pe_int (fun _ _ => rfl)) (@pa_cons _ _ _ _ _ (@pe_op _ _ _ _ _ _ _ _ op_add pe_int (@pe_ix _ _ _ _ _ _ _ (ixT K) (pv 0) pe_int (fun _ _ => rfl))) (@pa_cons _ _ _ _ _ (@pe_op _ _ _ _ _ _ _ _ op_add pe_int (@pe_ix _ _ _ _ _ _ _ (ixT K) (pv 0) pe_int (fun _ _ => rfl))) (@pa_cons _ _ _ _ _ (@pe_op _ _ _ _ _ _ _ _ op_add pe_int (@pe_ix _ _ _ _ _ _ _ (ixT K) (pv 0) pe_int (fun _ _ => rfl))) pa_nil (by rfl)) (by rfl)) (by rfl)) (by rfl)) (by rfl))))), ?_⟩
    first | refine wT rfl (SqT.of hr0) rfl ?_ | refine ⟨_, rfl, r, _, _, _, rfl, rfl, SqT.of hr0, rfl, ?_⟩
    refine ⟨l4 rfl, ?_⟩
    refine fun tv H1 s1 e1 => ?_
    have hr1 := s1 _ _ hr0
    first | refine wT rfl (SqT.of hr1) rfl ?_ | refine ⟨_, rfl, r, _, _, _, rfl, rfl, SqT.of hr1, rfl, ?_⟩
    first | refine wT rfl (SqT.of hr1) rfl ?_ | refine ⟨_, rfl, r, _, _, _, rfl, rfl, SqT.of hr1, rfl, ?_⟩
    first | refine wI ?_ | refine wIc ?_ | refine ⟨_, _, rfl, rfl, ?_⟩
    first | refine wT rfl (SqT.of hr1) rfl ?_ | refine ⟨_, rfl, r, _, _, _, rfl, rfl, SqT.of hr1, rfl, ?_⟩
    first | refine wI ?_ | refine wIc ?_ | refine ⟨_, _, rfl, rfl, ?_⟩
    first | refine wT rfl (SqT.of hr1) rfl ?_ | refine ⟨_, rfl, r, _, _, _, rfl, rfl, SqT.of hr1, rfl, ?_⟩
    first | refine wI ?_ | refine wIc ?_ | refine ⟨_, _, rfl, rfl, ?_⟩
    refine ⟨l4 rfl, ?_⟩
    refine fun t H2 s2 e2 => ?_
    refine k t H2 (s1.trans s2) ⟨.ref tv, _, e2, hw1, hw2, by omega, fun E hE => ?_⟩
    have := Vw.one (s2 _ _ e1) ((hv E hE).same (s1.trans s2).t) .once hw2
    rw [Int.add_zero] at this
    exact this.mono (by omega)
abbrev sFit : Stmt := top 42
abbrev psFit : List Str := ["_law_now", "_law_wide"]
abbrev nFit : List Str := ["_law_now", "_law_wide", "_law_terms"]
def spFit : Sp := fun vs H Q _ => ∃ (r : Addr) (C : Env → Prop) (w d w2 : Int), vs = [.ref r, .int w2] ∧ Rc H C r w d ∧ 1 ≤ w2 ∧ w2 ≤ 12 ∧ ∀ r' d' H', Same H H' → Rc H' C r' w2 d' → d ≤ d' → d' ≤ d + 1 → Q (.ref r') H'
theorem scFit : FnScope nFit psFit (defScope sFit) := ⟨rfl, rfl, rfl, by decide +kernel, rfl, by decide +kernel, by decide +kernel⟩
theorem tot_ones : ∀ {n : Nat} {qs : List PS'}, qs.length = n → (∀ q ∈ qs, q.2 = 1) → tot qs = n
  | 0, [], _, _ => rfl
  | n + 1, q :: qs, h, h1 => by
    have e : tot (q :: qs) = q.2 + tot qs := by unfold tot; simp
    rw [e, h1 q (.head _), tot_ones (n := n) (by simpa using h) fun z hz => h1 z (.tail _ hz)]
    omega
theorem okFit {f : Addr} {fd : FuncData} (D : Fn K mg "_law_fitted" sFit psFit f fd) (X : Txt mg) : FnOk P w K mg base CX0 1 f fd psFit spFit := by
  refine D.F.ok scFit (fun vs H Q E h => ?_) (fun cdv A outer s H vs Q E hr h => ?_)
  · obtain ⟨_, _, _, _, _, rfl, _⟩ := h
    rfl
  · obtain ⟨r, C, w', d, w2, rfl, hR, hw3, hw4, k⟩ := h
    obtain ⟨v, s0, sg, hr0, hw1, hw2, hd, hv⟩ := id hR
    have nd := scFit.nd
    refine ⟨_, (@pss_cons _ _ _ _ _ (@ps_if _ _ _ _ _ _ _ _ (@pt_cmpR _ _ _ _ _ _ _ _ op_eq (@pe_ix _ _ _ _ _ _ _ (ixT K) (pv 0) pe_int (fun _ _ => rfl)) (pv 1) (nomark _)) (@pss_one _ _ _ (@ps_ret _ _ _ _ (pv 0))) pss_nil) (@pss_cons _ _ _ _ _ (@ps_set _ _ (2) _ _ _ _ nd rfl (Or.inl rfl) (@pe_callTy _ _ _ _ _ _ _ _ _ (tupK K) rfl X.tuple b_tuple (@pa_cons _ _ _ _ _ (@pe_comp _ _ _ _ _ _ _ _ (tTupS (tCons (tC (V.str "at")) (tCons (tOp _ (tVar 0) (tOp (rIxT K) (tVar 1) (tC (V.int 1)))) tNil))) (["_law_k"]) ([("_law_now", 0)]) (defScope sFit) (nFit) rfl rfl ⟨rfl, by decide +kernel, by decide +kernel, by decide +kernel, by decide +kernel⟩ rfl (@pi_range1 _ _ _ _ _ _ rfl X.range (@pa_cons _ _ _ _ _ (pv 1) pa_nil (by rfl)) (by rfl)) (fun s H fp => pg_name (i := 0) (show (["_law_k", "_law_now"] : List Str).Nodup by decide +kernel) rfl (Or.inl rfl) (Or.inr rfl)) (fun s H fp => (@pe_tupS _ _ _ _ _ (@pa_cons _ _ _ _ _ pe_str (@pa_cons _ _ _ _ _ (@pe_op _ _ _ _ _ _ _ _ op_mod (pv 0) (@pe_ix _ _ _ _ _ _ _ (ixT K) (pv 1) pe_int (fun _ _ => rfl))) pa_nil (by rfl)) (by rfl)))) (by intro _; rfl)) pa_nil (by rfl)) (by decide) (by decide) (by rfl) (by rfl)) (by rfl) (by first | exact .inl rfl | exact .inr rfl | assumption)) (@pss_one _ _ _ (@ps_ret _ _ _ _ (@pe_tupS _ _ _ _ _ (@pa_cons _ _ _ _ _ (@pe_tupS _ _ _ _ _ (@pa_cons _ _ _ _ _ pe_str (@pa_cons _ _ _ _ _ (@pe_ix _ _ _ _ _ _ _ (ixT K) (pv 0) pe_int (fun _ _ => rfl)) (@pa_cons _ _ _ _ _ (pv 2) pa_nil (by rfl)) (by rfl)) (by rfl))) (@pa_cons _ _ _ _ _ (pv 1) (@pa_cons _ _ _ _ _ (@pe_op _ _ _ _ _ _ _ _ op_add (@pe_op _ _ _ _ _ _ _ _ op_add pe_int (pv 1)) (@pe_ix _ _ _ _ _ _ _ (ixT K) (pv 0) pe_int (fun _ _ => rfl))) (@pa_cons _ _ _ _ _ (@pe_op _ _ _ _ _ _ _ _ op_add (@pe_op _ _ _ _ _ _ _ _ op_add pe_int (@pe_op _ _ _ _ _ _ _ _ op_mul pe_int (pv 1))) (@pe_ix _ _ _ _ _ _ _ (ixT K) (pv 0) pe_int (fun _ _ => rfl))) (@pa_cons _ _ _ _ _ (@pe_op _ _ _ _ _ _ _ _ op_add pe_int (@pe_ix _ _ _ _ _ _ _ (ixT K) (pv 0) pe_int (fun _ _ => rfl))) pa_nil (by rfl)) (by rfl)) (by rfl)) (by rfl)) (by rfl))))))), ?_⟩
    first | refine wT rfl (SqT.of hr0) rfl ?_ | refine ⟨_, rfl, r, _, _, _, rfl, rfl, SqT.of hr0, rfl, ?_⟩
    refine ⟨_, rfl, rfl, _, rfl, ite2 (fun hq => ?_) (fun hq => ?_)⟩
    · have e : w' = w2 := by have := of_decide_eq_true hq; injection this
      subst e
      first | refine wV rfl ?_ | refine ⟨_, rfl, ?_⟩
      refine k r d H (Same.refl H) hR (Int.le_refl _) (by omega)
    · obtain ⟨m2, rfl⟩ : ∃ m2 : Nat, w2 = (m2 : Int) := ⟨w2.toNat, by omega⟩
      first | refine wV rfl ?_ | refine ⟨_, rfl, ?_⟩
      first | refine wV rfl ?_ | refine ⟨_, rfl, ?_⟩
      refine ⟨by omega, by omega, ?_⟩
      refine fun l hl => ?_
      refine comp_R (n := m2) (fun σ => ∃ a, σ = [a, some (.ref r)]) (fun i y H => ∃ q : PS', Tr 4 H y q.1 q.2 ∧ (∀ p ∈ q.1, p < w') ∧ q.2 = 1) (fun _ _ _ _ z ⟨q, h1, h2⟩ => ⟨q, h1.sameT z, h2⟩) (by omega) hl ⟨_, rfl⟩ ?_ ?_
      · rintro CC i σ H1 hi s1 ⟨x1, rfl⟩ kk
        have hr1 := s1 _ _ hr0
        first | refine wV rfl ?_ | refine ⟨_, rfl, ?_⟩
        first | refine wT rfl (SqT.of hr1) rfl ?_ | refine ⟨_, rfl, r, _, _, _, rfl, rfl, SqT.of hr1, rfl, ?_⟩
        first | refine wC (show (0 : Int) < w' by omega) ?_ | refine wCc (show (0 : Int) < w' by omega) ?_ | refine ⟨_, _, rfl, rfl, (show (0 : Int) < w' by omega), ?_⟩
        refine ⟨l4 rfl, ?_⟩
        refine fun t H2 s2 e2 => ?_
        refine kk _ _ _ s2 ⟨_, rfl⟩ ⟨([_], 1), Tr.at e2, in1 (Int.emod_lt_of_pos _ (by omega)), rfl⟩
      · intro H1 ys s1 e1 hyl hyr
        refine ⟨l, ys, rfl, ?_⟩
        refine .inl ⟨SqL.of e1, fun tc htc => ?_⟩
        have s2 : Same H (upd H1 tc (.tup ys)) := s1.trans ((Same.refl H1).upd htc)
        have hc : (upd H1 tc (.tup ys)) tc = some (.tup ys) := upd_same
        have s12 : SameT H1 (upd H1 tc (.tup ys)) := ((Same.refl H1).upd htc).t
        generalize upd H1 tc (.tup ys) = H2 at s2 hc s12 ⊢
        obtain ⟨qs, hqs⟩ : ∃ qs : List PS', Paired (fun y q => Tr 4 H2 y q.1 q.2 ∧ (∀ p ∈ q.1, p < w') ∧ q.2 = 1) ys qs := pairs_of fun y hy => by
          obtain ⟨q, h1, h2⟩ := all_of hyr y hy
          refine ⟨q, h1.sameT s12, ?_⟩
          refine h2
        have hql := Paired.length hqs
        have hto : tot qs = (m2 : Int) := tot_ones (by omega) fun q hq => by
          obtain ⟨y, _, _, _, h⟩ := pair_right hqs q hq
          exact h
        have hr2 := s2 _ _ hr0
        first | refine wT rfl (SqT.of hr2) rfl ?_ | refine ⟨_, rfl, r, _, _, _, rfl, rfl, SqT.of hr2, rfl, ?_⟩
        first | refine wV rfl ?_ | refine ⟨_, rfl, ?_⟩
        refine ⟨l4 rfl, ?_⟩
        refine fun tv H3 s3 e3 => ?_
        have hr3 := s3 _ _ hr2
        first | refine wV rfl ?_ | refine ⟨_, rfl, ?_⟩
        first | refine wV rfl ?_ | refine ⟨_, rfl, ?_⟩
        first | refine wI ?_ | refine wIc ?_ | refine ⟨_, _, rfl, rfl, ?_⟩
        first | refine wT rfl (SqT.of hr3) rfl ?_ | refine ⟨_, rfl, r, _, _, _, rfl, rfl, SqT.of hr3, rfl, ?_⟩
        first | refine wI ?_ | refine wIc ?_ | refine ⟨_, _, rfl, rfl, ?_⟩
        first | refine wV rfl ?_ | refine ⟨_, rfl, ?_⟩
        first | refine wC (.inl ⟨by decide, by decide⟩) ?_ | refine wCc (.inl ⟨by decide, by decide⟩) ?_ | refine ⟨_, _, rfl, rfl, .inl ⟨by decide, by decide⟩, ?_⟩
        first | refine wI ?_ | refine wIc ?_ | refine ⟨_, _, rfl, rfl, ?_⟩
        first | refine wT rfl (SqT.of hr3) rfl ?_ | refine ⟨_, rfl, r, _, _, _, rfl, rfl, SqT.of hr3, rfl, ?_⟩
        first | refine wI ?_ | refine wIc ?_ | refine ⟨_, _, rfl, rfl, ?_⟩
        first | refine wT rfl (SqT.of hr3) rfl ?_ | refine ⟨_, rfl, r, _, _, _, rfl, rfl, SqT.of hr3, rfl, ?_⟩
        first | refine wI ?_ | refine wIc ?_ | refine ⟨_, _, rfl, rfl, ?_⟩
        refine ⟨l4 rfl, ?_⟩
        refine fun t H4 s4 e4 => ?_
        have s24 := s3.trans s4
        refine k t _ H4 (s2.trans s24) ⟨.ref tv, _, _, e4, hw3, hw4, by omega, fun E hE => ?_⟩ (by omega) (by omega)
        have hone : OneB H4 "cols" [.ref tc] w' (ys.length : Int) (tot qs) := .cols (s24 _ _ hc) (by omega) (Paired.mapP hqs fun _ _ z => z.1.same s24) (flat_all fun q hq => by
          obtain ⟨y, _, _, h, _⟩ := pair_right hqs q hq
          exact h)
        have := Vw.one (s4 _ _ e3) ((hv E hE).same (s2.trans s24).t) hone (by omega)
        rw [hto, hyl] at this
        exact this.mono (by omega)
abbrev sOne : Stmt := top 41
abbrev psOne : List Str := ["_law_number", "_law_word", "_law_now"]
abbrev nOne : List Str := ["_law_number", "_law_word", "_law_now", "_law_wide", "_law_more", "_law_signs", "_law_asked_here", "_law_view", "_law_terms"]
def OneW (wd : Str) : Prop := wd = "sieve" ∨ wd = "once" ∨ wd = "cols" ∨ GrW wd
def spOne : Sp := fun vs H Q _ => ∃ (n : Int) (wd : Str) (r : Addr) (C : Env → Prop) (w d : Int), vs = [.int n, .str wd, .ref r] ∧ Rc H C r w d ∧ OneW wd ∧ ∀ r' w' H', Same H H' → Rc H' C r' w' (1 + d) → Q (.ref r') H'
theorem scOne : FnScope nOne psOne (defScope sOne) := ⟨rfl, rfl, rfl, by decide +kernel, rfl, by decide +kernel, by decide +kernel⟩
theorem Rc.one {H H' : Hp} {C : Env → Prop} {v : V} {w s d w' m sg' : Int} {t tv : Addr} {wd : Str} {bs : List V} (e : H' t = some (.tup [.ref tv, .int w', .int (1 + m + s), .int sg', .int (1 + d)])) (hv : ∀ E, C E → Vw (d.toNat + 1) H E v w s) (hS : SameT H H') (hd : 0 ≤ d) (h : H' tv = some (.tup (.str wd :: v :: bs))) (hb : OneB H' wd bs w w' m) (h1 : 1 ≤ w') (h2 : w' ≤ 12) : Rc H' C t w' (1 + d) :=
  ⟨.ref tv, _, sg', e, h1, h2, by omega, fun E hE => (Vw.one h ((hv E hE).same hS) hb h2).mono (by omega)⟩
theorem okOne {f fA fT fG fD : Addr} {fd fdA fdT fdG fdD : FuncData} (D : Fn K mg "_law_one" sOne psOne f fd) (X : Txt mg) (DA : Fn K mg "_law_asked" sAsked psTerm fA fdA) (DT : Fn K mg "_law_term" sTerm psTerm fT fdT) (DG : Fn K mg "_law_grouped" sGrp psGrp fG fdG) (DD : Fn K mg "_law_digits" sDigits psDigits fD fdD) : FnOk P w K mg base CX0 3 f fd psOne spOne := by
  have GA : FnOk P w K mg base CX0 2 fA fdA psTerm spTerm := (okAsked DA).mono (by decide)
  have GT : FnOk P w K mg base CX0 2 fT fdT psTerm spTerm := (okTerm DT).mono (by decide)
  have GG : FnOk P w K mg base CX0 2 fG fdG psGrp spGrp := okGrp DG X DD
  refine D.F.ok (k := 2) scOne (fun vs H Q E h => ?_) (fun cdv A outer s H vs Q E hr h => ?_)
  · obtain ⟨_, _, _, _, _, _, rfl, _⟩ := h
    rfl
  · obtain ⟨n, wd, r, C, w', d, rfl, ⟨v, s0, sg, hr0, hw1, hw2, hd, hv⟩, hW, k⟩ := h
    have nd := scOne.nd
    refine ⟨_, (@pss_cons _ _ _ _ _ (@ps_set _ _ (3) _ _ _ _ nd rfl (Or.inr rfl) (@pe_ix _ _ _ _ _ _ _ (ixT K) (pv 2) pe_int (fun _ _ => rfl)) (by rfl) (by first | exact .inl rfl | exact .inr rfl | assumption)) (@pss_cons _ _ _ _ _ (@ps_set _ _ (4) _ _ _ _ nd rfl (Or.inl rfl) pe_int (by rfl) (by first | exact .inl rfl | exact .inr rfl | assumption)) (@pss_cons _ _ _ _ _ (@ps_set _ _ (5) _ _ _ _ nd rfl (Or.inl rfl) pe_int (by rfl) (by first | exact .inl rfl | exact .inr rfl | assumption)) (@pss_cons _ _ _ _ _ (@ps_if _ _ _ _ _ _ _ _ (@pt_cmpR _ _ _ _ _ _ _ _ op_eq (pv 1) pe_str (nomark _)) (@pss_cons _ _ _ _ _ (@ps_asg _ _ _ _ _ _ (@pe_call _ _ _ _ _ _ _ _ _ _ _ _ _ _ _ _ GA hr rfl DA.m DA.F.kp DA.b .nil pass0 (@pa_cons _ _ _ _ _ (pv 0) (@pa_cons _ _ _ _ _ (pv 3) pa_nil (by rfl)) (by rfl)) (by decide) (by rfl) (by rfl)) (@pg_tup _ _ _ _ _ _ rfl (@pgs_cons _ _ _ _ _ (@pg_name _ _ (6) _ nd rfl (Or.inl rfl) (by first | exact .inl rfl | exact .inr rfl | assumption)) (@pgs_cons _ _ _ _ _ (@pg_name _ _ (4) _ nd rfl (Or.inl rfl) (by first | exact .inl rfl | exact .inr rfl | assumption)) pgs_nil (by rfl)) (by rfl)) (by rfl) (by rfl)) (by rfl) (by rfl) (by rfl)) (@pss_cons _ _ _ _ _ (@ps_set _ _ (7) _ _ _ _ nd rfl (Or.inl rfl) (@pe_tupS _ _ _ _ _ (@pa_cons _ _ _ _ _ (pv 1) (@pa_cons _ _ _ _ _ (@pe_ix _ _ _ _ _ _ _ (ixT K) (pv 2) pe_int (fun _ _ => rfl)) (@pa_cons _ _ _ _ _ (pv 6) pa_nil (by rfl)) (by rfl)) (by rfl))) (by rfl) (by first | exact .inl rfl | exact .inr rfl | assumption)) (@pss_one _ _ _ (@ps_set _ _ (5) _ _ _ _ nd rfl (Or.inl rfl) pe_int (by rfl) (by first | exact .inl rfl | exact .inr rfl | assumption))))) (@pss_one _ _ _ (@ps_if _ _ _ _ _ _ _ _ (@pt_cmpR _ _ _ _ _ _ _ _ op_eq (pv 1) pe_str (nomark _)) (@pss_one _ _ _ (@ps_set _ _ (7) _ _ _ _ nd rfl (Or.inl rfl) (@pe_tupS _ _ _ _ _ (@pa_cons _ _ _ _ _ (pv 1) (@pa_cons _ _ _ _ _ (@pe_ix _ _ _ _ _ _ _ (ixT K) (pv 2) pe_int (fun _ _ => rfl)) pa_nil (by rfl)) (by rfl))) (by rfl) (by first | exact .inl rfl | exact .inr rfl | assumption))) (@pss_one _ _ _ (@ps_if _ _ _ _ _ _ _ _ (@pt_cmpR _ _ _ _ _ _ _ _ op_eq (pv 1) pe_str (nomark _)) (@pss_cons _ _ _ _ _ (@ps_comp _ _ _ _ _ _ _ _ (tCall spTerm [] E0 (tCons _ (tCons (tVar 2) tNil))) (["_law_k"]) ([("_law_number", 0), ("_law_wide", 3)]) (defScope sOne) (nOne) (8) _ _ _ nd rfl (Or.inl rfl) rfl rfl ⟨rfl, by decide +kernel, by decide +kernel, by decide +kernel, by decide +kernel⟩ rfl (@pi_range1 _ _ _ _ _ _ rfl X.range (@pa_cons _ _ _ _ _ (@pe_op _ _ _ _ _ _ _ _ op_add pe_int (@pe_op _ _ _ _ _ _ _ _ op_mod (pv 0) pe_int)) pa_nil (by rfl)) (by rfl)) (fun s H fp => pg_name (i := 0) (show (["_law_k", "_law_number", "_law_wide"] : List Str).Nodup by decide +kernel) rfl (Or.inl rfl) (Or.inr rfl)) (fun s H fp => pe_call GT hr rfl DT.m DT.F.kp DT.b .nil pass0 (@pa_cons _ _ _ _ _ (@pe_op _ _ _ _ _ _ _ _ op_fdiv (pv 1) (@pe_op _ _ _ _ _ _ _ _ op_add (@pe_op _ _ _ _ _ _ _ _ op_mul pe_int (pv 0)) pe_int)) (@pa_cons _ _ _ _ _ (pv 2) pa_nil (by rfl)) (by rfl))) (by rfl) (by intro _; rfl) (by first | exact .inl rfl | exact .inr rfl | assumption)) (@pss_cons _ _ _ _ _ (@ps_set _ _ (4) _ _ _ _ nd rfl (Or.inl rfl) (@pe_callB _ _ _ _ _ _ _ _ _ (sumK K rfl) (by rfl) X.sum b_sum (@pa_cons _ _ _ _ _ (@pe_comp _ _ _ _ _ _ _ _ (tOp (rIxT K) (tVar 0) _) (["_law_term_here"]) ([]) (defScope sOne) (nOne) rfl rfl ⟨rfl, by decide +kernel, by decide +kernel, by decide +kernel, by decide +kernel⟩ rfl (@pi_list _ _ _ _ (pv 8)) (fun s H fp => pg_name (i := 0) (show (["_law_term_here"] : List Str).Nodup by decide +kernel) rfl (Or.inl rfl) (Or.inr rfl)) (fun s H fp => (@pe_ix _ _ _ _ _ _ _ (ixT K) (pv 0) pe_int (fun _ _ => rfl))) (by intro _; rfl)) pa_nil (by rfl)) (by decide) (by decide) (by rfl) (by rfl)) (by rfl) (by first | exact .inl rfl | exact .inr rfl | assumption)) (@pss_cons _ _ _ _ _ (@ps_set _ _ (5) _ _ _ _ nd rfl (Or.inl rfl) (@pe_op _ _ _ _ _ _ _ _ op_add pe_int (@pe_op _ _ _ _ _ _ _ _ op_mul pe_int (@pe_callB _ _ _ _ _ _ _ _ _ (lenK K) (by rfl) X.len b_len (@pa_cons _ _ _ _ _ (pv 8) pa_nil (by rfl)) (by decide) (by decide) (by rfl) (by rfl)))) (by rfl) (by first | exact .inl rfl | exact .inr rfl | assumption)) (@pss_cons _ _ _ _ _ (@ps_set _ _ (3) _ _ _ _ nd rfl (Or.inr rfl) (@pe_callB _ _ _ _ _ _ _ _ _ (lenK K) (by rfl) X.len b_len (@pa_cons _ _ _ _ _ (pv 8) pa_nil (by rfl)) (by decide) (by decide) (by rfl) (by rfl)) (by rfl) (by first | exact .inl rfl | exact .inr rfl | assumption)) (@pss_one _ _ _ (@ps_set _ _ (7) _ _ _ _ nd rfl (Or.inl rfl) (@pe_tupS _ _ _ _ _ (@pa_cons _ _ _ _ _ (pv 1) (@pa_cons _ _ _ _ _ (@pe_ix _ _ _ _ _ _ _ (ixT K) (pv 2) pe_int (fun _ _ => rfl)) (@pa_cons _ _ _ _ _ (@pe_callTy _ _ _ _ _ _ _ _ _ (tupK K) rfl X.tuple b_tuple (@pa_cons _ _ _ _ _ (@pe_comp _ _ _ _ _ _ _ _ (tOp (rIxT K) (tVar 0) _) (["_law_term_here"]) ([]) (defScope sOne) (nOne) rfl rfl ⟨rfl, by decide +kernel, by decide +kernel, by decide +kernel, by decide +kernel⟩ rfl (@pi_list _ _ _ _ (pv 8)) (fun s H fp => pg_name (i := 0) (show (["_law_term_here"] : List Str).Nodup by decide +kernel) rfl (Or.inl rfl) (Or.inr rfl)) (fun s H fp => (@pe_ix _ _ _ _ _ _ _ (ixT K) (pv 0) pe_int (fun _ _ => rfl))) (by intro _; rfl)) pa_nil (by rfl)) (by decide) (by decide) (by rfl) (by rfl)) pa_nil (by rfl)) (by rfl)) (by rfl))) (by rfl) (by first | exact .inl rfl | exact .inr rfl | assumption))))))) (@pss_cons _ _ _ _ _ (@ps_asg _ _ _ _ _ _ (@pe_call _ _ _ _ _ _ _ _ _ _ _ _ _ _ _ _ GG hr rfl DG.m DG.F.kp DG.b .nil pass0 (@pa_cons _ _ _ _ _ (pv 0) (@pa_cons _ _ _ _ _ (pv 1) (@pa_cons _ _ _ _ _ (pv 2) pa_nil (by rfl)) (by rfl)) (by rfl)) (by decide) (by rfl) (by rfl)) (@pg_tup _ _ _ _ _ _ rfl (@pgs_cons _ _ _ _ _ (@pg_name _ _ (7) _ nd rfl (Or.inl rfl) (by first | exact .inl rfl | exact .inr rfl | assumption)) (@pgs_cons _ _ _ _ _ (@pg_name _ _ (3) _ nd rfl (Or.inr rfl) (by first | exact .inl rfl | exact .inr rfl | assumption)) (@pgs_cons _ _ _ _ _ (@pg_name _ _ (4) _ nd rfl (Or.inl rfl) (by first | exact .inl rfl | exact .inr rfl | assumption)) pgs_nil (by rfl)) (by rfl)) (by rfl)) (by rfl) (by rfl)) (by rfl) (by rfl) (by rfl)) (@pss_one _ _ _ (@ps_set _ _ (5) _ _ _ _ nd rfl (Or.inl rfl) (@pe_op _ _ _ _ _ _ _ _ op_add pe_int (@pe_op _ _ _ _ _ _ _ _ op_mul pe_int (pv 4))) (by rfl) (by first | exact .inl rfl | exact .inr rfl | assumption))))))))) (@pss_one _ _ _ (@ps_ret _ _ _ _ (@pe_tupS _ _ _ _ _ (@pa_cons _ _ _ _ _ (pv 7) (@pa_cons _ _ _ _ _ (pv 3) (@pa_cons _ _ _ _ _ (@pe_op _ _ _ _ _ _ _ _ op_add (@pe_op _ _ _ _ _ _ _ _ op_add pe_int (pv 4)) (@pe_ix _ _ _ _ _ _ _ (ixT K) (pv 2) pe_int (fun _ _ => rfl))) (@pa_cons _ _ _ _ _ (@pe_op _ _ _ _ _ _ _ _ op_add (pv 5) (@pe_ix _ _ _ _ _ _ _ (ixT K) (pv 2) pe_int (fun _ _ => rfl))) (@pa_cons _ _ _ _ _ (@pe_op _ _ _ _ _ _ _ _ op_add pe_int (@pe_ix _ _ _ _ _ _ _ (ixT K) (pv 2) pe_int (fun _ _ => rfl))) pa_nil (by rfl)) (by rfl)) (by rfl)) (by rfl)) (by rfl))))))))), ?_⟩
    first | refine wT rfl (SqT.of hr0) rfl ?_ | refine ⟨_, rfl, r, _, _, _, rfl, rfl, SqT.of hr0, rfl, ?_⟩
    rcases hW with rfl | rfl | rfl | hG
    · first | refine wY rfl (by decide +kernel) ?_ | refine ⟨_, rfl, rfl, _, rfl, iteP (by decide +kernel) ?_⟩
      first | refine wV rfl ?_ | refine ⟨_, rfl, ?_⟩
      first | refine wV rfl ?_ | refine ⟨_, rfl, ?_⟩
      refine ⟨n, w', rfl, by omega, ?_⟩
      refine fun ta H1 s1 ⟨u, ps, sz, ha, hT, hp⟩ => ?_
      have hr1 := s1 _ _ hr0
      refine ⟨ta, _, rfl, SqT.of ha, rfl, _, _, rfl, _, _, rfl, rfl, ?_⟩
      first | refine wV rfl ?_ | refine ⟨_, rfl, ?_⟩
      first | refine wT rfl (SqT.of hr1) rfl ?_ | refine ⟨_, rfl, r, _, _, _, rfl, rfl, SqT.of hr1, rfl, ?_⟩
      first | refine wV rfl ?_ | refine ⟨_, rfl, ?_⟩
      refine ⟨l4 rfl, ?_⟩
      refine fun tv H2 s2 e2 => ?_
      have hr2 := s2 _ _ hr1
      refine EVA.tup (EVA.cons (EV.var rfl) (EVA.cons (EV.var rfl) (EVA.cons (EV.op0 (EV.op0 EV.c (EV.var rfl)) (EV.ix rfl (SqT.of hr2) rfl)) (EVA.cons (EV.op0 (EV.var rfl) (EV.ix rfl (SqT.of hr2) rfl)) (EVA.cons (EV.op0 EV.c (EV.ix rfl (SqT.of hr2) rfl)) EVA.nil))))) (l4 rfl) (fun t H3 s3 e3 => ?_)
      have s13 := s2.trans s3
      exact k t _ H3 (s1.trans s13) (Rc.one e3 hv (s1.trans s13).t hd (s3 _ _ e2) (.sieve (hT.same s13) hp) hw1 hw2)
    · first | refine wN rfl (by decide +kernel) ?_ | refine ⟨_, rfl, rfl, _, rfl, iteQ (by decide +kernel) ?_⟩
      first | refine wY rfl (by decide +kernel) ?_ | refine ⟨_, rfl, rfl, _, rfl, iteP (by decide +kernel) ?_⟩
      first | refine wV rfl ?_ | refine ⟨_, rfl, ?_⟩
      first | refine wT rfl (SqT.of hr0) rfl ?_ | refine ⟨_, rfl, r, _, _, _, rfl, rfl, SqT.of hr0, rfl, ?_⟩
      refine ⟨l4 rfl, ?_⟩
      refine fun tv H2 s2 e2 => ?_
      have hr2 := s2 _ _ hr0
      refine EVA.tup (EVA.cons (EV.var rfl) (EVA.cons (EV.var rfl) (EVA.cons (EV.op0 (EV.op0 EV.c (EV.var rfl)) (EV.ix rfl (SqT.of hr2) rfl)) (EVA.cons (EV.op0 (EV.var rfl) (EV.ix rfl (SqT.of hr2) rfl)) (EVA.cons (EV.op0 EV.c (EV.ix rfl (SqT.of hr2) rfl)) EVA.nil))))) (l4 rfl) (fun t H3 s3 e3 => ?_)
      exact k t _ H3 (s2.trans s3) (Rc.one e3 hv (s2.trans s3).t hd (s3 _ _ e2) .once hw1 hw2)
    · first | refine wN rfl (by decide +kernel) ?_ | refine ⟨_, rfl, rfl, _, rfl, iteQ (by decide +kernel) ?_⟩
      first | refine wN rfl (by decide +kernel) ?_ | refine ⟨_, rfl, rfl, _, rfl, iteQ (by decide +kernel) ?_⟩
      first | refine wY rfl (by decide +kernel) ?_ | refine ⟨_, rfl, rfl, _, rfl, iteP (by decide +kernel) ?_⟩
      obtain ⟨m2, hm2⟩ : ∃ m2 : Nat, 1 + n % 12 = (m2 : Int) := ⟨(1 + n % 12).toNat, by have := Int.emod_nonneg n (show (12 : Int) ≠ 0 by decide); omega⟩
      have hm12 : 1 ≤ m2 ∧ m2 ≤ 12 := by
        have h1 := Int.emod_nonneg n (show (12 : Int) ≠ 0 by decide)
        have h2 := Int.emod_lt_of_pos n (show (0 : Int) < 12 by decide)
        omega
      first | refine wV rfl ?_ | refine ⟨_, rfl, ?_⟩
      first | refine wC (show (0 : Int) < 12 by decide) ?_ | refine wCc (show (0 : Int) < 12 by decide) ?_ | refine ⟨_, _, rfl, rfl, (show (0 : Int) < 12 by decide), ?_⟩
      first | refine wI ?_ | refine wIc ?_ | refine ⟨_, _, rfl, rfl, ?_⟩
      refine ⟨(m2 : Int), congrArg (fun z => [V.int z]) hm2, by omega, by omega, ?_⟩
      refine fun l hl => ?_
      refine comp_R (n := m2) (fun σ => ∃ a, σ = [a, some (.int n), some (.int w')]) (fun i y H => ∃ t, y = .ref t ∧ Term H t w') (fun _ _ _ _ z ⟨t, h1, h2⟩ => ⟨t, h1, h2.same z⟩) (by omega) hl ⟨_, rfl⟩ ?_ ?_
      · rintro CC i σ H1 hi s1 ⟨x1, rfl⟩ kk
        first | refine wV rfl ?_ | refine ⟨_, rfl, ?_⟩
        first | refine wV rfl ?_ | refine ⟨_, rfl, ?_⟩
        first | refine wC (.inl ⟨by decide, by decide⟩) ?_ | refine wCc (.inl ⟨by decide, by decide⟩) ?_ | refine ⟨_, _, rfl, rfl, .inl ⟨by decide, by decide⟩, ?_⟩
        first | refine wI ?_ | refine wIc ?_ | refine ⟨_, _, rfl, rfl, ?_⟩
        first | refine wC ⟨by show (0 : Int) < 5 * (0 + (i : Int)) + 1; omega, by show 5 * (0 + (i : Int)) + 1 < 1073741824; omega⟩ ?_ | refine wCc ⟨by show (0 : Int) < 5 * (0 + (i : Int)) + 1; omega, by show 5 * (0 + (i : Int)) + 1 < 1073741824; omega⟩ ?_ | refine ⟨_, _, rfl, rfl, ⟨by show (0 : Int) < 5 * (0 + (i : Int)) + 1; omega, by show 5 * (0 + (i : Int)) + 1 < 1073741824; omega⟩, ?_⟩
        first | refine wV rfl ?_ | refine ⟨_, rfl, ?_⟩
        refine ⟨_, w', rfl, by omega, fun t H2 s2 hT => kk _ _ _ s2 ⟨_, rfl⟩ ⟨t, rfl, hT⟩⟩
      · intro H1 ys s1 e1 hyl hyr
        obtain ⟨qs, hqs⟩ : ∃ qs : List PS', Paired (fun y q => ∃ t u, y = V.ref t ∧ H1 t = some (.tup [u, .int q.2]) ∧ Tr 4 H1 u q.1 q.2 ∧ ∀ p ∈ q.1, p < w') ys qs := pairs_of fun y hy => by
          obtain ⟨t, rfl, u, ps, sz, h1, h2, h3⟩ := all_of hyr y hy
          refine ⟨(ps, sz), t, u, rfl, h1, h2, ?_⟩
          refine h3
        have hql := Paired.length hqs
        first | refine wV rfl ?_ | refine ⟨_, rfl, ?_⟩
        refine ⟨l, rfl, ⟨_, SqL.of e1⟩, ?_⟩
        refine fun l2 hl2 => ?_
        refine comp_L (K := K) e1 (fun σ => ∃ a, σ = [a]) (fun i y H => ∃ q, qs[i]? = some q ∧ y = .int q.2) (fun _ _ _ _ _ z => z) (by omega) hl2 ⟨_, rfl⟩ ?_ ?_
        · rintro CC i σ H2 x ex s2 ⟨x1, rfl⟩ kk
          obtain ⟨q, eq, t, u, rfl, h1, h2, h3⟩ := pair_at hqs ex
          first | refine wT rfl (SqT.of (s2 _ _ h1)) rfl ?_ | refine ⟨_, rfl, t, _, _, _, rfl, rfl, SqT.of (s2 _ _ h1), rfl, ?_⟩
          refine kk _ _ _ (Same.refl _) ⟨_, rfl⟩ ⟨q, eq, rfl⟩
        · intro H2 ys2 s2 e2 hyl2 hyr2
          have h2q : ys2 = (qs.map (·.2)).map V.int := list_of (by omega) hyr2
          rw [h2q] at e2
          refine ⟨l2, _, rfl, SqL.of e2, ?_⟩
          have e12 := s2 _ _ e1
          first | refine wV rfl ?_ | refine ⟨_, rfl, ?_⟩
          refine ⟨l, _, rfl, .inl (SqL.of e12), ?_⟩
          first | refine wC (.inl ⟨by decide, by decide⟩) ?_ | refine wCc (.inl ⟨by decide, by decide⟩) ?_ | refine ⟨_, _, rfl, rfl, .inl ⟨by decide, by decide⟩, ?_⟩
          first | refine wI ?_ | refine wIc ?_ | refine ⟨_, _, rfl, rfl, ?_⟩
          first | refine wV rfl ?_ | refine ⟨_, rfl, ?_⟩
          refine ⟨l, _, rfl, .inl (SqL.of e12), ?_⟩
          have hr2 := s2 _ _ (s1 _ _ hr0)
          first | refine wV rfl ?_ | refine ⟨_, rfl, ?_⟩
          first | refine wT rfl (SqT.of hr2) rfl ?_ | refine ⟨_, rfl, r, _, _, _, rfl, rfl, SqT.of hr2, rfl, ?_⟩
          first | refine wV rfl ?_ | refine ⟨_, rfl, ?_⟩
          refine ⟨l, rfl, ⟨_, SqL.of e12⟩, ?_⟩
          refine fun l3 hl3 => ?_
          refine comp_L (K := K) e12 (fun σ => ∃ a, σ = [a]) (fun i y H => ∃ q, qs[i]? = some q ∧ (Tr 4 H y q.1 q.2 ∧ ∀ p ∈ q.1, p < w')) (fun _ _ _ _ z ⟨q, h1, h2, h3⟩ => ⟨q, h1, h2.sameT z, h3⟩) (by omega) hl3 ⟨_, rfl⟩ ?_ ?_
          · rintro CC i σ H3 x ex s3 ⟨x1, rfl⟩ kk
            obtain ⟨q, eq, t, u, rfl, h1, h2, h3⟩ := pair_at hqs ex
            first | refine wT rfl (SqT.of (s3 _ _ (s2 _ _ h1))) rfl ?_ | refine ⟨_, rfl, t, _, _, _, rfl, rfl, SqT.of (s3 _ _ (s2 _ _ h1)), rfl, ?_⟩
            refine kk _ _ _ (Same.refl _) ⟨_, rfl⟩ ⟨q, eq, h2.same (s2.trans s3), h3⟩
          · intro H3 ys3 s3 e3 hyl3 hyr3
            have hp3 : Paired (fun y (q : PS') => Tr 4 H3 y q.1 q.2 ∧ ∀ p ∈ q.1, p < w') ys3 qs := paired_of (by omega) hyr3
            refine ⟨l3, ys3, rfl, ?_⟩
            refine .inl ⟨SqL.of e3, fun tc htc => ?_⟩
            have s4 : Same H3 (upd H3 tc (.tup ys3)) := (Same.refl H3).upd htc
            have hc : (upd H3 tc (.tup ys3)) tc = some (.tup ys3) := upd_same
            generalize upd H3 tc (.tup ys3) = H4 at s4 hc ⊢
            refine ⟨l4 rfl, ?_⟩
            refine fun tv H5 s5 e5 => ?_
            have hr5 := s5 _ _ (s4 _ _ (s3 _ _ hr2))
            refine EVA.tup (EVA.cons (EV.var rfl) (EVA.cons (EV.var rfl) (EVA.cons (EV.op0 (EV.op0 EV.c (EV.var rfl)) (EV.ix rfl (SqT.of hr5) rfl)) (EVA.cons (EV.op0 (EV.var rfl) (EV.ix rfl (SqT.of hr5) rfl)) (EVA.cons (EV.op0 EV.c (EV.ix rfl (SqT.of hr5) rfl)) EVA.nil))))) (l4 rfl) (fun t H6 s6 e6 => ?_)
            have s46 := s5.trans s6
            have s06 : Same H H6 := s1.trans (s2.trans (s3.trans (s4.trans s46)))
            have hone : OneB H6 "cols" [.ref tc] w' (ys3.length : Int) (tot qs) := .cols (s46 _ _ hc) (by omega) (Paired.mapP hp3 fun _ _ z => z.1.same (s4.trans s46)) (flat_all fun q hq => by
              obtain ⟨y, _, _, h⟩ := pair_right hp3 q hq
              exact h)
            have ewl : (ys3.length : Int) = (ys.length : Int) := by omega
            rw [ewl] at hone
            exact k t _ H6 s06 (Rc.one e6 hv s06.t hd (s6 _ _ e5) hone (by omega) (by omega))
    · have n1 : decide (V.str wd = V.str "sieve") = false := by rcases hG with rfl | rfl | rfl | rfl | rfl <;> decide +kernel
      have n2 : decide (V.str wd = V.str "once") = false := by rcases hG with rfl | rfl | rfl | rfl | rfl <;> decide +kernel
      have n3 : decide (V.str wd = V.str "cols") = false := by rcases hG with rfl | rfl | rfl | rfl | rfl <;> decide +kernel
      refine ⟨_, rfl, rfl, _, rfl, iteQ n1 ⟨_, rfl, rfl, _, rfl, iteQ n2 ⟨_, rfl, rfl, _, rfl, iteQ n3 ?_⟩⟩⟩
      first | refine wV rfl ?_ | refine ⟨_, rfl, ?_⟩
      first | refine wV rfl ?_ | refine ⟨_, rfl, ?_⟩
      first | refine wV rfl ?_ | refine ⟨_, rfl, ?_⟩
      refine ⟨n, wd, r, v, w', _, _, _, rfl, hr0, hw1, hw2, hG, fun ta tv bs w1 m H1 s1 ea ev hb h1 h2 => ?_⟩
      have hr1 := s1 _ _ hr0
      refine ⟨ta, _, rfl, SqT.of ea, rfl, _, _, rfl, _, _, rfl, _, _, rfl, rfl, ?_⟩
      first | refine wV rfl ?_ | refine ⟨_, rfl, ?_⟩
      first | refine wC (.inl ⟨by decide, by decide⟩) ?_ | refine wCc (.inl ⟨by decide, by decide⟩) ?_ | refine ⟨_, _, rfl, rfl, .inl ⟨by decide, by decide⟩, ?_⟩
      first | refine wI ?_ | refine wIc ?_ | refine ⟨_, _, rfl, rfl, ?_⟩
      refine EVA.tup (EVA.cons (EV.var rfl) (EVA.cons (EV.var rfl) (EVA.cons (EV.op0 (EV.op0 EV.c (EV.var rfl)) (EV.ix rfl (SqT.of hr1) rfl)) (EVA.cons (EV.op0 (EV.var rfl) (EV.ix rfl (SqT.of hr1) rfl)) (EVA.cons (EV.op0 EV.c (EV.ix rfl (SqT.of hr1) rfl)) EVA.nil))))) (l4 rfl) (fun t H3 s3 e3 => ?_)
      exact k t _ H3 (s1.trans s3) (Rc.one e3 hv (s1.trans s3).t hd (s3 _ _ ev) (hb.same s3.t) h1 h2)
end
end VK
namespace VK
open PySem PySem.Spec PyProof.Rows L2
section
variable {P : Program} {w : World} {K : PySem.W.Frag} {mg : Str → Option Value} {base : Heap}
theorem mxL (a b : Int) : a ≤ (if b > a then b else a) := by split <;> omega
theorem mxR (a b : Int) : b ≤ (if b > a then b else a) := by split <;> omega
theorem mx1 {a : Int} (b : Int) (h : 0 ≤ a) : 1 ≤ 1 + (if b > a then b else a) := by split <;> omega
theorem b_max : bootBuiltins "max" = some (.builtin "max") := by decide +kernel
theorem b_min : bootBuiltins "min" = some (.builtin "min") := by decide +kernel
theorem Rc.two {H H' : Hp} {C : Env → Prop} {v1 v2 : V} {w1 s1 d1 w2 s2 d2 w' m sg' dd : Int} {t tv : Addr} {wd : Str} {bs : List V} (e : H' t = some (.tup [.ref tv, .int w', .int (1 + m + s1 + s2), .int sg', .int (1 + dd)])) (hv1 : ∀ E, C E → Vw (d1.toNat + 1) H E v1 w1 s1) (hv2 : ∀ E, C E → Vw (d2.toNat + 1) H E v2 w2 s2) (hS : SameT H H') (h1 : 0 ≤ d1) (hd1 : d1 ≤ dd) (hd2 : d2 ≤ dd) (h : H' tv = some (.tup (.str wd :: v1 :: v2 :: bs))) (hb : TwoB H' wd bs w1 w2 w' m) (h3 : 1 ≤ w') (h4 : w' ≤ 12) : Rc H' C t w' (1 + dd) :=
  ⟨.ref tv, _, sg', e, h3, h4, by omega, fun E hE => (Vw.two h (((hv1 E hE).same hS).mono (show _ ≤ dd.toNat + 1 by omega)) (((hv2 E hE).same hS).mono (by omega)) hb h4).mono (by omega)⟩
theorem prs_of {H : Hp} : ∀ {ts : List Addr} {as bs : List Int}, TupsOf H ts ((as.map V.int).zip (bs.map V.int)) → Paired (fun x (p : Int × Int) => ∃ u, x = V.ref u ∧ H u = some (.tup [.int p.1, .int p.2])) (ts.map V.ref) (as.zip bs)
  | [], [], _, _ => .nil
  | [], _ :: _, [], _ => .nil
  | [], a :: as, b :: bs, h => nomatch h
  | t :: ts, [], _, h => nomatch h
  | t :: ts, a :: as, [], h => nomatch h
  | t :: ts, a :: as, b :: bs, .cons r h => .cons ⟨t, rfl, r⟩ (prs_of h)
abbrev sTwo : Stmt := top 43
abbrev psTwo : List Str := ["_law_number", "_law_word", "_law_now", "_law_kept"]
abbrev nTwo : List Str := ["_law_number", "_law_word", "_law_now", "_law_kept", "_law_wide", "_law_more", "_law_view", "_law_firsts_here"]
def AlW (wd : Str) : Prop := wd = "pour" ∨ wd = "both" ∨ wd = "either" ∨ wd = "less"
def TwoW (wd : Str) : Prop := AlW wd ∨ wd = "join" ∨ wd = "left" ∨ wd = "notin"
def spTwo : Sp := fun vs H Q _ => ∃ (n : Int) (wd : Str) (r1 r2 : Addr) (C : Env → Prop) (w1 d1 w2 d2 : Int), vs = [.int n, .str wd, .ref r1, .ref r2] ∧ Rc H C r1 w1 d1 ∧ Rc H C r2 w2 d2 ∧ TwoW wd ∧ ∀ r' w' d' H', Same H H' → Rc H' C r' w' d' → 1 ≤ d' → ((AlW wd ∨ wd = "notin") → w' = w1) → Q (.ref r') H'
theorem scTwo : FnScope nTwo psTwo (defScope sTwo) := ⟨rfl, rfl, rfl, by decide +kernel, rfl, by decide +kernel, by decide +kernel⟩
theorem okTwo {f fF fD : Addr} {fd fdF fdD : FuncData} (D : Fn K mg "_law_two" sTwo psTwo f fd) (X : Txt mg) (DF : Fn K mg "_law_fitted" sFit psFit fF fdF) (DD : Fn K mg "_law_digits" sDigits psDigits fD fdD) : FnOk P w K mg base CX0 2 f fd psTwo spTwo := by
  have GF : FnOk P w K mg base CX0 1 fF fdF psFit spFit := okFit DF X
  have GD : FnOk P w K mg base CX0 1 fD fdD psDigits spDigits := okDigits DD X
  refine D.F.ok (k := 1) scTwo (fun vs H Q E h => ?_) (fun cdv A outer s H vs Q E hr h => ?_)
  · obtain ⟨_, _, _, _, _, _, _, _, _, rfl, _⟩ := h
    rfl
  · obtain ⟨n, wd, r1, r2, C, w1, d1, w2, d2, rfl, hR1, hR2, hW, k⟩ := h
    obtain ⟨v1, s1', sg1, hr1, hw11, hw12, hd1, hv1⟩ := id hR1
    obtain ⟨v2, s2', sg2, hr2, hw21, hw22, hd2, hv2⟩ := id hR2
    have nd := scTwo.nd
    have hm0 := Int.emod_nonneg n (show (13 : Int) ≠ 0 by decide)
    have hm1 : n % 13 ≤ 13 := by have := Int.emod_lt_of_pos n (show (0 : Int) < 13 by decide); omega
    have hm2 := Int.emod_lt_of_pos n (show (0 : Int) < 13 by decide)
    refine ⟨_, (@pss_cons _ _ _ _ _ (@ps_set _ _ (4) _ _ _ _ nd rfl (Or.inl rfl) (@pe_ix _ _ _ _ _ _ _ (ixT K) (pv 2) pe_int (fun _ _ => rfl)) (by rfl) (by first | exact .inl rfl | exact .inr rfl | assumption)) (@pss_cons _ _ _ _ _ (@ps_set _ _ (5) _ _ _ _ nd rfl (Or.inl rfl) pe_int (by rfl) (by first | exact .inl rfl | exact .inr rfl | assumption)) (@pss_consM _ _ _ _ _ (@ps_if _ _ _ _ _ _ _ _ (@pt_cmpR _ _ _ _ _ _ _ _ (inK K) (pv 1) (@pe_tupS _ _ _ _ _ (@pa_cons _ _ _ _ _ pe_str (@pa_cons _ _ _ _ _ pe_str (@pa_cons _ _ _ _ _ pe_str (@pa_cons _ _ _ _ _ pe_str pa_nil (by rfl)) (by rfl)) (by rfl)) (by rfl))) (by with_unfolding_all rfl)) (@pss_cons _ _ _ _ _ (@ps_set _ _ (3) _ _ _ _ nd rfl (Or.inl rfl) (@pe_call _ _ _ _ _ _ _ _ _ _ _ _ _ _ _ _ GF hr rfl DF.m DF.F.kp DF.b .nil pass0 (@pa_cons _ _ _ _ _ (pv 3) (@pa_cons _ _ _ _ _ (pv 4) pa_nil (by rfl)) (by rfl)) (by decide) (by rfl) (by rfl)) (by rfl) (by first | exact .inl rfl | exact .inr rfl | assumption)) (@pss_one _ _ _ (@ps_set _ _ (6) _ _ _ _ nd rfl (Or.inl rfl) (@pe_tupS _ _ _ _ _ (@pa_cons _ _ _ _ _ (pv 1) (@pa_cons _ _ _ _ _ (@pe_ix _ _ _ _ _ _ _ (ixT K) (pv 2) pe_int (fun _ _ => rfl)) (@pa_cons _ _ _ _ _ (@pe_ix _ _ _ _ _ _ _ (ixT K) (pv 3) pe_int (fun _ _ => rfl)) pa_nil (by rfl)) (by rfl)) (by rfl))) (by rfl) (by first | exact .inl rfl | exact .inr rfl | assumption)))) (@pss_consM _ _ _ _ _ (@ps_if _ _ _ _ _ _ _ _ (@pt_cmpR _ _ _ _ _ _ _ _ op_gt (@pe_op _ _ _ _ _ _ _ _ op_add (pv 4) (@pe_ix _ _ _ _ _ _ _ (ixT K) (pv 3) pe_int (fun _ _ => rfl))) pe_int (nomark _)) (@pss_one _ _ _ (@ps_set _ _ (1) _ _ _ _ nd rfl (Or.inl rfl) pe_str (by rfl) (by first | exact .inl rfl | exact .inr rfl | assumption))) pss_nil) (@pss_cons _ _ _ _ _ (@ps_set _ _ (5) _ _ _ _ nd rfl (Or.inl rfl) (@pe_op _ _ _ _ _ _ _ _ op_mod (pv 0) pe_int) (by rfl) (by first | exact .inl rfl | exact .inr rfl | assumption)) (@pss_cons _ _ _ _ _ (@ps_set _ _ (7) _ _ _ _ nd rfl (Or.inl rfl) (@pe_call _ _ _ _ _ _ _ _ _ _ _ _ _ _ _ _ GD hr rfl DD.m DD.F.kp DD.b .nil pass0 (@pa_cons _ _ _ _ _ (@pe_op _ _ _ _ _ _ _ _ op_fdiv (pv 0) pe_int) (@pa_cons _ _ _ _ _ (pv 5) (@pa_cons _ _ _ _ _ (pv 4) pa_nil (by rfl)) (by rfl)) (by rfl)) (by decide) (by rfl) (by rfl)) (by rfl) (by first | exact .inl rfl | exact .inr rfl | assumption)) (@pss_cons _ _ _ _ _ (@ps_set _ _ (6) _ _ _ _ nd rfl (Or.inl rfl) (@pe_tupS _ _ _ _ _ (@pa_cons _ _ _ _ _ (pv 1) (@pa_cons _ _ _ _ _ (@pe_ix _ _ _ _ _ _ _ (ixT K) (pv 2) pe_int (fun _ _ => rfl)) (@pa_cons _ _ _ _ _ (@pe_ix _ _ _ _ _ _ _ (ixT K) (pv 3) pe_int (fun _ _ => rfl)) (@pa_cons _ _ _ _ _ (@pe_callTy _ _ _ _ _ _ _ _ _ (tupK K) rfl X.tuple b_tuple (@pa_cons _ _ _ _ _ (@pe_listzip _ _ _ _ _ _ _ _ rfl X.list rfl X.zip rfl (@pa_cons _ _ _ _ _ (pv 7) (@pa_cons _ _ _ _ _ (@pe_call _ _ _ _ _ _ _ _ _ _ _ _ _ _ _ _ GD hr rfl DD.m DD.F.kp DD.b .nil pass0 (@pa_cons _ _ _ _ _ (@pe_op _ _ _ _ _ _ _ _ op_fdiv (pv 0) pe_int) (@pa_cons _ _ _ _ _ (pv 5) (@pa_cons _ _ _ _ _ (@pe_ix _ _ _ _ _ _ _ (ixT K) (pv 3) pe_int (fun _ _ => rfl)) pa_nil (by rfl)) (by rfl)) (by rfl)) (by decide) (by rfl) (by rfl)) pa_nil (by rfl)) (by rfl)) (by rfl) (by rfl) (by rfl)) pa_nil (by rfl)) (by decide) (by decide) (by rfl) (by rfl)) pa_nil (by rfl)) (by rfl)) (by rfl)) (by rfl))) (by rfl) (by first | exact .inl rfl | exact .inr rfl | assumption)) (@pss_one _ _ _ (@ps_if _ _ _ _ _ _ _ _ (@pt_cmpR _ _ _ _ _ _ _ _ op_ne (pv 1) pe_str (nomark _)) (@pss_one _ _ _ (@ps_set _ _ (4) _ _ _ _ nd rfl (Or.inl rfl) (@pe_op _ _ _ _ _ _ _ _ op_add (pv 4) (@pe_ix _ _ _ _ _ _ _ (ixT K) (pv 3) pe_int (fun _ _ => rfl))) (by rfl) (by first | exact .inl rfl | exact .inr rfl | assumption))) pss_nil))))))) (@pss_one _ _ _ (@ps_ret _ _ _ _ (@pe_tupS _ _ _ _ _ (@pa_cons _ _ _ _ _ (pv 6) (@pa_cons _ _ _ _ _ (pv 4) (@pa_cons _ _ _ _ _ (@pe_op _ _ _ _ _ _ _ _ op_add (@pe_op _ _ _ _ _ _ _ _ op_add (@pe_op _ _ _ _ _ _ _ _ op_add pe_int (pv 5)) (@pe_ix _ _ _ _ _ _ _ (ixT K) (pv 2) pe_int (fun _ _ => rfl))) (@pe_ix _ _ _ _ _ _ _ (ixT K) (pv 3) pe_int (fun _ _ => rfl))) (@pa_cons _ _ _ _ _ (@pe_op _ _ _ _ _ _ _ _ op_add (@pe_op _ _ _ _ _ _ _ _ op_add (@pe_op _ _ _ _ _ _ _ _ op_add pe_int (@pe_op _ _ _ _ _ _ _ _ op_mul pe_int (pv 5))) (@pe_ix _ _ _ _ _ _ _ (ixT K) (pv 2) pe_int (fun _ _ => rfl))) (@pe_ix _ _ _ _ _ _ _ (ixT K) (pv 3) pe_int (fun _ _ => rfl))) (@pa_cons _ _ _ _ _ (@pe_op _ _ _ _ _ _ _ _ op_add pe_int (@pe_callB _ _ _ _ _ _ _ _ _ (call_max2 rfl) (by rfl) X.max b_max (@pa_cons _ _ _ _ _ (@pe_ix _ _ _ _ _ _ _ (ixT K) (pv 2) pe_int (fun _ _ => rfl)) (@pa_cons _ _ _ _ _ (@pe_ix _ _ _ _ _ _ _ (ixT K) (pv 3) pe_int (fun _ _ => rfl)) pa_nil (by rfl)) (by rfl)) (by decide) (by decide) (by rfl) (by rfl))) pa_nil (by rfl)) (by rfl)) (by rfl)) (by rfl)) (by rfl)))))))), ?_⟩
    first | refine wT rfl (SqT.of hr1) rfl ?_ | refine ⟨_, rfl, r1, _, _, _, rfl, rfl, SqT.of hr1, rfl, ?_⟩
    refine ⟨fun σ' H' => ∃ (wd' : Str) (r2' : Addr) (w' m : Int) (tv : Addr) (bs : List V) (v2' : V) (s2' sg2' d2' w2' : Int) (x7 : Option V), σ' = [some (.int n), some (.str wd'), some (.ref r1), some (.ref r2'), some (.int w'), some (.int m), some (.ref tv), x7] ∧ Same H H' ∧ H' r2' = some (.tup [v2', .int w2', .int s2', .int sg2', .int d2']) ∧ (∀ E, C E → Vw (d2'.toNat + 1) H' E v2' w2' s2') ∧ H' tv = some (.tup (.str wd' :: v1 :: v2' :: bs)) ∧ TwoB H' wd' bs w1 w2' w' m ∧ 1 ≤ w' ∧ w' ≤ 12 ∧ ((AlW wd ∨ wd = "notin") → w' = w1), ?_, ?_⟩
    case refine_2 =>
      rintro _ H6 ⟨wd', r2', w', m, tv, bs, v2', s2', sg2', d2', w2', x7, rfl, s6, hr2', hv2', htv, hB, h1, h2, hw⟩
      have hr16 := s6 _ _ hr1
      refine EVA.tup (EVA.cons (EV.var rfl) (EVA.cons (EV.var rfl) (EVA.cons (EV.op0 (EV.op0 (EV.op0 EV.c (EV.var rfl)) (EV.ix rfl (SqT.of hr16) rfl)) (EV.ix rfl (SqT.of hr2') rfl)) (EVA.cons (EV.op0 (EV.op0 (EV.op0 EV.c (EV.opC EV.c (EV.var rfl) (.inl ⟨by decide, by decide⟩))) (EV.ix rfl (SqT.of hr16) rfl)) (EV.ix rfl (SqT.of hr2') rfl)) (EVA.cons (EV.op0 EV.c (EV.max2 (EVA.cons (EV.ix rfl (SqT.of hr16) rfl) (EVA.cons (EV.ix rfl (SqT.of hr2') rfl) EVA.nil)))) EVA.nil))))) (l4 rfl) (fun t H7 s7 e7 => ?_)
      exact k t _ _ H7 (s6.trans s7) (Rc.two e7 (fun E hE => (hv1 E hE).same s6.t) hv2' s7.t hd1 (mxL _ _) (mxR _ _) (s7 _ _ htv) (hB.same s7.t) h1 h2) (mx1 _ hd1) hw
    first | refine wV rfl ?_ | refine ⟨_, rfl, ?_⟩
    refine ⟨l4 rfl, ?_⟩
    refine fun tw H0 s0 ew => ?_
    refine ⟨tw, _, rfl, .inr (SqT.of ew), rfl, rfl, _, rfl, ?_⟩
    have hr10 := s0 _ _ hr1
    have hr20 := s0 _ _ hr2
    rcases hW with hA | hW
    · refine iteP (by rcases hA with rfl | rfl | rfl | rfl <;> decide +kernel) ?_
      first | refine wV rfl ?_ | refine ⟨_, rfl, ?_⟩
      first | refine wV rfl ?_ | refine ⟨_, rfl, ?_⟩
      refine ⟨r2, C, w2, d2, w1, rfl, hR2.same s0.t, hw11, hw12, ?_⟩
      refine fun r3 d3 H1 e1 hR3 hd31 hd32 => ?_
      obtain ⟨v3, s3, sg3, hr3, hw31, hw32, hd3, hv3⟩ := hR3
      have hr11 := e1 _ _ hr10
      first | refine wV rfl ?_ | refine ⟨_, rfl, ?_⟩
      first | refine wT rfl (SqT.of hr11) rfl ?_ | refine ⟨_, rfl, r1, _, _, _, rfl, rfl, SqT.of hr11, rfl, ?_⟩
      first | refine wT rfl (SqT.of hr3) rfl ?_ | refine ⟨_, rfl, r3, _, _, _, rfl, rfl, SqT.of hr3, rfl, ?_⟩
      refine ⟨l4 rfl, ?_⟩
      refine fun tv H2 e2 ev => ?_
      refine ⟨wd, r3, w1, 0, tv, [], v3, s3, sg3, d3, w1, none, rfl, s0.trans (e1.trans e2), e2 _ _ hr3, fun E hE => (hv3 E hE).same e2.t, ev, .alike hA, hw11, hw12, ?_⟩
      refine fun _ => ?_
      refine rfl
    · refine iteQ (by rcases hW with rfl | rfl | rfl <;> decide +kernel) ?_
      refine ⟨fun σ' H' => H' = H0 ∧ ∃ wd', σ' = [some (.int n), some (.str wd'), some (.ref r1), some (.ref r2), some (.int w1), some (.int 0), none, none] ∧ (wd' = "notin" ∨ ((wd' = "join" ∨ wd' = "left") ∧ w1 + w2 ≤ 12)) ∧ ((AlW wd ∨ wd = "notin") → wd' = "notin"), ⟨_, rfl, _, rfl, r2, _, _, _, rfl, rfl, SqT.of hr20, rfl, _, _, rfl, rfl, _, _, rfl, rfl, _, rfl, ite2 (fun _ => ⟨rfl, _, rfl, .inl rfl, fun _ => rfl⟩) (fun hgt => ⟨rfl, wd, rfl, ?_, ?_⟩)⟩, ?_⟩
      · have hle : w1 + w2 ≤ 12 := by
          have : ¬ (12 : Int) < w1 + w2 := fun z => hgt (decide_eq_true z)
          omega
        rcases hW with rfl | rfl | rfl
        · exact .inr ⟨.inl rfl, hle⟩
        · exact .inr ⟨.inr rfl, hle⟩
        · exact .inl rfl
      · intro z
        rcases hW with rfl | rfl | rfl
        · exact absurd z (by unfold AlW; decide +kernel)
        · exact absurd z (by unfold AlW; decide +kernel)
        · rfl
      · rintro _ _ ⟨rfl, u, rfl, hu, hun⟩
        first | refine wV rfl ?_ | refine ⟨_, rfl, ?_⟩
        first | refine wC (show (0 : Int) < 13 by decide) ?_ | refine wCc (show (0 : Int) < 13 by decide) ?_ | refine ⟨_, _, rfl, rfl, (show (0 : Int) < 13 by decide), ?_⟩
        first | refine wV rfl ?_ | refine ⟨_, rfl, ?_⟩
        first | refine wC ⟨by decide, by decide⟩ ?_ | refine wCc ⟨by decide, by decide⟩ ?_ | refine ⟨_, _, rfl, rfl, ⟨by decide, by decide⟩, ?_⟩
        first | refine wV rfl ?_ | refine ⟨_, rfl, ?_⟩
        first | refine wV rfl ?_ | refine ⟨_, rfl, ?_⟩
        refine ⟨n / 13, n % 13, w1, rfl, hm0, hm1, by omega, by omega, ?_⟩
        refine fun la H1 as s1 hal has e1 => ?_
        have hr11 := s1 _ _ hr10
        have hr21 := s1 _ _ hr20
        first | refine wV rfl ?_ | refine ⟨_, rfl, ?_⟩
        first | refine wT rfl (SqT.of hr11) rfl ?_ | refine ⟨_, rfl, r1, _, _, _, rfl, rfl, SqT.of hr11, rfl, ?_⟩
        first | refine wT rfl (SqT.of hr21) rfl ?_ | refine ⟨_, rfl, r2, _, _, _, rfl, rfl, SqT.of hr21, rfl, ?_⟩
        first | refine wV rfl ?_ | refine ⟨_, rfl, ?_⟩
        first | refine wV rfl ?_ | refine ⟨_, rfl, ?_⟩
        first | refine wC ⟨by decide, by decide⟩ ?_ | refine wCc ⟨by decide, by decide⟩ ?_ | refine ⟨_, _, rfl, rfl, ⟨by decide, by decide⟩, ?_⟩
        first | refine wV rfl ?_ | refine ⟨_, rfl, ?_⟩
        first | refine wT rfl (SqT.of hr21) rfl ?_ | refine ⟨_, rfl, r2, _, _, _, rfl, rfl, SqT.of hr21, rfl, ?_⟩
        refine ⟨n / 17, n % 13, w2, rfl, hm0, hm1, by omega, by omega, ?_⟩
        refine fun lb H2 bs s2 hbl hbs e2 => ?_
        refine ⟨la, lb, _, _, rfl, SqL.of (s2 _ _ e1), SqL.of e2, by rw [List.length_map, List.length_map]; omega, by rw [List.length_map]; omega, fun l ts H3 s3 e3 hts => ?_⟩
        refine ⟨l, _, rfl, .inl ⟨SqL.of e3, fun tp htp => ?_⟩⟩
        have s4 : Same H3 (upd H3 tp (.tup (ts.map V.ref))) := (Same.refl H3).upd htp
        have hp : (upd H3 tp (.tup (ts.map V.ref))) tp = some (.tup (ts.map V.ref)) := upd_same
        refine ⟨l4 rfl, ?_⟩
        refine fun tv H5 s5 e5 => ?_
        have s05 := s0.trans (s1.trans (s2.trans (s3.trans (s4.trans s5))))
        have hzl : (as.zip bs).length = as.length := by rw [List.length_zip]; omega
        have hP : Prs H5 (.ref tp) (as.zip bs) w1 w2 := ⟨tp, _, rfl, s5 _ _ hp, by omega, Paired.mapP (prs_of hts) fun _ _ ⟨u, a, b⟩ => ⟨u, a, s5 _ _ (s4 _ _ b)⟩, fun p hp' => ⟨(has _ (List.of_mem_zip hp').1).2, (hbs _ (List.of_mem_zip hp').2).2⟩⟩
        have hml : ((as.zip bs).length : Int) = n % 13 := by omega
        have hr25 := s05 _ _ hr2
        have hv25 : ∀ E, C E → Vw (d2.toNat + 1) H5 E v2 w2 s2' := fun E hE => (hv2 E hE).same s05.t
        refine ⟨_, rfl, rfl, _, rfl, ?_⟩
        rcases hu with rfl | ⟨hu, hle⟩
        · refine iteQ (by decide +kernel) ?_
          refine ⟨"notin", r2, w1, n % 13, tv, [.ref tp], v2, s2', sg2, d2, w2, _, rfl, s05, hr25, hv25, e5, hml ▸ .notin hP, hw11, hw12, fun _ => rfl⟩
        · refine iteP (by rcases hu with rfl | rfl <;> decide +kernel) ?_
          first | refine wV rfl ?_ | refine ⟨_, rfl, ?_⟩
          first | refine wT rfl (SqT.of hr25) rfl ?_ | refine ⟨_, rfl, r2, _, _, _, rfl, rfl, SqT.of hr25, rfl, ?_⟩
          first | refine wI ?_ | refine wIc ?_ | refine ⟨_, _, rfl, rfl, ?_⟩
          refine ⟨u, r2, w1 + w2, n % 13, tv, [.ref tp], v2, s2', sg2, d2, w2, _, rfl, s05, hr25, hv25, e5, hml ▸ .join hu hP, by omega, hle, fun z => by have := hun z; rcases hu with h | h <;> · rw [h] at this; exact absurd this (by decide +kernel)⟩
end
end VK
namespace VK
open PySem PySem.Spec PyProof.Rows L2
section
variable {P : Program} {w : World} {K : PySem.W.Frag} {mg : Str → Option Value} {base : Heap}
/-- environments before and behind a new name for rounds -/
structure NewC (C C' : Env → Prop) (x : Str) : Prop where
  sub : ∀ E, C' E → C E
  non : ∀ E, C' E → E x = Option.none
  put : ∀ E p, C' E → C (E.put x p)
  xi : ∀ E p, C' E → (E.put x p) (x ++ "i") = Option.none
theorem mxN {a b : Int} (h : a ≤ b) : a.toNat + 1 ≤ b.toNat + 1 := by omega
theorem mxU {b : Int} (h : 0 ≤ b) : b.toNat + 1 + 1 ≤ (1 + b).toNat + 1 := by omega
theorem put_same {E : Env} {x : Str} {p : Int × Int} : (E.put x p) x = some p := if_pos rfl
theorem x_xi (x : Str) : x ≠ x ++ "i" := fun e => by
  have h := congrArg Str.length e
  rw [len_cat] at h
  have h1 : (Str.ofString "i").length = 1 := by decide +kernel
  omega
abbrev sRnd : Stmt := top 45
abbrev psRnd : List Str := ["_law_number", "_law_now", "_law_kept", "_law_name"]
abbrev nRnd : List Str := ["_law_number", "_law_now", "_law_kept", "_law_name", "_law_leaf", "_law_one_here", "_law_other", "_law_inner", "_law_view", "_law_many"]
def spRnd : Sp := fun vs H Q _ => ∃ (n : Int) (r1 r2 : Addr) (x : Str) (C C' : Env → Prop) (w1 d1 w2 d2 : Int), vs = [.int n, .ref r1, .ref r2, .str x] ∧ Rc H C r1 w1 d1 ∧ Rc H C r2 w2 d2 ∧ x.length ≤ 100 ∧ NewC C C' x ∧ ∀ r' w' d' H', Same H H' → Rc H' C' r' w' d' → Q (.ref r') H'
theorem scRnd : FnScope nRnd psRnd (defScope sRnd) := ⟨rfl, rfl, rfl, by decide +kernel, rfl, by decide +kernel, by decide +kernel⟩
def w5 : List Str := ["pour", "both", "either", "less", "notin"]
theorem all5 : ∀ k : Fin 5, (AlW (w5.getD k.val "") ∨ w5.getD k.val "" = "notin") ∧ atI [V.str "pour", .str "both", .str "either", .str "less", .str "notin"] (k.val : Int) = some (.str (w5.getD k.val "")) := by
  unfold AlW
  decide +kernel
theorem pick5 (c : Int) : ∃ u : Str, (AlW u ∨ u = "notin") ∧ atI [V.str "pour", .str "both", .str "either", .str "less", .str "notin"] (c % 5) = some (.str u) := by
  have h1 := Int.emod_nonneg c (show (5 : Int) ≠ 0 by decide)
  have h2 := Int.emod_lt_of_pos c (show (0 : Int) < 5 by decide)
  rw [show c % 5 = (((⟨(c % 5).toNat, by omega⟩ : Fin 5)).val : Int) from (Int.toNat_of_nonneg h1).symm]
  exact ⟨_, all5 _⟩
theorem okRnd {f fF fT fO fD : Addr} {fd fdF fdT fdO fdD : FuncData} (D : Fn K mg "_law_rounds" sRnd psRnd f fd) (X : Txt mg) (DF : Fn K mg "_law_fitted" sFit psFit fF fdF) (DT : Fn K mg "_law_two" sTwo psTwo fT fdT) (DO : Fn K mg "_law_once" sOnceR psOnceR fO fdO) (DD : Fn K mg "_law_digits" sDigits psDigits fD fdD) : FnOk P w K mg base CX0 3 f fd psRnd spRnd := by
  have GF : FnOk P w K mg base CX0 2 fF fdF psFit spFit := (okFit DF X).mono (by decide)
  have GT : FnOk P w K mg base CX0 2 fT fdT psTwo spTwo := okTwo DT X DF DD
  have GO : FnOk P w K mg base CX0 2 fO fdO psOnceR spOnceR := (okOnceR DO).mono (by decide)
  refine D.F.ok (k := 2) scRnd (fun vs H Q E h => ?_) (fun cdv A outer s H vs Q E hr h => ?_)
  · obtain ⟨_, _, _, _, _, _, _, _, _, _, rfl, _⟩ := h
    rfl
  · obtain ⟨n, r1, r2, x, C, C', w1, d1, w2, d2, rfl, hR1, hR2, hx, hC, k⟩ := h
    obtain ⟨v1, s1, sg1, hr1, hw11, hw12, hd1, hv1⟩ := id hR1
    have nd := scRnd.nd
    have hxl : x.length + (Str.ofString "i").length ≤ sizeLine := by
      have h1 : (Str.ofString "i").length = 1 := by decide +kernel
      rw [h1]
      exact Nat.le_trans (show x.length + 1 ≤ 101 by omega) (by decide)
    refine ⟨_, (@pss_cons _ _ _ _ _ (@ps_set _ _ (4) _ _ _ _ nd rfl (Or.inl rfl) (@pe_tupS _ _ _ _ _ (@pa_cons _ _ _ _ _ (@pe_tupS _ _ _ _ _ (@pa_cons _ _ _ _ _ pe_str (@pa_cons _ _ _ _ _ (pv 3) pa_nil (by rfl)) (by rfl))) (@pa_cons _ _ _ _ _ (@pe_ix _ _ _ _ _ _ _ (ixT K) (pv 1) pe_int (fun _ _ => rfl)) (@pa_cons _ _ _ _ _ pe_int (@pa_cons _ _ _ _ _ pe_int (@pa_cons _ _ _ _ _ pe_int pa_nil (by rfl)) (by rfl)) (by rfl)) (by rfl)) (by rfl))) (by rfl) (by first | exact .inl rfl | exact .inr rfl | assumption)) (@pss_cons _ _ _ _ _ (@ps_swap _ (5) (6) _ _ _ _ _ _ _ _ _ _ _ nd rfl rfl (Or.inl rfl) (Or.inl rfl) rfl (@pa_cons _ _ _ _ _ (pv 4) (@pa_cons _ _ _ _ _ (@pe_call _ _ _ _ _ _ _ _ _ _ _ _ _ _ _ _ GF hr rfl DF.m DF.F.kp DF.b .nil pass0 (@pa_cons _ _ _ _ _ (pv 2) (@pa_cons _ _ _ _ _ (@pe_ix _ _ _ _ _ _ _ (ixT K) (pv 1) pe_int (fun _ _ => rfl)) pa_nil (by rfl)) (by rfl)) (by decide) (by rfl) (by rfl)) pa_nil (by rfl)) (by rfl)) (by rfl) (by rfl) (by first | exact .inl rfl | exact .inr rfl | assumption) (by first | exact .inl rfl | exact .inr rfl | assumption)) (@pss_consM _ _ _ _ _ (@ps_if _ _ _ _ _ _ _ _ (@pt_cmpR _ _ _ _ _ _ _ _ op_eq (@pe_op _ _ _ _ _ _ _ _ op_mod (pv 0) pe_int) pe_int (nomark _)) (@pss_one _ _ _ (@ps_swap _ (5) (6) _ _ _ _ _ _ _ _ _ _ _ nd rfl rfl (Or.inl rfl) (Or.inl rfl) rfl (@pa_cons _ _ _ _ _ (pv 6) (@pa_cons _ _ _ _ _ (pv 4) pa_nil (by rfl)) (by rfl)) (by rfl) (by rfl) (by first | exact .inl rfl | exact .inr rfl | assumption) (by first | exact .inl rfl | exact .inr rfl | assumption))) pss_nil) (@pss_consM _ _ _ _ _ (@ps_if _ _ _ _ _ _ _ _ (@pt_cmpR _ _ _ _ _ _ _ _ op_eq (@pe_op _ _ _ _ _ _ _ _ op_mod (pv 0) pe_int) pe_int (nomark _)) (@pss_one _ _ _ (@ps_set _ _ (6) _ _ _ _ nd rfl (Or.inl rfl) (pv 4) (by rfl) (by first | exact .inl rfl | exact .inr rfl | assumption))) pss_nil) (@pss_cons _ _ _ _ _ (@ps_set _ _ (7) _ _ _ _ nd rfl (Or.inl rfl) (@pe_call _ _ _ _ _ _ _ _ _ _ _ _ _ _ _ _ GT hr rfl DT.m DT.F.kp DT.b .nil pass0 (@pa_cons _ _ _ _ _ (@pe_op _ _ _ _ _ _ _ _ op_fdiv (pv 0) pe_int) (@pa_cons _ _ _ _ _ (@pe_ix _ _ _ _ _ _ _ (ixL K) (@pe_lstS _ _ _ _ (@pa_cons _ _ _ _ _ pe_str (@pa_cons _ _ _ _ _ pe_str (@pa_cons _ _ _ _ _ pe_str (@pa_cons _ _ _ _ _ pe_str (@pa_cons _ _ _ _ _ pe_str pa_nil (by rfl)) (by rfl)) (by rfl)) (by rfl)) (by rfl))) (@pe_op _ _ _ _ _ _ _ _ op_mod (@pe_op _ _ _ _ _ _ _ _ op_fdiv (pv 0) pe_int) pe_int) (fun _ _ => rfl)) (@pa_cons _ _ _ _ _ (pv 5) (@pa_cons _ _ _ _ _ (pv 6) pa_nil (by rfl)) (by rfl)) (by rfl)) (by rfl)) (by decide) (by rfl) (by rfl)) (by rfl) (by first | exact .inl rfl | exact .inr rfl | assumption)) (@pss_consM _ _ _ _ _ (@ps_if _ _ _ _ _ _ _ _ (@pt_cmpR _ _ _ _ _ _ _ _ op_eq (@pe_op _ _ _ _ _ _ _ _ op_mod (@pe_op _ _ _ _ _ _ _ _ op_fdiv (pv 0) pe_int) pe_int) pe_int (nomark _)) (@pss_one _ _ _ (@ps_set _ _ (7) _ _ _ _ nd rfl (Or.inl rfl) (@pe_call _ _ _ _ _ _ _ _ _ _ _ _ _ _ _ _ GO hr rfl DO.m DO.F.kp DO.b .nil pass0 (@pa_cons _ _ _ _ _ (pv 7) pa_nil (by rfl)) (by decide) (by rfl) (by rfl)) (by rfl) (by first | exact .inl rfl | exact .inr rfl | assumption))) pss_nil) (@pss_consM _ _ _ _ _ (@ps_if _ _ _ _ _ _ _ _ (@pt_cmpR _ _ _ _ _ _ _ _ op_eq (@pe_op _ _ _ _ _ _ _ _ op_mod (@pe_op _ _ _ _ _ _ _ _ op_fdiv (pv 0) pe_int) pe_int) pe_int (nomark _)) (@pss_cons _ _ _ _ _ (@ps_set _ _ (8) _ _ _ _ nd rfl (Or.inl rfl) (@pe_tupS _ _ _ _ _ (@pa_cons _ _ _ _ _ pe_str (@pa_cons _ _ _ _ _ (@pe_op _ _ _ _ _ _ _ _ op_add_str (pv 3) pe_str) (@pa_cons _ _ _ _ _ pe_int (@pa_cons _ _ _ _ _ (@pe_ix _ _ _ _ _ _ _ (ixT K) (pv 7) pe_int (fun _ _ => rfl)) (@pa_cons _ _ _ _ _ (@pe_tupS _ _ _ _ _ (@pa_cons _ _ _ _ _ pe_str (@pa_cons _ _ _ _ _ (@pe_tupS _ _ _ _ _ (@pa_cons _ _ _ _ _ pe_str (@pa_cons _ _ _ _ _ (pv 3) pa_nil (by rfl)) (by rfl))) (@pa_cons _ _ _ _ _ (@pe_ix _ _ _ _ _ _ _ (ixT K) (@pe_call _ _ _ _ _ _ _ _ _ _ _ _ _ _ _ _ GO hr rfl DO.m DO.F.kp DO.b .nil pass0 (@pa_cons _ _ _ _ _ (pv 4) pa_nil (by rfl)) (by decide) (by rfl) (by rfl)) pe_int (fun _ _ => rfl)) pa_nil (by rfl)) (by rfl)) (by rfl))) pa_nil (by rfl)) (by rfl)) (by rfl)) (by rfl)) (by rfl))) (by rfl) (by first | exact .inl rfl | exact .inr rfl | assumption)) (@pss_cons _ _ _ _ _ (@ps_set _ _ (8) _ _ _ _ nd rfl (Or.inl rfl) (@pe_tupS _ _ _ _ _ (@pa_cons _ _ _ _ _ (@pe_ix _ _ _ _ _ _ _ (ixT K) (pv 8) pe_int (fun _ _ => rfl)) (@pa_cons _ _ _ _ _ (@pe_ix _ _ _ _ _ _ _ (ixT K) (pv 8) pe_int (fun _ _ => rfl)) (@pa_cons _ _ _ _ _ (@pe_ix _ _ _ _ _ _ _ (ixT K) (pv 8) pe_int (fun _ _ => rfl)) (@pa_cons _ _ _ _ _ (@pe_ix _ _ _ _ _ _ _ (ixT K) (pv 8) pe_int (fun _ _ => rfl)) (@pa_cons _ _ _ _ _ (@pe_tupS _ _ _ _ _ (@pa_cons _ _ _ _ _ pe_str (@pa_cons _ _ _ _ _ (@pe_ix _ _ _ _ _ _ _ (ixT K) (pv 8) pe_int (fun _ _ => rfl)) (@pa_cons _ _ _ _ _ (@pe_tupS _ _ _ _ _ (@pa_cons _ _ _ _ _ pe_str (@pa_cons _ _ _ _ _ (@pe_op _ _ _ _ _ _ _ _ op_add_str (pv 3) pe_str) pa_nil (by rfl)) (by rfl))) pa_nil (by rfl)) (by rfl)) (by rfl))) pa_nil (by rfl)) (by rfl)) (by rfl)) (by rfl)) (by rfl))) (by rfl) (by first | exact .inl rfl | exact .inr rfl | assumption)) (@pss_one _ _ _ (@ps_set _ _ (7) _ _ _ _ nd rfl (Or.inl rfl) (@pe_tupS _ _ _ _ _ (@pa_cons _ _ _ _ _ (pv 8) (@pa_cons _ _ _ _ _ (@pe_ix _ _ _ _ _ _ _ (ixT K) (pv 1) pe_int (fun _ _ => rfl)) (@pa_cons _ _ _ _ _ (@pe_op _ _ _ _ _ _ _ _ op_add (@pe_ix _ _ _ _ _ _ _ (ixT K) (pv 7) pe_int (fun _ _ => rfl)) pe_int) (@pa_cons _ _ _ _ _ (@pe_op _ _ _ _ _ _ _ _ op_add pe_int (@pe_ix _ _ _ _ _ _ _ (ixT K) (pv 7) pe_int (fun _ _ => rfl))) (@pa_cons _ _ _ _ _ (@pe_op _ _ _ _ _ _ _ _ op_add pe_int (@pe_ix _ _ _ _ _ _ _ (ixT K) (pv 7) pe_int (fun _ _ => rfl))) pa_nil (by rfl)) (by rfl)) (by rfl)) (by rfl)) (by rfl))) (by rfl) (by first | exact .inl rfl | exact .inr rfl | assumption))))) pss_nil) (@pss_cons _ _ _ _ _ (@ps_set _ _ (9) _ _ _ _ nd rfl (Or.inl rfl) (@pe_op _ _ _ _ _ _ _ _ op_add pe_int (@pe_op _ _ _ _ _ _ _ _ op_mod (@pe_op _ _ _ _ _ _ _ _ op_fdiv (pv 0) pe_int) pe_int)) (by rfl) (by first | exact .inl rfl | exact .inr rfl | assumption)) (@pss_cons _ _ _ _ _ (@ps_set _ _ (8) _ _ _ _ nd rfl (Or.inl rfl) (@pe_tupS _ _ _ _ _ (@pa_cons _ _ _ _ _ pe_str (@pa_cons _ _ _ _ _ (pv 3) (@pa_cons _ _ _ _ _ (pv 9) (@pa_cons _ _ _ _ _ (@pe_ix _ _ _ _ _ _ _ (ixT K) (pv 1) pe_int (fun _ _ => rfl)) (@pa_cons _ _ _ _ _ (@pe_ix _ _ _ _ _ _ _ (ixT K) (pv 7) pe_int (fun _ _ => rfl)) pa_nil (by rfl)) (by rfl)) (by rfl)) (by rfl)) (by rfl))) (by rfl) (by first | exact .inl rfl | exact .inr rfl | assumption)) (@pss_one _ _ _ (@ps_ret _ _ _ _ (@pe_tupS _ _ _ _ _ (@pa_cons _ _ _ _ _ (pv 8) (@pa_cons _ _ _ _ _ (@pe_ix _ _ _ _ _ _ _ (ixT K) (pv 1) pe_int (fun _ _ => rfl)) (@pa_cons _ _ _ _ _ (@pe_op _ _ _ _ _ _ _ _ op_add (@pe_ix _ _ _ _ _ _ _ (ixT K) (pv 1) pe_int (fun _ _ => rfl)) (@pe_op _ _ _ _ _ _ _ _ op_mul (pv 9) (@pe_op _ _ _ _ _ _ _ _ op_add pe_int (@pe_ix _ _ _ _ _ _ _ (ixT K) (pv 7) pe_int (fun _ _ => rfl))))) (@pa_cons _ _ _ _ _ (@pe_op _ _ _ _ _ _ _ _ op_add (@pe_op _ _ _ _ _ _ _ _ op_add pe_int (@pe_ix _ _ _ _ _ _ _ (ixT K) (pv 1) pe_int (fun _ _ => rfl))) (@pe_ix _ _ _ _ _ _ _ (ixT K) (pv 7) pe_int (fun _ _ => rfl))) (@pa_cons _ _ _ _ _ (@pe_op _ _ _ _ _ _ _ _ op_add pe_int (@pe_callB _ _ _ _ _ _ _ _ _ (call_max2 rfl) (by rfl) X.max b_max (@pa_cons _ _ _ _ _ (@pe_ix _ _ _ _ _ _ _ (ixT K) (pv 1) pe_int (fun _ _ => rfl)) (@pa_cons _ _ _ _ _ (@pe_ix _ _ _ _ _ _ _ (ixT K) (pv 7) pe_int (fun _ _ => rfl)) pa_nil (by rfl)) (by rfl)) (by decide) (by decide) (by rfl) (by rfl))) pa_nil (by rfl)) (by rfl)) (by rfl)) (by rfl)) (by rfl)))))))))))))), ?_⟩
    first | refine wV rfl ?_ | refine ⟨_, rfl, ?_⟩
    refine ⟨l4 rfl, ?_⟩
    refine fun tn H1 e1 hn => ?_
    replace hr1 := e1 _ _ hr1
    first | refine wT rfl (SqT.of hr1) rfl ?_ | refine ⟨_, rfl, r1, _, _, _, rfl, rfl, SqT.of hr1, rfl, ?_⟩
    refine ⟨l4 rfl, ?_⟩
    refine fun tl H2 e2 hl => ?_
    replace hr1 := e2 _ _ hr1
    have e02 := e1.trans e2
    have hleaf : RcS H2 (fun E => E x = some (w1, 1)) tl w1 1 0 := ⟨.ref tn, 9, hl, hw11, hw12, Int.le_refl _, fun E hE => Vw.name (e2 _ _ hn) hE hw12⟩
    first | refine wV rfl ?_ | refine ⟨_, rfl, ?_⟩
    first | refine wV rfl ?_ | refine ⟨_, rfl, ?_⟩
    first | refine wT rfl (SqT.of hr1) rfl ?_ | refine ⟨_, rfl, r1, _, _, _, rfl, rfl, SqT.of hr1, rfl, ?_⟩
    refine ⟨r2, C, w2, d2, w1, rfl, hR2.same e02.t, hw11, hw12, ?_⟩
    refine fun rf df H3 e3 hRf hdf1 hdf2 => ?_
    refine ⟨l4 rfl, ?_⟩
    refine fun ts H4 e4 hts => ?_
    refine ⟨ts, _, _, rfl, hts, ?_⟩
    have e34 := e3.trans e4
    have hD1 : ∀ E' : Env, (∃ E, C' E ∧ E' = E.put x (w1, 1)) → C E' := fun E' ⟨E, hE, e⟩ => e ▸ hC.put E _ hE
    have hD2 : ∀ E' : Env, (∃ E, C' E ∧ E' = E.put x (w1, 1)) → E' x = some (w1, 1) := fun E' ⟨E, hE, e⟩ => e ▸ put_same
    have hLf : Rc H4 (fun E' => ∃ E, C' E ∧ E' = E.put x (w1, 1)) tl w1 0 := ((hleaf.same e34.t).imp hD2).rc
    have hFi : Rc H4 (fun E' => ∃ E, C' E ∧ E' = E.put x (w1, 1)) rf w1 df := (hRf.same e4.t).imp hD1
    have hleaf4 := hleaf.same e34.t
    have hr14 := e34 _ _ hr1
    have hv4 : ∀ E, C E → Vw (d1.toNat + 1) H4 E v1 w1 s1 := fun E hE => (hv1 E hE).same (e02.trans e34).t
    have k4 : ∀ r' w' d' H', Same H4 H' → Rc H' C' r' w' d' → Q (.ref r') H' := fun r' w' d' H' s' => k r' w' d' H' ((e02.trans e34).trans s')
    have hdf : 0 ≤ df := by
      obtain ⟨_, _, _, _, _, _, h, _⟩ := hFi
      exact h
    clear hleaf hRf hR2 hR1 hts e34 e4 e3 e02 e2 e1 hn hl k hv1 hr1
    generalize H4 = H at *
    have k := k4
    have hr1 := hr14
    have hv1 := hv4
    clear k4 hr14 hv4
    refine ⟨fun σ' H' => ∃ (ra rb : Addr) (da db : Int), σ' = [some (.int n), some (.ref r1), some (.ref r2), some (.str x), some (.ref tl), some (.ref ra), some (.ref rb), none, none, none] ∧ Same H H' ∧ Rc H' (fun E' => ∃ E, C' E ∧ E' = E.put x (w1, 1)) ra w1 da ∧ Rc H' (fun E' => ∃ E, C' E ∧ E' = E.put x (w1, 1)) rb w1 db, ⟨_, rfl, _, _, rfl, rfl, (show (0 : Int) < 4 by decide), rfl, _, rfl, ite2 (fun _ => ?_) (fun _ => ⟨tl, rf, 0, df, rfl, Same.refl H, hLf, hFi⟩)⟩, ?_⟩
    · first | refine wV rfl ?_ | refine ⟨_, rfl, ?_⟩
      first | refine wV rfl ?_ | refine ⟨_, rfl, ?_⟩
      refine ⟨l4 rfl, ?_⟩
      refine fun t1 H1 e1 h1 => ?_
      refine ⟨t1, _, _, rfl, h1, rf, tl, df, 0, rfl, e1, hFi.same e1.t, hLf.same e1.t⟩
    rintro _ H1 ⟨ra, rb, da, db, rfl, e1, hRa, hRb⟩
    refine ⟨fun σ' H' => ∃ (ra rb : Addr) (da db : Int), σ' = [some (.int n), some (.ref r1), some (.ref r2), some (.str x), some (.ref tl), some (.ref ra), some (.ref rb), none, none, none] ∧ Same H H' ∧ Rc H' (fun E' => ∃ E, C' E ∧ E' = E.put x (w1, 1)) ra w1 da ∧ Rc H' (fun E' => ∃ E, C' E ∧ E' = E.put x (w1, 1)) rb w1 db, ⟨_, rfl, _, _, rfl, rfl, (show (0 : Int) < 4 by decide), rfl, _, rfl, ite2 (fun _ => ?_) (fun _ => ⟨ra, rb, da, db, rfl, e1, hRa, hRb⟩)⟩, ?_⟩
    · first | refine wV rfl ?_ | refine ⟨_, rfl, ?_⟩
      refine ⟨ra, tl, da, 0, rfl, e1, hRa, ?_⟩
      refine hLf.same e1.t
    clear hRa hRb
    rintro _ H2 ⟨ra, rb, da, db, rfl, e2, hRa, hRb⟩
    obtain ⟨u, hu, hpick⟩ := pick5 (n / 4)
    first | refine wV rfl ?_ | refine ⟨_, rfl, ?_⟩
    first | refine wC ⟨by decide, by decide⟩ ?_ | refine wCc ⟨by decide, by decide⟩ ?_ | refine ⟨_, _, rfl, rfl, ⟨by decide, by decide⟩, ?_⟩
    refine ⟨l4 rfl, ?_⟩
    refine fun lw H3 e3 hlw => ?_
    first | refine wV rfl ?_ | refine ⟨_, rfl, ?_⟩
    first | refine wC ⟨by decide, by decide⟩ ?_ | refine wCc ⟨by decide, by decide⟩ ?_ | refine ⟨_, _, rfl, rfl, ⟨by decide, by decide⟩, ?_⟩
    first | refine wC (show (0 : Int) < 5 by decide) ?_ | refine wCc (show (0 : Int) < 5 by decide) ?_ | refine ⟨_, _, rfl, rfl, (show (0 : Int) < 5 by decide), ?_⟩
    refine ⟨lw, _, _, .str u, rfl, rfl, SqL.of hlw, hpick, _, rfl, _, rfl, n / 20, u, ra, rb, _, w1, da, w1, db, rfl, hRa.same e3.t, hRb.same e3.t, (by rcases hu with h | h; exact .inl h; exact .inr (.inr (.inr h))), fun ri wi di H4 e4 hRi hdi hwi => ?_⟩
    have hwi' := hwi hu
    subst hwi'
    have e04 := e2.trans (e3.trans e4)
    refine ⟨fun σ' H' => ∃ (ri : Addr) (di : Int), σ' = [some (.int n), some (.ref r1), some (.ref r2), some (.str x), some (.ref tl), some (.ref ra), some (.ref rb), some (.ref ri), none, none] ∧ Same H H' ∧ Rc H' (fun E' => ∃ E, C' E ∧ E' = E.put x (wi, 1)) ri wi di ∧ 1 ≤ di, ⟨_, rfl, _, _, rfl, rfl, ⟨by decide, by decide⟩, _, _, rfl, rfl, (show (0 : Int) < 3 by decide), rfl, _, rfl, ite2 (fun _ => ?_) (fun _ => ⟨ri, di, rfl, e04, hRi, hdi⟩)⟩, ?_⟩
    · obtain ⟨s3, hS3⟩ := hRi.toS
      first | refine wV rfl ?_ | refine ⟨_, rfl, ?_⟩
      refine ⟨ri, _, wi, s3, di, rfl, hS3, fun ro H5 e5 hR5 => ⟨ro, _, rfl, e04.trans e5, hR5.rc, by omega⟩⟩
    clear hRi hdi e04 hwi
    rintro _ H5 ⟨ri, di, rfl, e5, hRi, hdi⟩
    refine ⟨fun σ' H' => ∃ (ri : Addr) (di : Int) (x8 : Option V), σ' = [some (.int n), some (.ref r1), some (.ref r2), some (.str x), some (.ref tl), some (.ref ra), some (.ref rb), some (.ref ri), x8, none] ∧ Same H H' ∧ Rc H' (fun E' => ∃ E, C' E ∧ E' = E.put x (wi, 1)) ri wi di, ⟨_, rfl, _, _, rfl, rfl, ⟨by decide, by decide⟩, _, _, rfl, rfl, (show (0 : Int) < 3 by decide), rfl, _, rfl, ite2 (fun _ => ?_) (fun _ => ⟨ri, di, none, rfl, e5, hRi⟩)⟩, ?_⟩
    · obtain ⟨vi, si, sgi, hri, _, _, hdi0, hvi⟩ := hRi
      first | refine wV rfl ?_ | refine ⟨_, rfl, ?_⟩
      first | refine wI ?_ | refine wIc ?_ | refine ⟨_, _, rfl, rfl, ?_⟩
      refine ⟨hxl, ?_⟩
      first | refine wT rfl (SqT.of hri) rfl ?_ | refine ⟨_, rfl, ri, _, _, _, rfl, rfl, SqT.of hri, rfl, ?_⟩
      first | refine wV rfl ?_ | refine ⟨_, rfl, ?_⟩
      refine ⟨l4 rfl, ?_⟩
      refine fun ta Ha ea ha => ?_
      first | refine wV rfl ?_ | refine ⟨_, rfl, ?_⟩
      refine ⟨tl, _, wi, 1, 0, rfl, hleaf4.same (e5.trans ea).t, fun ro Ho eo hRo => ?_⟩
      obtain ⟨vo, sgo, hro, _, _, _, hvo⟩ := hRo
      refine ⟨ro, _, _, _, rfl, rfl, SqT.of hro, rfl, l4 rfl, fun tb Hb eb hb => ⟨l4 rfl, fun tc Hc ec hc => ?_⟩⟩
      first | refine wT rfl (SqT.of hc) rfl ?_ | refine ⟨_, rfl, tc, _, _, _, rfl, rfl, SqT.of hc, rfl, ?_⟩
      first | refine wT rfl (SqT.of hc) rfl ?_ | refine ⟨_, rfl, tc, _, _, _, rfl, rfl, SqT.of hc, rfl, ?_⟩
      first | refine wT rfl (SqT.of hc) rfl ?_ | refine ⟨_, rfl, tc, _, _, _, rfl, rfl, SqT.of hc, rfl, ?_⟩
      first | refine wT rfl (SqT.of hc) rfl ?_ | refine ⟨_, rfl, tc, _, _, _, rfl, rfl, SqT.of hc, rfl, ?_⟩
      first | refine wT rfl (SqT.of hc) rfl ?_ | refine ⟨_, rfl, tc, _, _, _, rfl, rfl, SqT.of hc, rfl, ?_⟩
      first | refine wV rfl ?_ | refine ⟨_, rfl, ?_⟩
      first | refine wI ?_ | refine wIc ?_ | refine ⟨_, _, rfl, rfl, ?_⟩
      refine ⟨hxl, l4 rfl, ?_⟩
      refine fun td Hd ed hd => ?_
      refine ⟨l4 rfl, ?_⟩
      refine fun te He ee he => ?_
      refine ⟨l4 rfl, ?_⟩
      refine fun tf Hf ef hf => ?_
      have e5f : Same H5 Hf := ea.trans (eo.trans (eb.trans (ec.trans (ed.trans (ee.trans ef)))))
      have eof : Same Ho Hf := eb.trans (ec.trans (ed.trans (ee.trans ef)))
      have hr1f := e5f _ _ (e5 _ _ hr1)
      have hrif := e5f _ _ hri
      first | refine wV rfl ?_ | refine ⟨_, rfl, ?_⟩
      first | refine wT rfl (SqT.of hr1f) rfl ?_ | refine ⟨_, rfl, r1, _, _, _, rfl, rfl, SqT.of hr1f, rfl, ?_⟩
      first | refine wT rfl (SqT.of hrif) rfl ?_ | refine ⟨_, rfl, ri, _, _, _, rfl, rfl, SqT.of hrif, rfl, ?_⟩
      first | refine wI ?_ | refine wIc ?_ | refine ⟨_, _, rfl, rfl, ?_⟩
      first | refine wT rfl (SqT.of hrif) rfl ?_ | refine ⟨_, rfl, ri, _, _, _, rfl, rfl, SqT.of hrif, rfl, ?_⟩
      first | refine wI ?_ | refine wIc ?_ | refine ⟨_, _, rfl, rfl, ?_⟩
      first | refine wT rfl (SqT.of hrif) rfl ?_ | refine ⟨_, rfl, ri, _, _, _, rfl, rfl, SqT.of hrif, rfl, ?_⟩
      first | refine wI ?_ | refine wIc ?_ | refine ⟨_, _, rfl, rfl, ?_⟩
      refine ⟨l4 rfl, ?_⟩
      refine fun tg Hg eg hg => ?_
      have e5g := e5f.trans eg
      have eog := eof.trans eg
      refine ⟨tg, _, _, rfl, e5.trans e5g, .ref tf, _, _, hg, hw11, hw12, by omega, fun E' hE' => ?_⟩
      have hx1 : (E'.put (x ++ "i") (wi, 1)) x = some (wi, 1) := by
        unfold Env.put
        rw [if_neg (x_xi x)]
        exact hD2 E' hE'
      have hxi : E' (x ++ "i") = none := by
        obtain ⟨E, hE, rfl⟩ := hE'
        exact hC.xi E _ hE
      have w1v : Vw 2 Hg (E'.put (x ++ "i") (wi, 1)) (.ref ta) wi 1 := Vw.name (eog _ _ (eo _ _ ha)) hx1 hw12
      have w2v : Vw 2 Hg (E'.put (x ++ "i") (wi, 1)) vo wi (1 + 1) := (hvo _ hx1).same eog.t
      have w3v : Vw 3 Hg (E'.put (x ++ "i") (wi, 1)) (.ref tb) wi _ := Vw.two ((ec.trans (ed.trans (ee.trans (ef.trans eg)))) _ _ hb) w1v w2v (.alike (.inr (.inr (.inl rfl)))) hw12
      have w4v : Vw 3 Hg (E'.put (x ++ "i") (wi, 1)) (.ref td) wi 1 := Vw.name ((ee.trans (ef.trans eg)) _ _ hd) put_same hw12
      have w5v : Vw 4 Hg (E'.put (x ++ "i") (wi, 1)) (.ref te) wi _ := Vw.two ((ef.trans eg) _ _ he) w3v w4v (.alike (.inr (.inr (.inr rfl)))) hw12
      have w6v := Vw.rounds (n := (3 + di).toNat) (eg _ _ hf) (show (0 : Int) ≤ 2 by decide) (show (2 : Int) ≤ 64 by decide) hxi (((hvi E' hE').same e5g.t).mono (by omega)) (w5v.mono (by omega)) hw12
      exact w6v
    clear hRi hdi
    rintro _ H6 ⟨ri, di, x8, rfl, e6, hRi⟩
    obtain ⟨vi, si, sgi, hrB, _, _, hdi, hvi⟩ := hRi
    have hrA := e6 _ _ hr1
    first | refine wV rfl ?_ | refine ⟨_, rfl, ?_⟩
    first | refine wC ⟨by decide, by decide⟩ ?_ | refine wCc ⟨by decide, by decide⟩ ?_ | refine ⟨_, _, rfl, rfl, ⟨by decide, by decide⟩, ?_⟩
    first | refine wC (show (0 : Int) < 6 by decide) ?_ | refine wCc (show (0 : Int) < 6 by decide) ?_ | refine ⟨_, _, rfl, rfl, (show (0 : Int) < 6 by decide), ?_⟩
    first | refine wI ?_ | refine wIc ?_ | refine ⟨_, _, rfl, rfl, ?_⟩
    first | refine wV rfl ?_ | refine ⟨_, rfl, ?_⟩
    first | refine wV rfl ?_ | refine ⟨_, rfl, ?_⟩
    first | refine wT rfl (SqT.of hrA) rfl ?_ | refine ⟨_, rfl, r1, _, _, _, rfl, rfl, SqT.of hrA, rfl, ?_⟩
    first | refine wT rfl (SqT.of hrB) rfl ?_ | refine ⟨_, rfl, ri, _, _, _, rfl, rfl, SqT.of hrB, rfl, ?_⟩
    refine ⟨l4 rfl, ?_⟩
    refine fun tv Ha ea ev => ?_
    replace hrA := ea _ _ hrA
    replace hrB := ea _ _ hrB
    have hmn := Int.emod_nonneg (n / 65) (show (6 : Int) ≠ 0 by decide)
    have hml := Int.emod_lt_of_pos (n / 65) (show (0 : Int) < 6 by decide)
    refine EVA.tup (EVA.cons (EV.var rfl) (EVA.cons (EV.ix rfl (SqT.of hrA) rfl) (EVA.cons (EV.op0 (EV.ix rfl (SqT.of hrA) rfl) (EV.opC (EV.var rfl) (EV.op0 EV.c (EV.ix rfl (SqT.of hrB) rfl)) (.inl ⟨by show -(2 ^ 64) < 1 + n / 65 % 6; omega, by show 1 + n / 65 % 6 < 2 ^ 64; omega⟩))) (EVA.cons (EV.op0 (EV.op0 EV.c (EV.ix rfl (SqT.of hrA) rfl)) (EV.ix rfl (SqT.of hrB) rfl)) (EVA.cons (EV.op0 EV.c (EV.max2 (EVA.cons (EV.ix rfl (SqT.of hrA) rfl) (EVA.cons (EV.ix rfl (SqT.of hrB) rfl) EVA.nil)))) EVA.nil))))) (l4 rfl) (fun t Hb eb et => ?_)
    have sA : Same H Ha := e6.trans ea
    refine k t _ _ Hb (sA.trans eb) ⟨.ref tv, _, _, et, hw11, hw12, by have := mxL d1 di; omega, fun E hE => ?_⟩
    refine (Vw.rounds (n := (if di > d1 then di else d1).toNat + 1) (eb _ _ ev) (by omega) (by omega) (hC.non E hE) (((hv1 E (hC.sub E hE)).same (sA.trans eb).t).mono (mxN (mxL _ _))) (((hvi _ ⟨E, hE, rfl⟩).same (ea.trans eb).t).mono (mxN (mxR _ _))) hw12).mono (mxU (Int.le_trans hd1 (mxL _ _)))
end
end VK
namespace VK
open PySem PySem.Spec PyProof.Rows L2
section
variable {P : Program} {w : World} {K : PySem.W.Frag} {mg : Str → Option Value} {base : Heap}
def strOf : Expr → Option Str
  | .Constant (.str x) _ _ => some x
  | _ => none
def strsOf : List Expr → Option (List Str)
  | [] => some []
  | e :: es => match strOf e, strsOf es with
    | some x, some xs => some (x :: xs)
    | _, _ => none
def tStrs (ss : List Str) : TA := fun _ H Q => Q (ss.map V.str) H
theorem pa_strs {X : Cx} : ∀ {es : List Expr} {ss : List Str}, strsOf es = some ss → PA X es (tStrs ss)
  | [], ss, h => by
    cases h
    exact pa_nil
  | e :: es, ss, h => by
    unfold strsOf at h
    cases h1 : strOf e with
    | none => rw [h1] at h; cases h
    | some x =>
      cases h2 : strsOf es with
      | none => rw [h1, h2] at h; cases h
      | some xs =>
        rw [h1, h2] at h
        cases h
        have ih : PA X es (tStrs xs) := pa_strs h2
        unfold strOf at h1
        split at h1
        · cases h1
          exact pa_cons pe_str ih (by rfl)
        · cases h1
def w16 : List Str := ["sieve", "cols", "once", "count", "sum", "least", "most", "first", "join", "left", "notin", "pour", "both", "either", "less", "rounds"]
theorem all16 : ∀ k : Fin 16, ((w16.getD k.val "" = "rounds" ∨ TwoW (w16.getD k.val "") ∨ OneW (w16.getD k.val "")) ∧ atI [V.str "sieve", V.str "cols", V.str "once", V.str "count", V.str "sum", V.str "least", V.str "most", V.str "first", V.str "join", V.str "left", V.str "notin", V.str "pour", V.str "both", V.str "either", V.str "less", V.str "rounds"] (k.val : Int) = some (.str (w16.getD k.val ""))) := by
  unfold TwoW OneW AlW GrW
  decide +kernel
theorem pick16 (c : Int) (h : 2 ≤ c % 18) : ∃ u : Str, (u = "rounds" ∨ TwoW u ∨ OneW u) ∧ atI [V.str "sieve", V.str "cols", V.str "once", V.str "count", V.str "sum", V.str "least", V.str "most", V.str "first", V.str "join", V.str "left", V.str "notin", V.str "pour", V.str "both", V.str "either", V.str "less", V.str "rounds"] (c % 18 - 2) = some (.str u) := by
  have h2 := Int.emod_lt_of_pos c (show (0 : Int) < 18 by decide)
  obtain ⟨k, hk⟩ : ∃ k : Fin 16, c % 18 - 2 = (k.val : Int) := ⟨⟨(c % 18 - 2).toNat, by omega⟩, by show c % 18 - 2 = ((c % 18 - 2).toNat : Int); omega⟩
  rw [hk]
  exact ⟨_, all16 k⟩
abbrev sNext : Stmt := top 46
abbrev psNext : List Str := ["_law_cell", "_law_number", "_law_now", "_law_kept", "_law_name"]
abbrev nNext : List Str := ["_law_cell", "_law_number", "_law_now", "_law_kept", "_law_name", "_law_word"]
def spNext : Sp := fun vs H Q _ => ∃ (c n : Int) (r1 r2 : Addr) (x : Str) (C C' : Env → Prop) (w1 d1 w2 d2 : Int), vs = [.int c, .int n, .ref r1, .ref r2, .str x] ∧ 2 ≤ c % 18 ∧ Rc H C r1 w1 d1 ∧ Rc H C r2 w2 d2 ∧ x.length ≤ 100 ∧ NewC C C' x ∧ ∀ r' w' d' H', Same H H' → Rc H' C' r' w' d' → Q (.ref r') H'
theorem scNext : FnScope nNext psNext (defScope sNext) := ⟨rfl, rfl, rfl, by decide +kernel, rfl, by decide +kernel, by decide +kernel⟩
theorem okNext {f fR fT fO fF fN fD fA fE fG : Addr} {fd fdR fdT fdO fdF fdN fdD fdA fdE fdG : FuncData} (DZ : Fn K mg "_law_next" sNext psNext f fd) (X : Txt mg) (DR : Fn K mg "_law_rounds" sRnd psRnd fR fdR) (DT : Fn K mg "_law_two" sTwo psTwo fT fdT) (DO : Fn K mg "_law_one" sOne psOne fO fdO) (DF : Fn K mg "_law_fitted" sFit psFit fF fdF) (DN : Fn K mg "_law_once" sOnceR psOnceR fN fdN) (DD : Fn K mg "_law_digits" sDigits psDigits fD fdD) (DA : Fn K mg "_law_asked" sAsked psTerm fA fdA) (DE : Fn K mg "_law_term" sTerm psTerm fE fdE) (DG : Fn K mg "_law_grouped" sGrp psGrp fG fdG) : FnOk P w K mg base CX0 4 f fd psNext spNext := by
  have GR : FnOk P w K mg base CX0 3 fR fdR psRnd spRnd := okRnd DR X DF DT DN DD
  have GT : FnOk P w K mg base CX0 3 fT fdT psTwo spTwo := (okTwo DT X DF DD).mono (by decide)
  have GO : FnOk P w K mg base CX0 3 fO fdO psOne spOne := okOne DO X DA DE DG DD
  refine DZ.F.ok (k := 3) scNext (fun vs H Q E h => ?_) (fun cdv A outer s H vs Q E hr h => ?_)
  · obtain ⟨_, _, _, _, _, _, _, _, _, _, _, rfl, _⟩ := h
    rfl
  · obtain ⟨c, n, r1, r2, x, C, C', w1, d1, w2, d2, rfl, hc, hR1, hR2, hx, hC, k⟩ := h
    have nd := scNext.nd
    obtain ⟨u, hu, hpick⟩ := pick16 c hc
    refine ⟨_, (@pss_cons _ _ _ _ _ (@ps_set _ _ (5) _ _ _ _ nd rfl (Or.inl rfl) (@pe_ix _ _ _ _ _ _ _ (ixL K) (@pe_lstS _ _ _ _ (@pa_strs _ _ ["sieve", "cols", "once", "count", "sum", "least", "most", "first", "join", "left", "notin", "pour", "both", "either", "less", "rounds"] (by rfl))) (@pe_op _ _ _ _ _ _ _ _ op_sub (@pe_op _ _ _ _ _ _ _ _ op_mod (pv 0) pe_int) pe_int) (fun _ _ => rfl)) (by rfl) (by first | exact .inl rfl | exact .inr rfl | assumption)) (@pss_consM _ _ _ _ _ (@ps_if _ _ _ _ _ _ _ _ (@pt_cmpR _ _ _ _ _ _ _ _ op_eq (@pe_op _ _ _ _ _ _ _ _ op_mod (@pe_op _ _ _ _ _ _ _ _ op_fdiv (pv 0) pe_int) pe_int) pe_int (nomark _)) (@pss_one _ _ _ (@ps_swap _ (2) (3) _ _ _ _ _ _ _ _ _ _ _ nd rfl rfl (Or.inl rfl) (Or.inl rfl) rfl (@pa_cons _ _ _ _ _ (pv 3) (@pa_cons _ _ _ _ _ (pv 2) pa_nil (by rfl)) (by rfl)) (by rfl) (by rfl) (by first | exact .inl rfl | exact .inr rfl | assumption) (by first | exact .inl rfl | exact .inr rfl | assumption))) pss_nil) (@pss_cons _ _ _ _ _ (@ps_if _ _ _ _ _ _ _ _ (@pt_cmpR _ _ _ _ _ _ _ _ op_eq (pv 5) pe_str (nomark _)) (@pss_one _ _ _ (@ps_ret _ _ _ _ (@pe_call _ _ _ _ _ _ _ _ _ _ _ _ _ _ _ _ GR hr rfl DR.m DR.F.kp DR.b .nil pass0 (@pa_cons _ _ _ _ _ (pv 1) (@pa_cons _ _ _ _ _ (pv 2) (@pa_cons _ _ _ _ _ (pv 3) (@pa_cons _ _ _ _ _ (pv 4) pa_nil (by rfl)) (by rfl)) (by rfl)) (by rfl)) (by decide) (by rfl) (by rfl)))) pss_nil) (@pss_cons _ _ _ _ _ (@ps_if _ _ _ _ _ _ _ _ (@pt_cmpR _ _ _ _ _ _ _ _ (inK K) (pv 5) (@pe_tupS _ _ _ _ _ (@pa_cons _ _ _ _ _ pe_str (@pa_cons _ _ _ _ _ pe_str (@pa_cons _ _ _ _ _ pe_str (@pa_cons _ _ _ _ _ pe_str (@pa_cons _ _ _ _ _ pe_str (@pa_cons _ _ _ _ _ pe_str (@pa_cons _ _ _ _ _ pe_str pa_nil (by rfl)) (by rfl)) (by rfl)) (by rfl)) (by rfl)) (by rfl)) (by rfl))) (by with_unfolding_all rfl)) (@pss_one _ _ _ (@ps_ret _ _ _ _ (@pe_call _ _ _ _ _ _ _ _ _ _ _ _ _ _ _ _ GT hr rfl DT.m DT.F.kp DT.b .nil pass0 (@pa_cons _ _ _ _ _ (pv 1) (@pa_cons _ _ _ _ _ (pv 5) (@pa_cons _ _ _ _ _ (pv 2) (@pa_cons _ _ _ _ _ (pv 3) pa_nil (by rfl)) (by rfl)) (by rfl)) (by rfl)) (by decide) (by rfl) (by rfl)))) pss_nil) (@pss_one _ _ _ (@ps_ret _ _ _ _ (@pe_call _ _ _ _ _ _ _ _ _ _ _ _ _ _ _ _ GO hr rfl DO.m DO.F.kp DO.b .nil pass0 (@pa_cons _ _ _ _ _ (pv 1) (@pa_cons _ _ _ _ _ (pv 5) (@pa_cons _ _ _ _ _ (pv 2) pa_nil (by rfl)) (by rfl)) (by rfl)) (by decide) (by rfl) (by rfl)))))))), ?_⟩
    refine ⟨(by show 16 ≤ sizeLine; decide), ?_⟩
    refine fun lw H1 e1 hlw => ?_
    first | refine wV rfl ?_ | refine ⟨_, rfl, ?_⟩
    first | refine wC (show (0 : Int) < 18 by decide) ?_ | refine wCc (show (0 : Int) < 18 by decide) ?_ | refine ⟨_, _, rfl, rfl, (show (0 : Int) < 18 by decide), ?_⟩
    first | refine wI ?_ | refine wIc ?_ | refine ⟨_, _, rfl, rfl, ?_⟩
    refine ⟨lw, _, _, .str u, rfl, rfl, SqL.of hlw, hpick, ?_⟩
    refine ⟨fun σ' H' => ∃ (ra rb : Addr) (wa da wb db : Int), σ' = [some (.int c), some (.int n), some (.ref ra), some (.ref rb), some (.str x), some (.str u)] ∧ Same H H' ∧ Rc H' C ra wa da ∧ Rc H' C rb wb db, ⟨_, rfl, _, _, rfl, rfl, ⟨by decide, by decide⟩, _, _, rfl, rfl, (show (0 : Int) < 2 by decide), rfl, _, rfl, ite2 (fun _ => ?_) (fun _ => ⟨r1, r2, w1, d1, w2, d2, rfl, e1, hR1.same e1.t, hR2.same e1.t⟩)⟩, ?_⟩
    · first | refine wV rfl ?_ | refine ⟨_, rfl, ?_⟩
      first | refine wV rfl ?_ | refine ⟨_, rfl, ?_⟩
      refine ⟨l4 rfl, ?_⟩
      refine fun t1 H2 e2 h2 => ?_
      refine ⟨t1, _, _, rfl, h2, r2, r1, w2, d2, w1, d1, rfl, e1.trans e2, hR2.same (e1.trans e2).t, hR1.same (e1.trans e2).t⟩
    rintro _ H2 ⟨ra, rb, wa, da, wb, db, rfl, e2, hRa, hRb⟩
    rcases hu with rfl | hu | hu
    · first | refine wY rfl (by decide +kernel) ?_ | refine ⟨_, rfl, rfl, _, rfl, iteP (by decide +kernel) ?_⟩
      first | refine wV rfl ?_ | refine ⟨_, rfl, ?_⟩
      first | refine wV rfl ?_ | refine ⟨_, rfl, ?_⟩
      first | refine wV rfl ?_ | refine ⟨_, rfl, ?_⟩
      first | refine wV rfl ?_ | refine ⟨_, rfl, ?_⟩
      refine ⟨n, ra, rb, x, C, C', wa, da, wb, db, rfl, hRa, hRb, hx, hC, ?_⟩
      refine fun r' w' d' H' s' hR' => ?_
      refine k r' w' d' H' (e2.trans s') hR'
    · first | refine wN rfl (by rcases hu with (rfl | rfl | rfl | rfl) | rfl | rfl | rfl <;> decide +kernel) ?_ | refine ⟨_, rfl, rfl, _, rfl, iteQ (by rcases hu with (rfl | rfl | rfl | rfl) | rfl | rfl | rfl <;> decide +kernel) ?_⟩
      first | refine wV rfl ?_ | refine ⟨_, rfl, ?_⟩
      refine ⟨l4 rfl, ?_⟩
      refine fun tw H3 e3 hw => ?_
      refine ⟨tw, _, rfl, .inr (SqT.of hw), rfl, rfl, _, rfl, ?_⟩
      refine iteP (by rcases hu with (rfl | rfl | rfl | rfl) | rfl | rfl | rfl <;> decide +kernel) ?_
      first | refine wV rfl ?_ | refine ⟨_, rfl, ?_⟩
      first | refine wV rfl ?_ | refine ⟨_, rfl, ?_⟩
      first | refine wV rfl ?_ | refine ⟨_, rfl, ?_⟩
      first | refine wV rfl ?_ | refine ⟨_, rfl, ?_⟩
      refine ⟨n, u, ra, rb, C, wa, da, wb, db, rfl, hRa.same e3.t, hRb.same e3.t, hu, ?_⟩
      refine fun r' w' d' H' s' hR' _ _ => ?_
      refine k r' w' d' H' (e2.trans (e3.trans s')) (hR'.imp hC.sub)
    · first | refine wN rfl (by rcases hu with rfl | rfl | rfl | (rfl | rfl | rfl | rfl | rfl) <;> decide +kernel) ?_ | refine ⟨_, rfl, rfl, _, rfl, iteQ (by rcases hu with rfl | rfl | rfl | (rfl | rfl | rfl | rfl | rfl) <;> decide +kernel) ?_⟩
      first | refine wV rfl ?_ | refine ⟨_, rfl, ?_⟩
      refine ⟨l4 rfl, ?_⟩
      refine fun tw H3 e3 hw => ?_
      refine ⟨tw, _, rfl, .inr (SqT.of hw), rfl, rfl, _, rfl, ?_⟩
      refine iteQ (by rcases hu with rfl | rfl | rfl | (rfl | rfl | rfl | rfl | rfl) <;> decide +kernel) ?_
      first | refine wV rfl ?_ | refine ⟨_, rfl, ?_⟩
      first | refine wV rfl ?_ | refine ⟨_, rfl, ?_⟩
      first | refine wV rfl ?_ | refine ⟨_, rfl, ?_⟩
      refine ⟨n, u, ra, C, wa, da, rfl, hRa.same e3.t, hu, ?_⟩
      refine fun r' w' H' s' hR' => ?_
      refine k r' w' _ H' (e2.trans (e3.trans s')) (hR'.imp hC.sub)
end
end VK
namespace VK
open PySem PySem.Spec PyProof.Rows L2
section
variable {P : Program} {w : World} {K : PySem.W.Frag} {mg : Str → Option Value} {base : Heap}
theorem odd6 : ∀ k : Fin 6, okC (([65, 49, 32, 95, 46, 35] : List Nat).getD k.val 0) = false ∧ atI ([65, 49, 32, 95, 46, 35] : List Nat) (k.val : Int) = some (([65, 49, 32, 95, 46, 35] : List Nat).getD k.val 0) := by decide +kernel
theorem odd_at (c : Int) : ∃ ch, okC ch = false ∧ atI (Str.ofString "A1 _.#").cps.toList (c % 6) = some ch := by
  have e : (Str.ofString "A1 _.#").cps.toList = [65, 49, 32, 95, 46, 35] := by decide +kernel
  have h1 := Int.emod_nonneg c (show (6 : Int) ≠ 0 by decide)
  have h2 := Int.emod_lt_of_pos c (show (0 : Int) < 6 by decide)
  rw [e, show c % 6 = (((⟨(c % 6).toNat, by omega⟩ : Fin 6)).val : Int) from (Int.toNat_of_nonneg h1).symm]
  exact ⟨_, odd6 _⟩
theorem k_non_str {K : PySem.W.Frag} : PySem.W.kitOne K (.type "NoneType") (.type "str") = some false := kt (by decide +kernel)
theorem k_bool_str {K : PySem.W.Frag} : PySem.W.kitOne K (.type "bool") (.type "str") = some false := kt (by decide +kernel)
theorem k_int_str {K : PySem.W.Frag} : PySem.W.kitOne K (.type "int") (.type "str") = some false := kt (by decide +kernel)
theorem k_list_str {K : PySem.W.Frag} : PySem.W.kitOne K (.type "list") (.type "str") = some false := kt (by decide +kernel)
theorem k_tuple_str {K : PySem.W.Frag} : PySem.W.kitOne K (.type "tuple") (.type "str") = some false := kt (by decide +kernel)
theorem k_dict_str {K : PySem.W.Frag} : PySem.W.kitOne K (.type "dict") (.type "str") = some false := kt (by decide +kernel)
abbrev sAsk : Stmt := top 47
abbrev psAsk : List Str := ["_law_names_here", "_law_cell"]
abbrev nAsk : List Str := ["_law_names_here", "_law_cell", "_law_name", "_law_at", "_law_odd", "_law_thing"]
def spAsk : Sp := fun vs H Q _ => ∃ (l : Addr) (zs : List Str) (c : Int), vs = [.ref l, .int c] ∧ H l = some (.lst (zs.map V.str)) ∧ NmsL zs ∧ ∀ H', Same H H' → Q (.bl true) H'
theorem scAsk : FnScope nAsk psAsk (defScope sAsk) := ⟨rfl, rfl, rfl, by decide +kernel, rfl, by decide +kernel, by decide +kernel⟩
/-- no name: what is_name has to refuse -/
def NoName (K : PySem.W.Frag) (H : Hp) (x : V) : Prop := (∃ z : Str, x = .str z ∧ z.length ≤ 1000 ∧ nameB z = false) ∨ ∃ U, TyOf K H x (.type U) ∧ PySem.W.kitOne K (.type U) (.type "str") = some false
theorem okAsk {f fN : Addr} {fd fdN : FuncData} (D : Fn K mg "_law_names_asked" sAsk psAsk f fd) (X : Txt mg) (DN : Fn K mg "is_name" sIsName psIsName fN fdN) : FnOk P w K mg base CX0 2 f fd psAsk spAsk := by
  have GN : FnOk P w K mg base CX0 1 fN fdN psIsName (spIsName K) := okIsName DN X
  refine D.F.ok (k := 1) scAsk (fun vs H Q E h => ?_) (fun cdv A outer s H vs Q E hr h => ?_)
  · obtain ⟨_, _, _, rfl, _⟩ := h
    rfl
  · obtain ⟨l, zs, c, rfl, hl, ⟨hz4, L, hL1, hL5, hzs⟩, k⟩ := h
    have nd := scAsk.nd
    refine ⟨_, (@pss_cons _ _ _ _ _ (@ps_for _ _ _ _ _ _ _ _ PassesOwn.never rfl (@pi_list _ _ _ _ (pv 0)) (@pg_name _ _ (2) _ nd rfl (Or.inl rfl) (by first | exact .inl rfl | exact .inr rfl | assumption)) (@pss_cons _ _ _ _ _ (@ps_set _ _ (3) _ _ _ _ nd rfl (Or.inl rfl) (@pe_op _ _ _ _ _ _ _ _ op_mod (@pe_op _ _ _ _ _ _ _ _ op_fdiv (pv 1) pe_int) (@pe_op _ _ _ _ _ _ _ _ op_add (@pe_callB _ _ _ _ _ _ _ _ _ call_len_str (by rfl) X.len b_len (@pa_cons _ _ _ _ _ (pv 2) pa_nil (by rfl)) (by decide) (by decide) (by rfl) (by rfl)) pe_int)) (by rfl) (by first | exact .inl rfl | exact .inr rfl | assumption)) (@pss_cons _ _ _ _ _ (@ps_set _ _ (4) _ _ _ _ nd rfl (Or.inl rfl) (@pe_op _ _ _ _ _ _ _ _ op_add_str (@pe_op _ _ _ _ _ _ _ _ op_add_str (@pe_slice _ _ _ _ _ _ _ _ _ _ sl_str (pv 2) po_none (@po_some _ _ _ (pv 3))) (@pe_ix _ _ _ _ _ _ _ ix_str pe_str (@pe_op _ _ _ _ _ _ _ _ op_mod (pv 1) pe_int) (fun _ _ => rfl))) (@pe_slice _ _ _ _ _ _ _ _ _ _ sl_str (pv 2) (@po_some _ _ _ (pv 3)) po_none)) (by rfl) (by first | exact .inl rfl | exact .inr rfl | assumption)) (@pss_cons _ _ _ _ _ (@ps_if _ _ _ _ _ _ _ _ (PW.pt (@pw_or _ _ _ _ _ _ _ (@pt_cmpR _ _ _ _ _ _ _ _ op_isnotB (@pe_call _ _ _ _ _ _ _ _ _ _ _ _ _ _ _ _ GN hr rfl DN.m DN.F.kp DN.b .nil pass0 (@pa_cons _ _ _ _ _ (pv 2) pa_nil (by rfl)) (by decide) (by rfl) (by rfl)) pe_bl (nomark _)) (@pw_or _ _ _ _ _ _ _ (@pt_cmpR _ _ _ _ _ _ _ _ op_isnotB (@pe_call _ _ _ _ _ _ _ _ _ _ _ _ _ _ _ _ GN hr rfl DN.m DN.F.kp DN.b .nil pass0 (@pa_cons _ _ _ _ _ (@pe_slice _ _ _ _ _ _ _ _ _ _ sl_str (@pe_op _ _ _ _ _ _ _ _ op_mul_str (pv 2) pe_int) po_none (@po_some _ _ _ pe_int)) pa_nil (by rfl)) (by decide) (by rfl) (by rfl)) pe_bl (nomark _)) (@pw_or1 _ _ _ _ (@pt_cmpR _ _ _ _ _ _ _ _ op_isnotB (@pe_call _ _ _ _ _ _ _ _ _ _ _ _ _ _ _ _ GN hr rfl DN.m DN.F.kp DN.b .nil pass0 (@pa_cons _ _ _ _ _ (pv 4) pa_nil (by rfl)) (by decide) (by rfl) (by rfl)) pe_bl (nomark _)))))) (@pss_one _ _ _ (@ps_ret _ _ _ _ pe_bl)) pss_nil) (@pss_one _ _ _ (@ps_for _ _ _ _ _ _ _ _ PassesOwn.never rfl (@pi_list _ _ _ _ (@pe_lstS _ _ _ _ (@pa_cons _ _ _ _ _ pe_str (@pa_cons _ _ _ _ _ (@pe_slice _ _ _ _ _ _ _ _ _ _ sl_str (@pe_op _ _ _ _ _ _ _ _ op_mul_str (pv 2) pe_int) po_none (@po_some _ _ _ pe_int)) (@pa_cons _ _ _ _ _ pe_non (@pa_cons _ _ _ _ _ pe_bl (@pa_cons _ _ _ _ _ (@pe_op _ _ _ _ _ _ _ _ op_mod (pv 1) pe_int) (@pa_cons _ _ _ _ _ (@pe_lstS _ _ _ _ (@pa_cons _ _ _ _ _ (pv 2) pa_nil (by rfl))) (@pa_cons _ _ _ _ _ (@pe_tupS _ _ _ _ _ (@pa_cons _ _ _ _ _ (pv 2) pa_nil (by rfl))) (@pa_cons _ _ _ _ _ pe_dnewK (@pa_cons _ _ _ _ _ (@pe_disp _ _ _ _ _ (pps_cons (pv 2) (pv 2) pps_nil) rfl rfl (by simp) (by decide)) pa_nil (by rfl)) (by rfl)) (by rfl)) (by rfl)) (by rfl)) (by rfl)) (by rfl)) (by rfl)) (by rfl)))) (@pg_name _ _ (5) _ nd rfl (Or.inl rfl) (by first | exact .inl rfl | exact .inr rfl | assumption)) (@pss_one _ _ _ (@ps_if _ _ _ _ _ _ _ _ (@pt_cmpR _ _ _ _ _ _ _ _ op_isnotB (@pe_call _ _ _ _ _ _ _ _ _ _ _ _ _ _ _ _ GN hr rfl DN.m DN.F.kp DN.b .nil pass0 (@pa_cons _ _ _ _ _ (pv 5) pa_nil (by rfl)) (by decide) (by rfl) (by rfl)) pe_bl (nomark _)) (@pss_one _ _ _ (@ps_ret _ _ _ _ pe_bl)) pss_nil)) (by intro _; rfl)))))) (by intro _; rfl)) (@pss_one _ _ _ (@ps_ret _ _ _ _ pe_bl))), ?_⟩
    first | refine wV rfl ?_ | refine ⟨_, rfl, ?_⟩
    refine ⟨l, rfl, ⟨_, SqL.of hl⟩, ?_⟩
    refine for_list (K := K) (a := l) (xs := zs.map V.str) (fun i σ' H' => ∃ x2 x3 x4 x5, σ' = [some (.ref l), some (.int c), x2, x3, x4, x5] ∧ Same H H') ⟨none, none, none, none, rfl, Same.refl H⟩ (fun i σ' H' _ ⟨_, _, _, _, _, z⟩ => SqL.of (z _ _ hl)) ?_ ?_
    · rintro i x σ' H1 ex ⟨x2, x3, x4, x5, rfl, e1⟩
      have hm := List.mem_of_getElem? ex
      rw [List.mem_map] at hm
      obtain ⟨z, hz, rfl⟩ := hm
      obtain ⟨hzl, hlow⟩ := hzs z hz
      have zl : z.length ≤ sizeLine := Nat.le_of_lt (small1000 (by omega))
      have hM : ∀ n : Int, 0 ≤ n → n ≤ 9 → MulOk z n := fun n h0 h9 => mulOk_of 5 9 (by omega) (by omega) (by omega) (by decide) (by decide)
      have lM : ∀ n : Nat, n ≤ 9 → (Txt.mul z n).length ≤ sizeLine := fun n h9 => Nat.le_trans (len_mul_leN (L := 5) (N := 9) (by omega) (by omega)) (by decide)
      obtain ⟨ch, hch, hat⟩ := odd_at c
      first | refine wV rfl ?_ | refine ⟨_, rfl, ?_⟩
      first | refine wC ⟨by decide, by decide⟩ ?_ | refine wCc ⟨by decide, by decide⟩ ?_ | refine ⟨_, _, rfl, rfl, ⟨by decide, by decide⟩, ?_⟩
      first | refine wV rfl ?_ | refine ⟨_, rfl, ?_⟩
      refine ⟨z, rfl, zl, _, _, rfl, rfl, _, _, rfl, rfl, (show (0 : Int) < (z.length : Int) + 1 by omega), ?_⟩
      have b1 := Txt.slice_le z none (some (c / 6 % ((z.length : Int) + 1)))
      have b2 := Txt.slice_le z (some (c / 6 % ((z.length : Int) + 1))) none
      first | refine wV rfl ?_ | refine ⟨_, rfl, ?_⟩
      first | refine wV rfl ?_ | refine ⟨_, rfl, ?_⟩
      first | refine wV rfl ?_ | refine ⟨_, rfl, ?_⟩
      refine ⟨z, rfl, zl, _, rfl, _, _, rfl, rfl, (show (0 : Int) < 6 by decide), Str.ofString "A1 _.#", _, ch, rfl, rfl, (by decide +kernel), hat, _, _, rfl, rfl, ?_, ?_⟩
      · show (Txt.slice z none (some (c / 6 % ((z.length : Int) + 1)))).length + 1 ≤ sizeLine
        exact Nat.le_of_lt (small1000 (by omega))
      first | refine wV rfl ?_ | refine ⟨_, rfl, ?_⟩
      first | refine wV rfl ?_ | refine ⟨_, rfl, ?_⟩
      first | refine wV rfl ?_ | refine ⟨_, rfl, ?_⟩
      refine ⟨z, rfl, zl, _, _, rfl, rfl, ?_, ?_⟩
      · rw [len_cat]
        show (Txt.slice z none (some (c / 6 % ((z.length : Int) + 1)))).length + 1 + (Txt.slice z (some (c / 6 % ((z.length : Int) + 1))) none).length ≤ sizeLine
        exact Nat.le_of_lt (small1000 (by omega))
      have hodd : nameB (Txt.slice z none (some (c / 6 % ((z.length : Int) + 1))) ++ (⟨#[ch]⟩ : Str) ++ Txt.slice z (some (c / 6 % ((z.length : Int) + 1))) none) = false := nameB_not (c := ch) (by rw [cps_cat, cps_cat]; simp) hch
      have hol : (Txt.slice z none (some (c / 6 % ((z.length : Int) + 1))) ++ (⟨#[ch]⟩ : Str) ++ Txt.slice z (some (c / 6 % ((z.length : Int) + 1))) none).length ≤ 1000 := by
        rw [len_cat, len_cat]
        show (Txt.slice z none (some (c / 6 % ((z.length : Int) + 1)))).length + 1 + (Txt.slice z (some (c / 6 % ((z.length : Int) + 1))) none).length ≤ 1000
        omega
      have l8 : (Txt.slice (Txt.mul z 8) none (some 8)).length = 8 := len_cut (n := 8) (by omega) (by decide)
      have l9 : (Txt.slice (Txt.mul z 9) none (some 9)).length = 9 := len_cut (n := 9) (by omega) (by decide)
      have hz0 : nameB z = true := nameB_of hlow (by omega) (by omega)
      have hz8 : nameB (Txt.slice (Txt.mul z 8) none (some 8)) = true := nameB_of ((hlow.mul 8).slice none (some 8)) (by omega) (by omega)
      have hz9 : nameB (Txt.slice (Txt.mul z 9) none (some 9)) = false := nameB_len (by omega)
      first | refine wV rfl ?_ | refine ⟨_, rfl, ?_⟩
      first | refine wV rfl ?_ | refine ⟨_, rfl, ?_⟩
      refine .inl ⟨z, rfl, by omega, fun H2 e2 => ⟨_, _, rfl, rfl, _, rfl, iteQ (by rw [hz0]; rfl) ?_⟩⟩
      first | refine wV rfl ?_ | refine ⟨_, rfl, ?_⟩
      refine ⟨z, 8, rfl, rfl, hM 8 (by decide) (by decide), ?_⟩
      first | refine wV rfl ?_ | refine ⟨_, rfl, ?_⟩
      first | refine wV rfl ?_ | refine ⟨_, rfl, ?_⟩
      refine ⟨lM 8 (by decide), ?_⟩
      first | refine wV rfl ?_ | refine ⟨_, rfl, ?_⟩
      refine .inl ⟨_, rfl, by omega, fun H3 e3 => ⟨_, _, rfl, rfl, _, rfl, iteQ (by rw [hz8]; rfl) ?_⟩⟩
      first | refine wV rfl ?_ | refine ⟨_, rfl, ?_⟩
      first | refine wV rfl ?_ | refine ⟨_, rfl, ?_⟩
      refine .inl ⟨_, rfl, hol, fun H4 e4 => ⟨_, _, rfl, rfl, _, rfl, iteQ (by rw [hodd]; rfl) ?_⟩⟩
      have e04 : Same H H4 := e1.trans (e2.trans (e3.trans e4))
      first | refine wV rfl ?_ | refine ⟨_, rfl, ?_⟩
      refine ⟨z, 9, rfl, rfl, hM 9 (by decide) (by decide), ?_⟩
      first | refine wV rfl ?_ | refine ⟨_, rfl, ?_⟩
      first | refine wV rfl ?_ | refine ⟨_, rfl, ?_⟩
      refine ⟨lM 9 (by decide), ?_⟩
      first | refine wV rfl ?_ | refine ⟨_, rfl, ?_⟩
      first | refine wC (show (0 : Int) < 9 by decide) ?_ | refine wCc (show (0 : Int) < 9 by decide) ?_ | refine ⟨_, _, rfl, rfl, (show (0 : Int) < 9 by decide), ?_⟩
      first | refine wV rfl ?_ | refine ⟨_, rfl, ?_⟩
      refine ⟨l4 rfl, ?_⟩
      refine fun ll H5 e5 h5 => ?_
      first | refine wV rfl ?_ | refine ⟨_, rfl, ?_⟩
      refine ⟨l4 rfl, ?_⟩
      refine fun tt H6 e6 h6 => ?_
      refine fun d0 hd0 => ?_
      have s7 : Same H6 (upd H6 d0 (.dK [])) := (Same.refl H6).upd hd0
      have h7 : (upd H6 d0 (.dK [])) d0 = some (.dK []) := upd_same
      generalize upd H6 d0 (.dK []) = H7 at s7 h7 ⊢
      refine fun d1 hd1 => ?_
      first | refine wV rfl ?_ | refine ⟨_, rfl, ?_⟩
      first | refine wV rfl ?_ | refine ⟨_, rfl, ?_⟩
      refine ⟨upd_same, [(.inr z, .str z)], rfl, Nat.le_of_ble_eq_true rfl, ?_⟩
      have s8 : Same H7 (upd (upd H7 d1 (.dK [])) d1 (.dK (mergeK [] [(.inr z, .str z)]))) := fun c' o e => by
        rw [upd_ne (ne_of_none e hd1), upd_ne (ne_of_none e hd1)]; exact e
      have h8 : (upd (upd H7 d1 (.dK [])) d1 (.dK (mergeK [] [(.inr z, .str z)]))) d1 = some (.dK (mergeK [] [(.inr z, .str z)])) := upd_same
      generalize upd (upd H7 d1 (.dK [])) d1 (.dK (mergeK [] [(.inr z, .str z)])) = H8 at s8 h8 ⊢
      refine ⟨l4 rfl, ?_⟩
      refine fun lt H9 e9 h9 => ?_
      refine ⟨lt, rfl, ⟨_, SqL.of h9⟩, ?_⟩
      have e59 : Same H5 H9 := e6.trans (s7.trans (s8.trans e9))
      have hno : ∀ y ∈ [V.str (Str.ofString ""), .str (Txt.slice (Txt.mul z 9) none (some 9)), .non, .bl true, .int (c % 9), .ref ll, .ref tt, .ref d0, .ref d1], ∀ H', Same H9 H' → NoName K H' y := by
        intro y hy H' s'
        simp only [List.mem_cons, List.not_mem_nil, or_false] at hy
        rcases hy with rfl | rfl | rfl | rfl | rfl | rfl | rfl | rfl | rfl
        · exact .inl ⟨_, rfl, by decide +kernel, by decide +kernel⟩
        · exact .inl ⟨_, rfl, by omega, hz9⟩
        · exact .inr ⟨_, .non, k_non_str⟩
        · exact .inr ⟨_, .bl true, k_bool_str⟩
        · exact .inr ⟨_, .int _, k_int_str⟩
        · exact .inr ⟨_, .lst (s' _ _ (e59 _ _ h5)), k_list_str⟩
        · exact .inr ⟨_, .tup (s' _ _ ((s7.trans (s8.trans e9)) _ _ h6)), k_tuple_str⟩
        · exact .inr ⟨_, .dK (s' _ _ ((s8.trans e9) _ _ h7)), k_dict_str⟩
        · exact .inr ⟨_, .dK (s' _ _ (e9 _ _ h8)), k_dict_str⟩
      refine for_list (K := K) (a := lt) (fun i σ' H' => ∃ x2 x3 x4 x5, σ' = [some (.ref l), some (.int c), x2, x3, x4, x5] ∧ Same H9 H') ⟨_, _, _, _, rfl, Same.refl _⟩ (fun i σ' H' _ ⟨_, _, _, _, _, z⟩ => SqL.of (z _ _ h9)) ?_ ?_
      · rintro j y σ' Ha ey ⟨y2, y3, y4, y5, rfl, ea⟩
        rcases hno y (List.mem_of_getElem? ey) Ha ea with ⟨q, rfl, hq, hn⟩ | ⟨U, hU, hk⟩
        · first | refine wV rfl ?_ | refine ⟨_, rfl, ?_⟩
          first | refine wV rfl ?_ | refine ⟨_, rfl, ?_⟩
          refine .inl ⟨q, rfl, hq, fun Hb eb => ⟨_, _, rfl, rfl, _, rfl, iteQ (by rw [hn]; rfl) ⟨_, _, _, _, rfl, ea.trans eb⟩⟩⟩
        · first | refine wV rfl ?_ | refine ⟨_, rfl, ?_⟩
          first | refine wV rfl ?_ | refine ⟨_, rfl, ?_⟩
          refine .inr ⟨U, hU, hk, _, _, rfl, rfl, _, rfl, iteQ rfl ⟨_, _, _, _, rfl, ea⟩⟩
      · rintro σ' Ha ⟨y2, y3, y4, y5, rfl, ea⟩
        refine ⟨_, _, _, _, rfl, e04.trans (e5.trans (e59.trans ea))⟩
    · rintro σ' H1 ⟨x2, x3, x4, x5, rfl, e1⟩
      exact k H1 e1
end
end VK
namespace VK
open PySem PySem.Spec PyProof.Rows L2
section
variable {P : Program} {w : World} {K : PySem.W.Frag} {mg : Str → Option Value} {base : Heap}
theorem allInt_put {kvs : List (Key × V)} {k : Key} {i : Int} (h : AllInt kvs) : AllInt (putK kvs k (.int i)) := fun p hp => by
  unfold putK at hp
  split at hp
  · obtain ⟨q, hq, rfl⟩ := List.mem_map.mp hp
    split
    · exact ⟨i, rfl⟩
    · exact h q hq
  · rcases List.mem_append.mp hp with hp | hp
    · exact h p hp
    · simp only [List.mem_cons, List.not_mem_nil, or_false] at hp
      subst hp
      exact ⟨i, rfl⟩
/-- environments that know the four names, and none of the fresh names below k -/
def CEnv (zs : List Str) (z0 : Str) (E0 : Env) (k : Nat) : Env → Prop := fun E => (∀ z ∈ zs, E z = E0 z) ∧ ∀ j, j < k → E (fresh z0 j) = none ∧ E (fresh z0 j ++ "i") = none
theorem len_i : (Str.ofString "i").length = 1 := by decide +kernel
theorem newC {zs : List Str} {z0 : Str} {E0 : Env} {k : Nat} (hk : k < 676) (hz : ∀ z ∈ zs, z.length = z0.length) : NewC (CEnv zs z0 E0 k) (CEnv zs z0 E0 (k + 1)) (fresh z0 k) where
  sub := fun E h => ⟨h.1, fun j hj => h.2 j (by omega)⟩
  non := fun E h => (h.2 k (by omega)).1
  put := fun E p h => by
    refine ⟨fun z hz' => ?_, fun j hj => ⟨?_, ?_⟩⟩
    · have hne : z ≠ fresh z0 k := fun e => by
        have := congrArg Str.length e
        rw [len_fresh, hz z hz'] at this
        omega
      exact (if_neg hne).trans (h.1 z hz')
    · have hne : fresh z0 j ≠ fresh z0 k := fun e => by
        have := fresh_ne (by omega) hk e
        omega
      exact (if_neg hne).trans (h.2 j (by omega)).1
    · have hne : fresh z0 j ++ "i" ≠ fresh z0 k := fun e => by
        have := congrArg Str.length e
        rw [len_cat, len_fresh, len_fresh, len_i] at this
        omega
      exact (if_neg hne).trans (h.2 j (by omega)).2
  xi := fun E p h => by
    have hne : fresh z0 k ++ "i" ≠ fresh z0 k := fun e => (x_xi _) e.symm
    exact (if_neg hne).trans (h.2 k (by omega)).2
theorem pick4 {ys : List V} (hl : ys.length = 4) (c : Int) : ∃ y, atI ys (c % 4) = some y ∧ y ∈ ys := by
  have h0 := Int.emod_nonneg c (show (4 : Int) ≠ 0 by decide)
  have h1 := Int.emod_lt_of_pos c (show (0 : Int) < 4 by decide)
  obtain ⟨k, hk⟩ : ∃ k : Nat, c % 4 = (k : Int) := ⟨(c % 4).toNat, by omega⟩
  have hlt : k < ys.length := by omega
  exact ⟨ys[k], by rw [hk]; exact atI_nat (List.getElem?_eq_getElem hlt), List.getElem_mem hlt⟩
abbrev sLaw : Stmt := top 48
def spLaw (K : PySem.W.Frag) : Sp := fun vs H Q _ => ∃ (a : Addr) (ns : List Int), vs = [.ref a] ∧ SqL K H a (ns.map V.int) ∧ ns.length ≤ 63 ∧ ∀ H', Q (.bl true) H'
abbrev nLaw : List Str := ["_law_script", "_law_names_here", "_law_widths", "_law_sizes", "_law_j", "_law_tables", "_law_now", "_law_kept", "_law_k", "_law_cell", "_law_made", "_law_handed", "_law_wide", "_law_great"]
theorem scLaw : FnScope nLaw ["_law_script"] (defScope sLaw) := ⟨rfl, rfl, rfl, by decide +kernel, rfl, by decide +kernel, by decide +kernel⟩
theorem okLaw {f f9 fB fM fA fF fN fK fL fS fI fyR fyT fyO fyF fyN fyD fyA fyE fyG fzR fzN fzV fzC fzA fzO fzB fzW fzP fzQ fzI fzX fbs fes : Addr} {fd fd9 fdB fdM fdA fdF fdN fdK fdL fdS fdI fdyR fdyT fdyO fdyF fdyN fdyD fdyA fdyE fdyG fdzR fdzN fdzV fdzC fdzA fdzO fdzB fdzW fdzP fdzQ fdzI fdzX fdbs fdes : FuncData} (X : Txt mg) (GLB : Glb K mg) (D : Fn K mg "law" sLaw ["_law_script"] f fd) (D9 : Fn K mg "_law_cell_at" sCellAt psCellAt f9 fd9) (DB : Fn K mg "_law_whole" sWhole psWhole fB fdB) (DM : Fn K mg "_law_mixed" sMixed psMixed fM fdM) (DA : Fn K mg "_law_names" sNames psNames fA fdA) (DF : Fn K mg "_law_fresh" sFresh psFresh fF fdF) (DN : Fn K mg "_law_next" sNext psNext fN fdN) (DK : Fn K mg "_law_names_asked" sAsk psAsk fK fdK) (DL : Fn K mg "look" sLook psLook fL fdL) (DS : Fn K mg "size" sSize psSize fS fdS) (DI : Fn K mg "is_name" sIsName psIsName fI fdI) (DyR : Fn K mg "_law_rounds" sRnd psRnd fyR fdyR) (DyT : Fn K mg "_law_two" sTwo psTwo fyT fdyT) (DyO : Fn K mg "_law_one" sOne psOne fyO fdyO) (DyF : Fn K mg "_law_fitted" sFit psFit fyF fdyF) (DyN : Fn K mg "_law_once" sOnceR psOnceR fyN fdyN) (DyD : Fn K mg "_law_digits" sDigits psDigits fyD fdyD) (DyA : Fn K mg "_law_asked" sAsked psTerm fyA fdyA) (DyE : Fn K mg "_law_term" sTerm psTerm fyE fdyE) (DyG : Fn K mg "_law_grouped" sGrp psGrp fyG fdyG) (DzR : Fn K mg "rounds_width" sRW psLook fzR fdzR) (DzN : Fn K mg "name_width" sNameW psNameW fzN fdzN) (DzV : Fn K mg "views_in" sViewsIn psV fzV fdzV) (DzC : Fn K mg "check_places" sChPl psChPl fzC fdzC) (DzA : Fn K mg "check_alike" sAlikeC psAlikeC fzA fdzA) (DzO : Fn K mg "width_over" sWidthO psWidthO fzO fdzO) (DzB : Fn K mg "besides_of" sBesides psV fzB fdzB) (DzW : Fn K mg "with_name" sWithN psWithN fzW fdzW) (DzP : Fn K mg "places_of" sPlOf psV fzP fdzP) (DzQ : Fn K mg "own_places" sOwnPl psV fzQ fdzQ) (DzI : Fn K mg "places_in" sPlIn psPlIn fzI fdzI) (DzX : Fn K mg "within" sWithin psWithin fzX fdzX) (Dbs : Fn K mg "besides_size" sBSize psV fbs fdbs) (Des : Fn K mg "expression_size" sESize psESize fes fdes) : FnOk P w K mg base CX0 65 f fd ["_law_script"] (spLaw K) := by
  have G9 : FnOk P w K mg base CX0 64 f9 fd9 psCellAt (spCellAt K) := (okCellAt D9 X).mono (by decide)
  have GB : FnOk P w K mg base CX0 64 fB fdB psWhole spWhole := (okWhole DB X).mono (by decide)
  have GM : FnOk P w K mg base CX0 64 fM fdM psMixed spMixed := (okMixed DM).mono (by decide)
  have GA : FnOk P w K mg base CX0 64 fA fdA psNames spNames := (okNames DA X DM DyD).mono (by decide)
  have GF : FnOk P w K mg base CX0 64 fF fdF psFresh spFresh := (okFresh DF).mono (by decide)
  have GN : FnOk P w K mg base CX0 64 fN fdN psNext spNext := (okNext DN X DyR DyT DyO DyF DyN DyD DyA DyE DyG).mono (by decide)
  have GK : FnOk P w K mg base CX0 64 fK fdK psAsk spAsk := (okAsk DK X DI).mono (by decide)
  have GL : FnOk P w K mg base CX0 64 fL fdL psLook (spLook 27) := okLooks DL X GLB DzR DzN DzV DzC DzA DzO DzB DzW DzP DzQ DzI DzX 27
  have GS : FnOk P w K mg base CX0 64 fS fdS psSize (spSize 27) := (okSizes DS X GLB DzV DzW Dbs Des DzX 27).mono (by decide)
  refine D.F.ok (k := 64) scLaw (fun vs H Q E h => ?_) (fun cdv A outer s H vs Q E hr h => ?_)
  · obtain ⟨a, ns, rfl, _⟩ := h
    rfl
  · obtain ⟨a, ns, rfl, hS, hlen, k⟩ := h
    have nd := scLaw.nd
    refine ⟨_, (@pss_cons _ _ _ _ _ (@ps_set _ _ (1) _ _ _ _ nd rfl (Or.inl rfl) (@pe_call _ _ _ _ _ _ _ _ _ _ _ _ _ _ _ _ GA hr rfl DA.m DA.F.kp DA.b .nil pass0 (@pa_cons _ _ _ _ _ (@pe_call _ _ _ _ _ _ _ _ _ _ _ _ _ _ _ _ G9 hr rfl D9.m D9.F.kp D9.b .nil pass0 (@pa_cons _ _ _ _ _ (pv 0) (@pa_cons _ _ _ _ _ pe_int pa_nil (by rfl)) (by rfl)) (by decide) (by rfl) (by rfl)) pa_nil (by rfl)) (by decide) (by rfl) (by rfl)) (by rfl) (by first | exact .inl rfl | exact .inr rfl | assumption)) (@pss_cons _ _ _ _ _ (@ps_set _ _ (2) _ _ _ _ nd rfl (Or.inr rfl) pe_dnewK (by rfl) (by first | exact .inl rfl | exact .inr rfl | assumption)) (@pss_cons _ _ _ _ _ (@ps_set _ _ (3) _ _ _ _ nd rfl (Or.inr rfl) pe_dnewK (by rfl) (by first | exact .inl rfl | exact .inr rfl | assumption)) (@pss_cons _ _ _ _ _ (@ps_for _ _ _ _ _ _ _ _ PassesOwn.never rfl (@pi_range1 _ _ _ _ _ _ rfl X.range (@pa_cons _ _ _ _ _ pe_int pa_nil (by rfl)) (by rfl)) (@pg_name _ _ (4) _ nd rfl (Or.inl rfl) (by first | exact .inl rfl | exact .inr rfl | assumption)) (@pss_cons _ _ _ _ _ (@ps_dput _ _ _ _ _ _ _ _ _ (hu_of hr) (pv 2) (@pe_ix _ _ _ _ _ _ _ (ixL K) (pv 1) (pv 4) (fun _ _ => rfl)) (@pe_op _ _ _ _ _ _ _ _ op_add pe_int (@pe_op _ _ _ _ _ _ _ _ op_mod (@pe_call _ _ _ _ _ _ _ _ _ _ _ _ _ _ _ _ G9 hr rfl D9.m D9.F.kp D9.b .nil pass0 (@pa_cons _ _ _ _ _ (pv 0) (@pa_cons _ _ _ _ _ (@pe_op _ _ _ _ _ _ _ _ op_add pe_int (pv 4)) pa_nil (by rfl)) (by rfl)) (by decide) (by rfl) (by rfl)) pe_int)) rfl) (@pss_one _ _ _ (@ps_dput _ _ _ _ _ _ _ _ _ (hu_of hr) (pv 3) (@pe_ix _ _ _ _ _ _ _ (ixL K) (pv 1) (pv 4) (fun _ _ => rfl)) (@pe_op _ _ _ _ _ _ _ _ op_add pe_int (@pe_op _ _ _ _ _ _ _ _ op_mod (@pe_op _ _ _ _ _ _ _ _ op_fdiv (@pe_call _ _ _ _ _ _ _ _ _ _ _ _ _ _ _ _ G9 hr rfl D9.m D9.F.kp D9.b .nil pass0 (@pa_cons _ _ _ _ _ (pv 0) (@pa_cons _ _ _ _ _ (@pe_op _ _ _ _ _ _ _ _ op_add pe_int (pv 4)) pa_nil (by rfl)) (by rfl)) (by decide) (by rfl) (by rfl)) pe_int) pe_int)) rfl))) (by intro _; rfl)) (@pss_cons _ _ _ _ _ (@ps_comp _ _ _ _ _ _ _ _ (_) (["_law_name"]) ([("_law_sizes", 3), ("_law_widths", 2)]) (defScope sLaw) (nLaw) (5) _ _ _ nd rfl (Or.inl rfl) rfl rfl ⟨rfl, by decide +kernel, by decide +kernel, by decide +kernel, by decide +kernel⟩ rfl (@pi_list _ _ _ _ (pv 1)) (fun s H fp => pg_name (i := 0) (show (["_law_name", "_law_sizes", "_law_widths"] : List Str).Nodup by decide +kernel) rfl (Or.inl rfl) (Or.inr rfl)) (fun s H fp => (@pe_tupS _ _ _ _ _ (@pa_cons _ _ _ _ _ (@pe_tupS _ _ _ _ _ (@pa_cons _ _ _ _ _ pe_str (@pa_cons _ _ _ _ _ (pv 0) pa_nil (by rfl)) (by rfl))) (@pa_cons _ _ _ _ _ (@pe_dget _ _ _ _ _ _ (hu_of hr) (pv 2) (pv 0) (fun _ _ => rfl)) (@pa_cons _ _ _ _ _ (@pe_dget _ _ _ _ _ _ (hu_of hr) (pv 1) (pv 0) (fun _ _ => rfl)) (@pa_cons _ _ _ _ _ pe_int (@pa_cons _ _ _ _ _ pe_int pa_nil (by rfl)) (by rfl)) (by rfl)) (by rfl)) (by rfl)))) (by rfl) (by intro _; rfl) (by first | exact .inl rfl | exact .inr rfl | assumption)) (@pss_cons _ _ _ _ _ (@ps_set _ _ (6) _ _ _ _ nd rfl (Or.inl rfl) (@pe_ix _ _ _ _ _ _ _ (ixL K) (pv 5) (@pe_op _ _ _ _ _ _ _ _ op_mod (@pe_call _ _ _ _ _ _ _ _ _ _ _ _ _ _ _ _ G9 hr rfl D9.m D9.F.kp D9.b .nil pass0 (@pa_cons _ _ _ _ _ (pv 0) (@pa_cons _ _ _ _ _ pe_int pa_nil (by rfl)) (by rfl)) (by decide) (by rfl) (by rfl)) pe_int) (fun _ _ => rfl)) (by rfl) (by first | exact .inl rfl | exact .inr rfl | assumption)) (@pss_cons _ _ _ _ _ (@ps_set _ _ (7) _ _ _ _ nd rfl (Or.inl rfl) (@pe_ix _ _ _ _ _ _ _ (ixL K) (pv 5) (@pe_op _ _ _ _ _ _ _ _ op_mod (@pe_op _ _ _ _ _ _ _ _ op_fdiv (@pe_call _ _ _ _ _ _ _ _ _ _ _ _ _ _ _ _ G9 hr rfl D9.m D9.F.kp D9.b .nil pass0 (@pa_cons _ _ _ _ _ (pv 0) (@pa_cons _ _ _ _ _ pe_int pa_nil (by rfl)) (by rfl)) (by decide) (by rfl) (by rfl)) pe_int) pe_int) (fun _ _ => rfl)) (by rfl) (by first | exact .inl rfl | exact .inr rfl | assumption)) (@pss_cons _ _ _ _ _ (@ps_for _ _ _ _ _ _ _ _ PassesOwn.never rfl (@pi_range2 _ _ _ _ _ _ _ rfl X.range (@pa_cons _ _ _ _ _ pe_int (@pa_cons _ _ _ _ _ (@pe_callB _ _ _ _ _ _ _ _ _ (call_min2 rfl) (by rfl) X.min b_min (@pa_cons _ _ _ _ _ (@pe_callB _ _ _ _ _ _ _ _ _ (lenK K) (by rfl) X.len b_len (@pa_cons _ _ _ _ _ (pv 0) pa_nil (by rfl)) (by decide) (by decide) (by rfl) (by rfl)) (@pa_cons _ _ _ _ _ pe_int pa_nil (by rfl)) (by rfl)) (by decide) (by decide) (by rfl) (by rfl)) pa_nil (by rfl)) (by rfl)) (by rfl) (by rfl)) (@pg_name _ _ (8) _ nd rfl (Or.inl rfl) (by first | exact .inl rfl | exact .inr rfl | assumption)) (@pss_cons _ _ _ _ _ (@ps_set _ _ (9) _ _ _ _ nd rfl (Or.inl rfl) (@pe_ix _ _ _ _ _ _ _ (ixL K) (pv 0) (pv 8) (fun _ _ => rfl)) (by rfl) (by first | exact .inl rfl | exact .inr rfl | assumption)) (@pss_consM _ _ _ _ _ (@ps_if _ _ _ _ _ _ _ _ (@pt_cmpR _ _ _ _ _ _ _ _ op_lt (@pe_op _ _ _ _ _ _ _ _ op_mod (pv 9) pe_int) pe_int (nomark _)) (@pss_cons _ _ _ _ _ (@ps_set _ _ (7) _ _ _ _ nd rfl (Or.inl rfl) (pv 6) (by rfl) (by first | exact .inl rfl | exact .inr rfl | assumption)) (@pss_one _ _ _ (@ps_set _ _ (6) _ _ _ _ nd rfl (Or.inl rfl) (@pe_ix _ _ _ _ _ _ _ (ixL K) (pv 5) (@pe_op _ _ _ _ _ _ _ _ op_mod (@pe_op _ _ _ _ _ _ _ _ op_fdiv (pv 9) pe_int) pe_int) (fun _ _ => rfl)) (by rfl) (by first | exact .inl rfl | exact .inr rfl | assumption)))) (@pss_one _ _ _ (@ps_set _ _ (6) _ _ _ _ nd rfl (Or.inl rfl) (@pe_call _ _ _ _ _ _ _ _ _ _ _ _ _ _ _ _ GN hr rfl DN.m DN.F.kp DN.b .nil pass0 (@pa_cons _ _ _ _ _ (pv 9) (@pa_cons _ _ _ _ _ (@pe_call _ _ _ _ _ _ _ _ _ _ _ _ _ _ _ _ GM hr rfl DM.m DM.F.kp DM.b .nil pass0 (@pa_cons _ _ _ _ _ (@pe_op _ _ _ _ _ _ _ _ op_add (@pe_op _ _ _ _ _ _ _ _ op_mul pe_int (pv 9)) (pv 8)) pa_nil (by rfl)) (by decide) (by rfl) (by rfl)) (@pa_cons _ _ _ _ _ (pv 6) (@pa_cons _ _ _ _ _ (pv 7) (@pa_cons _ _ _ _ _ (@pe_call _ _ _ _ _ _ _ _ _ _ _ _ _ _ _ _ GF hr rfl DF.m DF.F.kp DF.b .nil pass0 (@pa_cons _ _ _ _ _ (pv 1) (@pa_cons _ _ _ _ _ (pv 8) pa_nil (by rfl)) (by rfl)) (by decide) (by rfl) (by rfl)) pa_nil (by rfl)) (by rfl)) (by rfl)) (by rfl)) (by rfl)) (by decide) (by rfl) (by rfl)) (by rfl) (by first | exact .inl rfl | exact .inr rfl | assumption)))) (@pss_one _ _ _ (@ps_if _ _ _ _ _ _ _ _ (PW.pt (@pw_or _ _ _ _ _ _ _ (@pt_cmpR _ _ _ _ _ _ _ _ op_gt (@pe_ix _ _ _ _ _ _ _ (ixT K) (pv 6) pe_int (fun _ _ => rfl)) pe_int (nomark _)) (@pw_or1 _ _ _ _ (@pt_cmpR _ _ _ _ _ _ _ _ op_gt (@pe_ix _ _ _ _ _ _ _ (ixT K) (pv 6) pe_int (fun _ _ => rfl)) pe_int (nomark _))))) (@pss_one _ _ _ (@ps_set _ _ (6) _ _ _ _ nd rfl (Or.inl rfl) (@pe_ix _ _ _ _ _ _ _ (ixL K) (pv 5) (@pe_op _ _ _ _ _ _ _ _ op_mod (@pe_op _ _ _ _ _ _ _ _ op_fdiv (pv 9) pe_int) pe_int) (fun _ _ => rfl)) (by rfl) (by first | exact .inl rfl | exact .inr rfl | assumption))) pss_nil)))) (by intro _; rfl)) (@pss_cons _ _ _ _ _ (@ps_for _ _ _ _ _ _ _ _ PassesOwn.never rfl (@pi_list _ _ _ _ (@pe_lstS _ _ _ _ (@pa_cons _ _ _ _ _ (pv 6) (@pa_cons _ _ _ _ _ (pv 7) pa_nil (by rfl)) (by rfl)))) (@pg_name _ _ (10) _ nd rfl (Or.inl rfl) (by first | exact .inl rfl | exact .inr rfl | assumption)) (@pss_cons _ _ _ _ _ (@ps_set _ _ (11) _ _ _ _ nd rfl (Or.inl rfl) (@pe_lstS _ _ _ _ (@pa_cons _ _ _ _ _ (@pe_callTy _ _ _ _ _ _ _ _ _ call_dcopy rfl X.dict b_dict (@pa_cons _ _ _ _ _ (pv 2) pa_nil (by rfl)) (by decide) (by decide) (by rfl) (by rfl)) (@pa_cons _ _ _ _ _ (@pe_callTy _ _ _ _ _ _ _ _ _ call_dcopy rfl X.dict b_dict (@pa_cons _ _ _ _ _ (pv 3) pa_nil (by rfl)) (by decide) (by decide) (by rfl) (by rfl)) pa_nil (by rfl)) (by rfl))) (by rfl) (by first | exact .inl rfl | exact .inr rfl | assumption)) (@pss_cons _ _ _ _ _ (@ps_set _ _ (12) _ _ _ _ nd rfl (Or.inl rfl) (@pe_call _ _ _ _ _ _ _ _ _ _ _ _ _ _ _ _ GL hr rfl DL.m DL.F.kp DL.b .nil pass0 (@pa_cons _ _ _ _ _ (@pe_ix _ _ _ _ _ _ _ (ixT K) (pv 10) pe_int (fun _ _ => rfl)) (@pa_cons _ _ _ _ _ (@pe_ix _ _ _ _ _ _ _ (ixL K) (pv 11) pe_int (fun _ _ => rfl)) pa_nil (by rfl)) (by rfl)) (by decide) (by rfl) (by rfl)) (by rfl) (by first | exact .inl rfl | exact .inr rfl | assumption)) (@pss_cons _ _ _ _ _ (@ps_set _ _ (13) _ _ _ _ nd rfl (Or.inl rfl) (@pe_call _ _ _ _ _ _ _ _ _ _ _ _ _ _ _ _ GS hr rfl DS.m DS.F.kp DS.b .nil pass0 (@pa_cons _ _ _ _ _ (@pe_ix _ _ _ _ _ _ _ (ixT K) (pv 10) pe_int (fun _ _ => rfl)) (@pa_cons _ _ _ _ _ (@pe_ix _ _ _ _ _ _ _ (ixL K) (pv 11) pe_int (fun _ _ => rfl)) pa_nil (by rfl)) (by rfl)) (by decide) (by rfl) (by rfl)) (by rfl) (by first | exact .inl rfl | exact .inr rfl | assumption)) (@pss_cons _ _ _ _ _ (@ps_if _ _ _ _ _ _ _ _ (PW.pt (@pw_or _ _ _ _ _ _ _ (@pt_not _ _ _ _ (@pt_val _ _ _ (@pe_call _ _ _ _ _ _ _ _ _ _ _ _ _ _ _ _ GB hr rfl DB.m DB.F.kp DB.b .nil pass0 (@pa_cons _ _ _ _ _ (pv 12) pa_nil (by rfl)) (by decide) (by rfl) (by rfl)) (by intro _; rfl))) (@pw_or _ _ _ _ _ _ _ (@pt_cmpR _ _ _ _ _ _ _ _ op_ne (pv 12) (@pe_ix _ _ _ _ _ _ _ (ixT K) (pv 10) pe_int (fun _ _ => rfl)) (nomark _)) (@pw_or _ _ _ _ _ _ _ (@pt_not _ _ _ _ (@pt_val _ _ _ (@pe_call _ _ _ _ _ _ _ _ _ _ _ _ _ _ _ _ GB hr rfl DB.m DB.F.kp DB.b .nil pass0 (@pa_cons _ _ _ _ _ (pv 13) pa_nil (by rfl)) (by decide) (by rfl) (by rfl)) (by intro _; rfl))) (@pw_or1 _ _ _ _ (@pt_cmpR _ _ _ _ _ _ _ _ op_ne (pv 13) (@pe_ix _ _ _ _ _ _ _ (ixT K) (pv 10) pe_int (fun _ _ => rfl)) (nomark _))))))) (@pss_one _ _ _ (@ps_ret _ _ _ _ pe_bl)) pss_nil) (@pss_one _ _ _ (@ps_if _ _ _ _ _ _ _ _ (@pt_cmpR _ _ _ _ _ _ _ _ (op_neDs (hu_of hr)) (pv 11) (@pe_lstS _ _ _ _ (@pa_cons _ _ _ _ _ (pv 2) (@pa_cons _ _ _ _ _ (pv 3) pa_nil (by rfl)) (by rfl))) (nomark _)) (@pss_one _ _ _ (@ps_ret _ _ _ _ pe_bl)) pss_nil)))))) (by intro _; rfl)) (@pss_one _ _ _ (@ps_ret _ _ _ _ (@pe_call _ _ _ _ _ _ _ _ _ _ _ _ _ _ _ _ GK hr rfl DK.m DK.F.kp DK.b .nil pass0 (@pa_cons _ _ _ _ _ (pv 1) (@pa_cons _ _ _ _ _ (@pe_call _ _ _ _ _ _ _ _ _ _ _ _ _ _ _ _ G9 hr rfl D9.m D9.F.kp D9.b .nil pass0 (@pa_cons _ _ _ _ _ (pv 0) (@pa_cons _ _ _ _ _ pe_int pa_nil (by rfl)) (by rfl)) (by decide) (by rfl) (by rfl)) pa_nil (by rfl)) (by rfl)) (by decide) (by rfl) (by rfl))))))))))))), ?_⟩
    first | refine wV rfl ?_ | refine ⟨_, rfl, ?_⟩
    refine ⟨a, ns, 0, rfl, hS, _, rfl, fun ln H1 zs e1 hzs hln => ?_⟩
    have hS1 := e1.seq hS
    refine fun aw haw => ?_
    have f1 : Same H1 (upd H1 aw (.dK [])) := (Same.refl H1).upd haw
    have g1 : (upd H1 aw (.dK [])) aw = some (.dK []) := upd_same
    generalize upd H1 aw (.dK []) = H2 at f1 g1 ⊢
    refine fun as_ has => ?_
    have has1 : H1 as_ = none := f1.free has
    have hne : aw ≠ as_ := ne_of_none g1 has
    have f2 : Same H1 (upd H2 as_ (.dK [])) := f1.trans ((Same.refl H2).upd has)
    have g2 : (upd H2 as_ (.dK [])) as_ = some (.dK []) := upd_same
    have g3 : (upd H2 as_ (.dK [])) aw = some (.dK []) := by rw [upd_ne hne]; exact g1
    generalize upd H2 as_ (.dK []) = H3 at f2 g2 g3 ⊢
    clear f1 g1 has
    obtain ⟨hz4, Ln, hL1, hL5, hz⟩ := id hzs
    refine ⟨(4 : Nat), rfl, by decide, by decide, for_range (lo := 0) (n := 4) (fun j σ' H' => ∃ (x4 : Option V) (kw ks : List (Key × V)) (E : Env), σ' = [some (.ref a), some (.ref ln), some (.ref aw), some (.ref as_), x4, none, none, none, none, none, none, none, none, none] ∧ Same H1 H' ∧ H' aw = some (.dK kw) ∧ H' as_ = some (.dK ks) ∧ DkE kw E (·.1) ∧ DkE ks E (·.2) ∧ AllInt kw ∧ AllInt ks ∧ kw.length ≤ j ∧ ks.length ≤ j ∧ (∀ x p, E x = some p → x ∈ zs ∧ 1 ≤ p.1 ∧ p.1 ≤ 12) ∧ ∀ i z, i < j → zs[i]? = some z → E z ≠ none)
      ⟨none, [], [], fun _ => none, rfl, f2, g3, g2, fun _ => rfl, fun _ => rfl, nofun, nofun, Nat.le_refl _, Nat.le_refl _, nofun, fun i z hi => absurd hi (Nat.not_lt_zero _)⟩ ?_ ?_⟩
    · rintro j σ' H4 hj ⟨x4, kw, ks, E, rfl, s4, hw, hs, dw, ds, aiw, ais, lw, ls, hE1, hE2⟩
      have hjz : zs[j]? = some (zs[j]'(by omega)) := List.getElem?_eq_getElem (by omega)
      generalize zs[j]'(by omega) = z at hjz
      have hzm := List.mem_of_getElem? hjz
      have hat : atI (zs.map V.str) (0 + (j : Int)) = some (.str z) := by rw [Int.zero_add]; exact atI_nat (by rw [List.getElem?_map, hjz]; rfl)
      have hS4 := s4.seq hS1
      have c0 := Int.emod_nonneg (ns.getD (1 + j) 0) (show (12 : Int) ≠ 0 by decide)
      have c1 := Int.emod_lt_of_pos (ns.getD (1 + j) 0) (show (0 : Int) < 12 by decide)
      first | refine wV rfl ?_ | refine ⟨_, rfl, ?_⟩
      first | refine wV rfl ?_ | refine ⟨_, rfl, ?_⟩
      first | refine wI ?_ | refine wIc ?_ | refine ⟨_, _, rfl, rfl, ?_⟩
      refine ⟨a, ns, 1 + j, (by show [V.ref a, V.int (1 + (0 + (j : Int)))] = [V.ref a, V.int (((1 + j : Nat)) : Int)]; congr 3; omega), hS4, _, _, rfl, rfl, (show (0 : Int) < 12 by decide), _, _, rfl, rfl, _, rfl, _, rfl, _, rfl, ln, _, _, .str z, rfl, rfl, SqL.of (s4 _ _ hln), hat, aw, _, rfl, DPut.k (k := .inr z) hw (small1000 (by omega)), ?_⟩
      have s5 : Same H1 (upd H4 aw (.dK (putK kw (.inr z) (.int (1 + ns.getD (1 + j) 0 % 12))))) := fun b o e => by rw [upd_ne (ne_of_none e haw)]; exact s4 _ _ e
      have hw5 : (upd H4 aw (.dK (putK kw (.inr z) (.int (1 + ns.getD (1 + j) 0 % 12))))) aw = some (.dK (putK kw (.inr z) (.int (1 + ns.getD (1 + j) 0 % 12)))) := upd_same
      have hs5 : (upd H4 aw (.dK (putK kw (.inr z) (.int (1 + ns.getD (1 + j) 0 % 12))))) as_ = some (.dK ks) := by rw [upd_ne (Ne.symm hne)]; exact hs
      generalize upd H4 aw (.dK (putK kw (.inr z) (.int (1 + ns.getD (1 + j) 0 % 12)))) = H5 at s5 hw5 hs5 ⊢
      have hS5 := s5.seq hS1
      first | refine wV rfl ?_ | refine ⟨_, rfl, ?_⟩
      first | refine wV rfl ?_ | refine ⟨_, rfl, ?_⟩
      first | refine wI ?_ | refine wIc ?_ | refine ⟨_, _, rfl, rfl, ?_⟩
      refine ⟨a, ns, 1 + j, (by show [V.ref a, V.int (1 + (0 + (j : Int)))] = [V.ref a, V.int (((1 + j : Nat)) : Int)]; congr 3; omega), hS5, _, _, rfl, rfl, ⟨by decide, by decide⟩, _, _, rfl, rfl, (show (0 : Int) < 200 by decide), _, _, rfl, rfl, _, rfl, _, rfl, _, rfl, ln, _, _, .str z, rfl, rfl, SqL.of (s5 _ _ hln), hat, as_, _, rfl, DPut.k (k := .inr z) hs5 (small1000 (by omega)), ?_⟩
      refine ⟨_, _, _, E.put z (1 + ns.getD (1 + j) 0 % 12, 1 + ns.getD (1 + j) 0 / 12 % 200), rfl, fun b o e => ?_, ?_, upd_same, dw.put z _ rfl, ds.put z _ rfl, allInt_put aiw, allInt_put ais, ?_, ?_, fun x p hx => ?_, fun i y hi hy => ?_⟩
      · rw [upd_ne (ne_of_none e has1)]; exact s5 _ _ e
      · rw [upd_ne hne]; exact hw5
      · exact Nat.le_trans (length_putK _ _ _) (by omega)
      · exact Nat.le_trans (length_putK _ _ _) (by omega)
      · unfold Env.put at hx
        split at hx
        · rename_i hxz
          subst hxz
          cases hx
          refine ⟨hzm, by omega, ?_⟩
          refine by omega
        · exact hE1 x p hx
      · unfold Env.put
        by_cases hyz : y = z
        · rw [if_pos hyz]; nofun
        · rw [if_neg hyz]
          refine hE2 i y ?_ hy
          rcases Nat.lt_or_ge i j with h | h
          · exact h
          · have : i = j := by omega
            subst this
            rw [hjz] at hy
            cases hy
            exact absurd rfl hyz
    · rintro σ' H4 ⟨x4, kw, ks, E0, rfl, s4, hw, hs, dw, ds, aiw, ais, lw, ls, hE1, hE2⟩
      have hE3 : ∀ z ∈ zs, ∃ p, E0 z = some p ∧ 1 ≤ p.1 ∧ p.1 ≤ 12 := fun z hz' => by
        obtain ⟨i, hi⟩ := List.getElem?_of_mem hz'
        have hlt := (List.getElem?_eq_some_iff.mp hi).1
        cases e : E0 z with
        | none => exact absurd e (hE2 i z (by omega) hi)
        | some p => exact ⟨p, rfl, (hE1 z p e).2⟩
      obtain ⟨z0, hz0⟩ : ∃ z0, zs[0]? = some z0 := ⟨zs[0]'(by omega), List.getElem?_eq_getElem (by omega)⟩
      have hzl : ∀ z ∈ zs, z.length = z0.length := fun z hz' => (hz z hz').1.trans (hz z0 (List.mem_of_getElem? hz0)).1.symm
      have hz0l : z0.length = Ln := (hz z0 (List.mem_of_getElem? hz0)).1
      have hS4 := s4.seq hS1
      have hln4 := s4 _ _ hln
      clear hE2 g2 g3 f2 hS1 hln
      first | refine wV rfl ?_ | refine ⟨_, rfl, ?_⟩
      refine ⟨ln, rfl, ⟨_, SqL.of hln4⟩, ?_⟩
      refine fun lt hlt => ?_
      refine comp_L (K := K) hln4 (fun σ => ∃ x, σ = [x, some (.ref as_), some (.ref aw)]) (fun i y H => ∃ r w', y = .ref r ∧ Rc H (CEnv zs z0 E0 0) r w' 0) (fun _ _ _ _ z ⟨r, w', h1, h2⟩ => ⟨r, w', h1, h2.same z⟩) (by rw [List.length_map]; omega) hlt ⟨_, rfl⟩ ?_ ?_
      · rintro CC i σ H5 x ex s5 ⟨x1, rfl⟩ kk
        have hm := List.mem_of_getElem? ex
        rw [List.mem_map] at hm
        obtain ⟨z, hz', rfl⟩ := hm
        obtain ⟨p, hp, hp1, hp2⟩ := hE3 z hz'
        first | refine wV rfl ?_ | refine ⟨_, rfl, ?_⟩
        refine ⟨l4 rfl, ?_⟩
        refine fun tn H6 s6 e6 => ?_
        have gw := DGet.k (k := .inr z) (s6 _ _ (s5 _ _ hw))
        rw [dw z, hp] at gw
        have gs := DGet.k (k := .inr z) (s6 _ _ (s5 _ _ hs))
        rw [ds z, hp] at gs
        first | refine wV rfl ?_ | refine ⟨_, rfl, ?_⟩
        first | refine wV rfl ?_ | refine ⟨_, rfl, ?_⟩
        refine ⟨aw, _, rfl, gw, _, rfl, _, rfl, as_, _, rfl, gs, l4 rfl, fun t H7 s7 e7 => ?_⟩
        exact kk _ _ _ (s6.trans s7) ⟨_, rfl⟩ ⟨t, p.1, rfl, .ref tn, p.2, 9, e7, hp1, hp2, Int.le_refl _, fun E hE => Vw.name (s7 _ _ e6) ((hE.1 z hz').trans hp) hp2⟩
      · intro H5 ys s5 e5 hyl hyr
        rw [List.length_map, hz4] at hyl
        have hys : ∀ y ∈ ys, ∃ r w', y = V.ref r ∧ Rc H5 (CEnv zs z0 E0 0) r w' 0 := all_of hyr
        have hS5 := s5.seq hS4
        obtain ⟨y1, hy1, my1⟩ := pick4 hyl (ns.getD 5 0)
        obtain ⟨y2, hy2, my2⟩ := pick4 hyl (ns.getD 5 0 / 4)
        obtain ⟨r1, w1, rfl, hR1⟩ := hys y1 my1
        obtain ⟨r2, w2, rfl, hR2⟩ := hys y2 my2
        first | refine wV rfl ?_ | refine ⟨_, rfl, ?_⟩
        first | refine wV rfl ?_ | refine ⟨_, rfl, ?_⟩
        refine ⟨a, ns, 5, rfl, hS5, _, _, rfl, rfl, (show (0 : Int) < 4 by decide), lt, ys, _, _, rfl, rfl, SqL.of e5, hy1, ?_⟩
        first | refine wV rfl ?_ | refine ⟨_, rfl, ?_⟩
        first | refine wV rfl ?_ | refine ⟨_, rfl, ?_⟩
        refine ⟨a, ns, 5, rfl, hS5, _, _, rfl, rfl, ⟨by decide, by decide⟩, _, _, rfl, rfl, (show (0 : Int) < 4 by decide), lt, ys, _, _, rfl, rfl, SqL.of e5, hy2, ?_⟩
        have hw5 := s5 _ _ hw
        have hs5 := s5 _ _ hs
        have hln5 := s5 _ _ hln4
        have hC0 : ∀ n E, CEnv zs z0 E0 n E → CEnv zs z0 E0 0 E := fun n E h => ⟨h.1, fun j hj => absurd hj (Nat.not_lt_zero _)⟩
        clear hy1 hy2 my1 my2 hlt s5 hyr hln4 hS4 hw hs s4 hS hE3
        have hmin : (if (63 : Int) < ((ns.map V.int).length : Int) then (63 : Int) else ((ns.map V.int).length : Int)) = (ns.length : Int) := by rw [List.length_map, if_neg (by omega)]
        first | refine wV rfl ?_ | refine ⟨_, rfl, ?_⟩
        refine ⟨a, _, rfl, .inl hS5, _, _, rfl, 6, (ns.length : Int), congrArg (fun z => [V.int 6, V.int z]) hmin, ⟨by decide, by decide, by omega, by omega⟩, ?_⟩
        refine for_range (lo := 6) (n := ((ns.length : Int) - 6).toNat) (fun i σ' H' => ∃ (r1 r2 : Addr) (w1 d1 w2 d2 : Int) (x8 x9 : Option V), σ' = [some (.ref a), some (.ref ln), some (.ref aw), some (.ref as_), x4, some (.ref lt), some (.ref r1), some (.ref r2), x8, x9, none, none, none, none] ∧ Same H5 H' ∧ Rc H' (CEnv zs z0 E0 (6 + i)) r1 w1 d1 ∧ d1 ≤ 26 ∧ Rc H' (CEnv zs z0 E0 (6 + i)) r2 w2 d2 ∧ d2 ≤ 26)
          ⟨r1, r2, w1, 0, w2, 0, none, none, rfl, Same.refl H5, hR1.imp (hC0 _), by decide, hR2.imp (hC0 _), by decide⟩ ?_ ?_
        · clear hR1 hR2
          rintro i σ' H6 hi ⟨r1, r2, w1, d1, w2, d2, x8, x9, rfl, s6, hR1, hd1, hR2, hd2⟩
          have hik : 6 + i < ns.length := by omega
          have hNC := newC (zs := zs) (z0 := z0) (E0 := E0) (k := 6 + i) (by omega) hzl
          have hk6 : atI (ns.map V.int) (6 + (i : Int)) = some (.int (ns[6 + i])) := by
            have e : (6 + (i : Int)) = ((6 + i : Nat) : Int) := by omega
            rw [e]
            exact atI_nat (by rw [List.getElem?_map, List.getElem?_eq_getElem hik]; rfl)
          generalize ns[6 + i] = c at hk6
          have e56 := s6 _ _ e5
          have tabs : ∀ H', Same H5 H' → ∀ n, ∃ y r w', atI ys (c / 18 % 4) = some y ∧ y = V.ref r ∧ Rc H' (CEnv zs z0 E0 n) r w' 0 := fun H' s' n => by
            obtain ⟨y, hy, my⟩ := pick4 hyl (c / 18)
            obtain ⟨r, w', rfl, hR⟩ := hys y my
            refine ⟨_, r, w', hy, rfl, (hR.same s'.t).imp (hC0 n)⟩
          first | refine wV rfl ?_ | refine ⟨_, rfl, ?_⟩
          first | refine wV rfl ?_ | refine ⟨_, rfl, ?_⟩
          refine ⟨a, _, _, _, rfl, rfl, s6.seq hS5, hk6, ?_⟩
          refine ⟨fun σ' H' => ∃ (r1 r2 : Addr) (w1 d1 w2 d2 : Int), σ' = [some (.ref a), some (.ref ln), some (.ref aw), some (.ref as_), x4, some (.ref lt), some (.ref r1), some (.ref r2), some (.int (6 + (i : Int))), some (.int c), none, none, none, none] ∧ Same H5 H' ∧ Rc H' (CEnv zs z0 E0 (6 + (i + 1))) r1 w1 d1 ∧ Rc H' (CEnv zs z0 E0 (6 + (i + 1))) r2 w2 d2 ∧ d2 ≤ 26, ⟨_, rfl, _, _, rfl, rfl, (show (0 : Int) < 18 by decide), _, _, rfl, rfl, _, rfl, ite2 (fun hlt => ?_) (fun hge => ?_)⟩, ?_⟩
          · obtain ⟨y, r, w', hy, rfl, hR⟩ := tabs H6 s6 (6 + (i + 1))
            first | refine wV rfl ?_ | refine ⟨_, rfl, ?_⟩
            first | refine wV rfl ?_ | refine ⟨_, rfl, ?_⟩
            first | refine wV rfl ?_ | refine ⟨_, rfl, ?_⟩
            first | refine wC ⟨by decide, by decide⟩ ?_ | refine wCc ⟨by decide, by decide⟩ ?_ | refine ⟨_, _, rfl, rfl, ⟨by decide, by decide⟩, ?_⟩
            first | refine wC (show (0 : Int) < 4 by decide) ?_ | refine wCc (show (0 : Int) < 4 by decide) ?_ | refine ⟨_, _, rfl, rfl, (show (0 : Int) < 4 by decide), ?_⟩
            refine ⟨lt, ys, _, _, rfl, rfl, SqL.of e56, hy, r, r1, w', 0, w1, d1, rfl, s6, hR, hR1.imp hNC.sub, hd1⟩
          · have hc : 2 ≤ c % 18 := by
              have : ¬ c % 18 < 2 := fun z => hge (decide_eq_true z)
              omega
            first | refine wV rfl ?_ | refine ⟨_, rfl, ?_⟩
            first | refine wV rfl ?_ | refine ⟨_, rfl, ?_⟩
            first | refine wC (.inl ⟨by decide, by decide⟩) ?_ | refine wCc (.inl ⟨by decide, by decide⟩) ?_ | refine ⟨_, _, rfl, rfl, .inl ⟨by decide, by decide⟩, ?_⟩
            first | refine wV rfl ?_ | refine ⟨_, rfl, ?_⟩
            first | refine wI ?_ | refine wIc ?_ | refine ⟨_, _, rfl, rfl, ?_⟩
            first | refine wV rfl ?_ | refine ⟨_, rfl, ?_⟩
            refine fun mx => ?_
            first | refine wV rfl ?_ | refine ⟨_, rfl, ?_⟩
            first | refine wV rfl ?_ | refine ⟨_, rfl, ?_⟩
            first | refine wV rfl ?_ | refine ⟨_, rfl, ?_⟩
            first | refine wV rfl ?_ | refine ⟨_, rfl, ?_⟩
            refine ⟨ln, zs, z0, 6 + i, (by show [V.ref ln, V.int (6 + (i : Int))] = [V.ref ln, V.int ((6 + i : Nat) : Int)]; congr 3), s6 _ _ hln5, hz0, by omega, ?_⟩
            refine ⟨c, mx, r1, r2, fresh z0 (6 + i), CEnv zs z0 E0 (6 + i), CEnv zs z0 E0 (6 + i + 1), w1, d1, w2, d2, rfl, hc, hR1, hR2, by rw [len_fresh]; omega, hNC, ?_⟩
            refine fun r' w' d' H' s' hR' => ?_
            refine ⟨r', r2, w', d', w2, d2, rfl, s6.trans s', hR', (hR2.same s'.t).imp hNC.sub, ?_⟩
            refine hd2
          · clear hR1 hR2 hd1 hd2
            rintro _ H7 ⟨r1, r2, w1, d1, w2, d2, rfl, s7, hR1, hR2, hd2⟩
            have e57 := s7 _ _ e5
            obtain ⟨y, r, w', hy, rfl, hRt⟩ := tabs H7 s7 (6 + (i + 1))
            obtain ⟨v, sz, sg, hrr, h1, h2, h3, hv⟩ := id hR1
            first | refine wT rfl (SqT.of hrr) rfl ?_ | refine ⟨_, rfl, r1, _, _, _, rfl, rfl, SqT.of hrr, rfl, ?_⟩
            first | refine wI ?_ | refine wIc ?_ | refine ⟨_, _, rfl, rfl, ?_⟩
            first | refine wV rfl ?_ | refine ⟨_, rfl, ?_⟩
            refine ite2 (fun _ => iteT ?_) (fun _ => ?_)
            · first | refine wV rfl ?_ | refine ⟨_, rfl, ?_⟩
              first | refine wV rfl ?_ | refine ⟨_, rfl, ?_⟩
              first | refine wC ⟨by decide, by decide⟩ ?_ | refine wCc ⟨by decide, by decide⟩ ?_ | refine ⟨_, _, rfl, rfl, ⟨by decide, by decide⟩, ?_⟩
              first | refine wC (show (0 : Int) < 4 by decide) ?_ | refine wCc (show (0 : Int) < 4 by decide) ?_ | refine ⟨_, _, rfl, rfl, (show (0 : Int) < 4 by decide), ?_⟩
              refine ⟨lt, ys, _, _, rfl, rfl, SqL.of e57, hy, r, r2, w', 0, w2, d2, _, _, rfl, s7, hRt, by decide, hR2, hd2⟩
            · first | refine wT rfl (SqT.of hrr) rfl ?_ | refine ⟨_, rfl, r1, _, _, _, rfl, rfl, SqT.of hrr, rfl, ?_⟩
              first | refine wI ?_ | refine wIc ?_ | refine ⟨_, _, rfl, rfl, ?_⟩
              first | refine wV rfl ?_ | refine ⟨_, rfl, ?_⟩
              refine ite2 (fun _ => ?_) (fun hle => ?_)
              · first | refine wV rfl ?_ | refine ⟨_, rfl, ?_⟩
                first | refine wV rfl ?_ | refine ⟨_, rfl, ?_⟩
                first | refine wC ⟨by decide, by decide⟩ ?_ | refine wCc ⟨by decide, by decide⟩ ?_ | refine ⟨_, _, rfl, rfl, ⟨by decide, by decide⟩, ?_⟩
                first | refine wC (show (0 : Int) < 4 by decide) ?_ | refine wCc (show (0 : Int) < 4 by decide) ?_ | refine ⟨_, _, rfl, rfl, (show (0 : Int) < 4 by decide), ?_⟩
                refine ⟨lt, ys, _, _, rfl, rfl, SqL.of e57, hy, r, r2, w', 0, w2, d2, _, _, rfl, s7, hRt, by decide, hR2, hd2⟩
              · have hd : d1 ≤ 26 := by
                  have : ¬ (26 : Int) < d1 := fun z => hle (decide_eq_true z)
                  omega
                refine ⟨r1, r2, w1, d1, w2, d2, _, _, rfl, s7, hR1, hd, hR2, hd2⟩
        · clear hR1 hR2
          rintro σ' H6 ⟨r1, r2, w1, d1, w2, d2, x8, x9, rfl, s6, hR1, hd1, hR2, hd2⟩
          generalize 6 + ((ns.length : Int) - 6).toNat = n6 at hR1 hR2
          have hCE : CEnv zs z0 E0 n6 E0 := ⟨fun _ _ => rfl, fun j _ => by
            have out : ∀ x : Str, z0.length < x.length → E0 x = none := fun x hx => by
              cases e : E0 x with
              | none => rfl
              | some p =>
                have := hzl x (hE1 x p e).1
                omega
            exact ⟨out _ (by rw [len_fresh]; omega), out _ (by rw [len_cat, len_fresh]; omega)⟩⟩
          first | refine wV rfl ?_ | refine ⟨_, rfl, ?_⟩
          first | refine wV rfl ?_ | refine ⟨_, rfl, ?_⟩
          refine ⟨l4 rfl, ?_⟩
          refine fun lm H7 s7 e7 => ?_
          refine ⟨lm, rfl, ⟨_, SqL.of e7⟩, ?_⟩
          have recs : ∀ x ∈ [V.ref r1, V.ref r2], ∃ (r : Addr) (v : V) (w' sz sg d : Int), x = .ref r ∧ H7 r = some (.tup [v, .int w', .int sz, .int sg, .int d]) ∧ Vw 27 H7 E0 v w' sz := fun x hx => by
            simp only [List.mem_cons, List.not_mem_nil, or_false] at hx
            rcases hx with rfl | rfl
            · obtain ⟨v, sz, sg, hr', _, _, h3, hv⟩ := hR1.same s7.t
              refine ⟨r1, v, w1, sz, sg, d1, rfl, hr', ?_⟩
              refine (hv E0 hCE).mono (by omega)
            · obtain ⟨v, sz, sg, hr', _, _, h3, hv⟩ := hR2.same s7.t
              refine ⟨r2, v, w2, sz, sg, d2, rfl, hr', ?_⟩
              refine (hv E0 hCE).mono (by omega)
          have hw7 := s7 _ _ (s6 _ _ hw5)
          have hs7 := s7 _ _ (s6 _ _ hs5)
          refine for_list (K := K) (a := lm) (xs := [.ref r1, .ref r2]) (fun i σ' H' => ∃ y10 y11 y12 y13, σ' = [some (.ref a), some (.ref ln), some (.ref aw), some (.ref as_), x4, some (.ref lt), some (.ref r1), some (.ref r2), x8, x9, y10, y11, y12, y13] ∧ Same H7 H') ⟨_, _, _, _, rfl, Same.refl _⟩ (fun i σ' H' _ ⟨_, _, _, _, _, z⟩ => SqL.of (z _ _ e7)) ?_ ?_
          · rintro i x σ' H8 ex ⟨y10, y11, y12, y13, rfl, s8⟩
            obtain ⟨r, v, w', sz, sg, d, rfl, hrr, hV⟩ := recs x (List.mem_of_getElem? ex)
            first | refine wV rfl ?_ | refine ⟨_, rfl, ?_⟩
            refine ⟨aw, kw, rfl, s8 _ _ hw7, ?_⟩
            refine fun p1 hp1 => ?_
            have s9 : Same H8 (upd H8 p1 (.dK kw)) := (Same.refl H8).upd hp1
            have g9 : (upd H8 p1 (.dK kw)) p1 = some (.dK kw) := upd_same
            generalize upd H8 p1 (.dK kw) = H9 at s9 g9 ⊢
            first | refine wV rfl ?_ | refine ⟨_, rfl, ?_⟩
            refine ⟨as_, ks, rfl, s9 _ _ (s8 _ _ hs7), ?_⟩
            refine fun p2 hp2 => ?_
            have sA : Same H9 (upd H9 p2 (.dK ks)) := (Same.refl H9).upd hp2
            have gA : (upd H9 p2 (.dK ks)) p2 = some (.dK ks) := upd_same
            generalize upd H9 p2 (.dK ks) = HA at sA gA ⊢
            refine ⟨l4 rfl, ?_⟩
            refine fun lh HB sB eB => ?_
            have s7B : Same H7 HB := s8.trans (s9.trans (sA.trans sB))
            have hrB := s7B _ _ hrr
            first | refine wT rfl (SqT.of hrB) rfl ?_ | refine ⟨_, rfl, r, _, _, _, rfl, rfl, SqT.of hrB, rfl, ?_⟩
            first | refine wL rfl (SqL.of eB) rfl ?_ | refine ⟨_, rfl, lh, _, _, _, rfl, rfl, SqL.of eB, rfl, ?_⟩
            refine ⟨v, w', sz, E0, p1, kw, rfl, hV.same s7B.t, sB _ _ (sA _ _ g9), dw, by omega, ?_⟩
            refine fun HC sC => ?_
            have hrC := sC _ _ hrB
            first | refine wT rfl (SqT.of hrC) rfl ?_ | refine ⟨_, rfl, r, _, _, _, rfl, rfl, SqT.of hrC, rfl, ?_⟩
            first | refine wL rfl (SqL.of (sC _ _ eB)) rfl ?_ | refine ⟨_, rfl, lh, _, _, _, rfl, rfl, SqL.of (sC _ _ eB), rfl, ?_⟩
            refine ⟨v, w', sz, E0, p2, ks, rfl, hV.same (s7B.trans sC).t, sC _ _ (sB _ _ gA), ds, by omega, ?_⟩
            refine fun HD sD => ?_
            have hrD := sD _ _ hrC
            first | refine wV rfl ?_ | refine ⟨_, rfl, ?_⟩
            refine ⟨w', rfl, true, rfl, ?_⟩
            refine iteF ?_
            first | refine wV rfl ?_ | refine ⟨_, rfl, ?_⟩
            first | refine wT rfl (SqT.of hrD) rfl ?_ | refine ⟨_, rfl, r, _, _, _, rfl, rfl, SqT.of hrD, rfl, ?_⟩
            refine ⟨rfl, ?_⟩
            first | refine wV rfl ?_ | refine ⟨_, rfl, ?_⟩
            refine iteQ (by simp) ?_
            first | refine wV rfl ?_ | refine ⟨_, rfl, ?_⟩
            refine ⟨sz, rfl, true, rfl, ?_⟩
            refine iteF ?_
            first | refine wV rfl ?_ | refine ⟨_, rfl, ?_⟩
            first | refine wT rfl (SqT.of hrD) rfl ?_ | refine ⟨_, rfl, r, _, _, _, rfl, rfl, SqT.of hrD, rfl, ?_⟩
            refine ⟨rfl, ?_⟩
            first | refine wV rfl ?_ | refine ⟨_, rfl, ?_⟩
            refine iteQ (by simp) ?_
            first | refine wV rfl ?_ | refine ⟨_, rfl, ?_⟩
            first | refine wV rfl ?_ | refine ⟨_, rfl, ?_⟩
            first | refine wV rfl ?_ | refine ⟨_, rfl, ?_⟩
            refine ⟨l4 rfl, ?_⟩
            refine fun lq HE sE eE => ?_
            have s7E : Same H7 HE := s7B.trans (sC.trans (sD.trans sE))
            have sBE : Same HB HE := sC.trans (sD.trans sE)
            refine ⟨lh, lq, p1, p2, aw, as_, kw, ks, rfl, rfl, sBE _ _ eB, eE, sBE _ _ (sB _ _ (sA _ _ g9)), s7E _ _ hw7, sBE _ _ (sB _ _ gA), s7E _ _ hs7, aiw, ais, _, rfl, iteF ⟨_, _, _, _, rfl, s7E⟩⟩
          · rintro σ' H8 ⟨y10, y11, y12, y13, rfl, s8⟩
            have s58 := s6.trans (s7.trans s8)
            first | refine wV rfl ?_ | refine ⟨_, rfl, ?_⟩
            first | refine wV rfl ?_ | refine ⟨_, rfl, ?_⟩
            refine ⟨a, ns, 6, rfl, s58.seq hS5, ln, zs, _, rfl, s58 _ _ hln5, hzs, fun H' _ => k H'⟩
end
end VK
namespace VK
open PySem PySem.Spec PyProof.Rows L2
theorem fn_mk {P : Program} {w : World} {K : PySem.W.Frag} {mg : Str → Option Value} {x : Str} {st : Stmt} {ps : List Str} {h : Heap} {f : Addr} {oc : Value} {od an : Option Addr} {osl : Array (Option Value)} {kV doc pm cdv ct : Value} (X : K.In h) (G : h.Ns mainGlobals mg)
    (a : PySem.W.nsIn K mainGlobals x = some (some (.ref f))) (l : K.lookup f = some ⟨oc, od, .func (PySem.W.fnOf x x (defArgs st) (defBody st) (defScope st) .none kV doc pm an cdv ct), osl⟩) (c : PySem.W.codeIn K cdv x = true) (k : PySem.W.keepIn K (.ref f) = true)
    (hb : ∀ (kV doc pm : Value) (an : Option Addr) (cdv ct : Value) (us : List Value), us.length = ps.length → bindArgs (PySem.W.fnOf x x (defArgs st) (defBody st) (defScope st) .none kV doc pm an cdv ct) ⟨us, []⟩ = pure (ps.zip us)) :
    Fn K mg x st ps f (PySem.W.fnOf x x (defArgs st) (defBody st) (defScope st) .none kV doc pm an cdv ct) :=
  have F := fun_mk (st := st) l c k
  ⟨F, F.binds hb, PySem.W.mg_of X G a⟩
theorem all_mk {tkm : Tok} {gaoo : Addr} {godoo : Option Addr} {gnoo : Nat} {gsloo : Array (Option Value)} {tkoo0 tkoo1 tkoo2 tkoo3 tkoo4 tkoo5 tkoo6 tkoo7 : Tok} {gapa : Addr} {godpa : Option Addr} {gnpa : Nat} {gslpa : Array (Option Value)} {tkpa0 tkpa1 tkpa2 : Tok} {gagr : Addr} {godgr : Option Addr} {gngr : Nat} {gslgr : Array (Option Value)} {tkgr0 tkgr1 tkgr2 tkgr3 : Tok} {gaof : Addr} {godof : Option Addr} {gnof : Nat} {gslof : Array (Option Value)} {tkof0 tkof1 tkof2 tkof3 : Tok} {l : PySem.W.OpenLaw} {w : World} {K : PySem.W.Frag} {h : Heap} {mg : Str → Option Value} {fa f1 f2 f3 f4 f5 f6 f7 f8 f9 f10 f11 f12 f13 f14 f15 f16 f17 f18 f19 f20 f21 f22 f23 f24 f25 f26 f27 f28 f29 f30 f31 f32 f33 f34  : Addr} (X : K.In h) (G : h.Ns mainGlobals mg) (hfa : mg "law" = some (.ref fa))
    {od1 an1 od2 an2 od3 an3 od4 an4 od5 an5 od6 an6 od7 an7 od8 an8 od9 an9 od10 an10 od11 an11 od12 an12 od13 an13 od14 an14 od15 an15 od16 an16 od17 an17 od18 an18 od19 an19 od20 an20 od21 an21 od22 an22 od23 an23 od24 an24 od25 an25 od26 an26 od27 an27 od28 an28 od29 an29 od30 an30 od31 an31 od32 an32 od33 an33 od34 an34  : Option Addr} {sl1 sl2 sl3 sl4 sl5 sl6 sl7 sl8 sl9 sl10 sl11 sl12 sl13 sl14 sl15 sl16 sl17 sl18 sl19 sl20 sl21 sl22 sl23 sl24 sl25 sl26 sl27 sl28 sl29 sl30 sl31 sl32 sl33 sl34  : Array (Option Value)} {oc1 kV1 dc1 pm1 ct1 oc2 kV2 dc2 pm2 ct2 oc3 kV3 dc3 pm3 ct3 oc4 kV4 dc4 pm4 ct4 oc5 kV5 dc5 pm5 ct5 oc6 kV6 dc6 pm6 ct6 oc7 kV7 dc7 pm7 ct7 oc8 kV8 dc8 pm8 ct8 oc9 kV9 dc9 pm9 ct9 oc10 kV10 dc10 pm10 ct10 oc11 kV11 dc11 pm11 ct11 oc12 kV12 dc12 pm12 ct12 oc13 kV13 dc13 pm13 ct13 oc14 kV14 dc14 pm14 ct14 oc15 kV15 dc15 pm15 ct15 oc16 kV16 dc16 pm16 ct16 oc17 kV17 dc17 pm17 ct17 oc18 kV18 dc18 pm18 ct18 oc19 kV19 dc19 pm19 ct19 oc20 kV20 dc20 pm20 ct20 oc21 kV21 dc21 pm21 ct21 oc22 kV22 dc22 pm22 ct22 oc23 kV23 dc23 pm23 ct23 oc24 kV24 dc24 pm24 ct24 oc25 kV25 dc25 pm25 ct25 oc26 kV26 dc26 pm26 ct26 oc27 kV27 dc27 pm27 ct27 oc28 kV28 dc28 pm28 ct28 oc29 kV29 dc29 pm29 ct29 oc30 kV30 dc30 pm30 ct30 oc31 kV31 dc31 pm31 ct31 oc32 kV32 dc32 pm32 ct32 oc33 kV33 dc33 pm33 ct33 oc34 kV34 dc34 pm34 ct34 cd1 cd2 cd3 cd4 cd5 cd6 cd7 cd8 cd9 cd10 cd11 cd12 cd13 cd14 cd15 cd16 cd17 cd18 cd19 cd20 cd21 cd22 cd23 cd24 cd25 cd26 cd27 cd28 cd29 cd30 cd31 cd32 cd33 cd34  : Value}
    (a1 : PySem.W.nsIn K mainGlobals "_law_cell_at" = some (some (.ref f1))) (l1 : K.lookup f1 = some ⟨oc1, od1, .func (PySem.W.fnOf "_law_cell_at" "_law_cell_at" (defArgs sCellAt) (defBody sCellAt) (defScope sCellAt) .none kV1 dc1 pm1 an1 cd1 ct1), sl1⟩) (e1 : PySem.W.codeIn K cd1 "_law_cell_at" = true) (k1 : PySem.W.keepIn K (.ref f1) = true)
    (a2 : PySem.W.nsIn K mainGlobals "_law_whole" = some (some (.ref f2))) (l2 : K.lookup f2 = some ⟨oc2, od2, .func (PySem.W.fnOf "_law_whole" "_law_whole" (defArgs sWhole) (defBody sWhole) (defScope sWhole) .none kV2 dc2 pm2 an2 cd2 ct2), sl2⟩) (e2 : PySem.W.codeIn K cd2 "_law_whole" = true) (k2 : PySem.W.keepIn K (.ref f2) = true)
    (a3 : PySem.W.nsIn K mainGlobals "_law_mixed" = some (some (.ref f3))) (l3 : K.lookup f3 = some ⟨oc3, od3, .func (PySem.W.fnOf "_law_mixed" "_law_mixed" (defArgs sMixed) (defBody sMixed) (defScope sMixed) .none kV3 dc3 pm3 an3 cd3 ct3), sl3⟩) (e3 : PySem.W.codeIn K cd3 "_law_mixed" = true) (k3 : PySem.W.keepIn K (.ref f3) = true)
    (a4 : PySem.W.nsIn K mainGlobals "_law_names" = some (some (.ref f4))) (l4 : K.lookup f4 = some ⟨oc4, od4, .func (PySem.W.fnOf "_law_names" "_law_names" (defArgs sNames) (defBody sNames) (defScope sNames) .none kV4 dc4 pm4 an4 cd4 ct4), sl4⟩) (e4 : PySem.W.codeIn K cd4 "_law_names" = true) (k4 : PySem.W.keepIn K (.ref f4) = true)
    (a5 : PySem.W.nsIn K mainGlobals "_law_fresh" = some (some (.ref f5))) (l5 : K.lookup f5 = some ⟨oc5, od5, .func (PySem.W.fnOf "_law_fresh" "_law_fresh" (defArgs sFresh) (defBody sFresh) (defScope sFresh) .none kV5 dc5 pm5 an5 cd5 ct5), sl5⟩) (e5 : PySem.W.codeIn K cd5 "_law_fresh" = true) (k5 : PySem.W.keepIn K (.ref f5) = true)
    (a6 : PySem.W.nsIn K mainGlobals "_law_next" = some (some (.ref f6))) (l6 : K.lookup f6 = some ⟨oc6, od6, .func (PySem.W.fnOf "_law_next" "_law_next" (defArgs sNext) (defBody sNext) (defScope sNext) .none kV6 dc6 pm6 an6 cd6 ct6), sl6⟩) (e6 : PySem.W.codeIn K cd6 "_law_next" = true) (k6 : PySem.W.keepIn K (.ref f6) = true)
    (a7 : PySem.W.nsIn K mainGlobals "_law_names_asked" = some (some (.ref f7))) (l7 : K.lookup f7 = some ⟨oc7, od7, .func (PySem.W.fnOf "_law_names_asked" "_law_names_asked" (defArgs sAsk) (defBody sAsk) (defScope sAsk) .none kV7 dc7 pm7 an7 cd7 ct7), sl7⟩) (e7 : PySem.W.codeIn K cd7 "_law_names_asked" = true) (k7 : PySem.W.keepIn K (.ref f7) = true)
    (a8 : PySem.W.nsIn K mainGlobals "look" = some (some (.ref f8))) (l8 : K.lookup f8 = some ⟨oc8, od8, .func (PySem.W.fnOf "look" "look" (defArgs sLook) (defBody sLook) (defScope sLook) .none kV8 dc8 pm8 an8 cd8 ct8), sl8⟩) (e8 : PySem.W.codeIn K cd8 "look" = true) (k8 : PySem.W.keepIn K (.ref f8) = true)
    (a9 : PySem.W.nsIn K mainGlobals "size" = some (some (.ref f9))) (l9 : K.lookup f9 = some ⟨oc9, od9, .func (PySem.W.fnOf "size" "size" (defArgs sSize) (defBody sSize) (defScope sSize) .none kV9 dc9 pm9 an9 cd9 ct9), sl9⟩) (e9 : PySem.W.codeIn K cd9 "size" = true) (k9 : PySem.W.keepIn K (.ref f9) = true)
    (a10 : PySem.W.nsIn K mainGlobals "is_name" = some (some (.ref f10))) (l10 : K.lookup f10 = some ⟨oc10, od10, .func (PySem.W.fnOf "is_name" "is_name" (defArgs sIsName) (defBody sIsName) (defScope sIsName) .none kV10 dc10 pm10 an10 cd10 ct10), sl10⟩) (e10 : PySem.W.codeIn K cd10 "is_name" = true) (k10 : PySem.W.keepIn K (.ref f10) = true)
    (a11 : PySem.W.nsIn K mainGlobals "_law_rounds" = some (some (.ref f11))) (l11 : K.lookup f11 = some ⟨oc11, od11, .func (PySem.W.fnOf "_law_rounds" "_law_rounds" (defArgs sRnd) (defBody sRnd) (defScope sRnd) .none kV11 dc11 pm11 an11 cd11 ct11), sl11⟩) (e11 : PySem.W.codeIn K cd11 "_law_rounds" = true) (k11 : PySem.W.keepIn K (.ref f11) = true)
    (a12 : PySem.W.nsIn K mainGlobals "_law_two" = some (some (.ref f12))) (l12 : K.lookup f12 = some ⟨oc12, od12, .func (PySem.W.fnOf "_law_two" "_law_two" (defArgs sTwo) (defBody sTwo) (defScope sTwo) .none kV12 dc12 pm12 an12 cd12 ct12), sl12⟩) (e12 : PySem.W.codeIn K cd12 "_law_two" = true) (k12 : PySem.W.keepIn K (.ref f12) = true)
    (a13 : PySem.W.nsIn K mainGlobals "_law_one" = some (some (.ref f13))) (l13 : K.lookup f13 = some ⟨oc13, od13, .func (PySem.W.fnOf "_law_one" "_law_one" (defArgs sOne) (defBody sOne) (defScope sOne) .none kV13 dc13 pm13 an13 cd13 ct13), sl13⟩) (e13 : PySem.W.codeIn K cd13 "_law_one" = true) (k13 : PySem.W.keepIn K (.ref f13) = true)
    (a14 : PySem.W.nsIn K mainGlobals "_law_fitted" = some (some (.ref f14))) (l14 : K.lookup f14 = some ⟨oc14, od14, .func (PySem.W.fnOf "_law_fitted" "_law_fitted" (defArgs sFit) (defBody sFit) (defScope sFit) .none kV14 dc14 pm14 an14 cd14 ct14), sl14⟩) (e14 : PySem.W.codeIn K cd14 "_law_fitted" = true) (k14 : PySem.W.keepIn K (.ref f14) = true)
    (a15 : PySem.W.nsIn K mainGlobals "_law_once" = some (some (.ref f15))) (l15 : K.lookup f15 = some ⟨oc15, od15, .func (PySem.W.fnOf "_law_once" "_law_once" (defArgs sOnceR) (defBody sOnceR) (defScope sOnceR) .none kV15 dc15 pm15 an15 cd15 ct15), sl15⟩) (e15 : PySem.W.codeIn K cd15 "_law_once" = true) (k15 : PySem.W.keepIn K (.ref f15) = true)
    (a16 : PySem.W.nsIn K mainGlobals "_law_digits" = some (some (.ref f16))) (l16 : K.lookup f16 = some ⟨oc16, od16, .func (PySem.W.fnOf "_law_digits" "_law_digits" (defArgs sDigits) (defBody sDigits) (defScope sDigits) .none kV16 dc16 pm16 an16 cd16 ct16), sl16⟩) (e16 : PySem.W.codeIn K cd16 "_law_digits" = true) (k16 : PySem.W.keepIn K (.ref f16) = true)
    (a17 : PySem.W.nsIn K mainGlobals "_law_asked" = some (some (.ref f17))) (l17 : K.lookup f17 = some ⟨oc17, od17, .func (PySem.W.fnOf "_law_asked" "_law_asked" (defArgs sAsked) (defBody sAsked) (defScope sAsked) .none kV17 dc17 pm17 an17 cd17 ct17), sl17⟩) (e17 : PySem.W.codeIn K cd17 "_law_asked" = true) (k17 : PySem.W.keepIn K (.ref f17) = true)
    (a18 : PySem.W.nsIn K mainGlobals "_law_term" = some (some (.ref f18))) (l18 : K.lookup f18 = some ⟨oc18, od18, .func (PySem.W.fnOf "_law_term" "_law_term" (defArgs sTerm) (defBody sTerm) (defScope sTerm) .none kV18 dc18 pm18 an18 cd18 ct18), sl18⟩) (e18 : PySem.W.codeIn K cd18 "_law_term" = true) (k18 : PySem.W.keepIn K (.ref f18) = true)
    (a19 : PySem.W.nsIn K mainGlobals "_law_grouped" = some (some (.ref f19))) (l19 : K.lookup f19 = some ⟨oc19, od19, .func (PySem.W.fnOf "_law_grouped" "_law_grouped" (defArgs sGrp) (defBody sGrp) (defScope sGrp) .none kV19 dc19 pm19 an19 cd19 ct19), sl19⟩) (e19 : PySem.W.codeIn K cd19 "_law_grouped" = true) (k19 : PySem.W.keepIn K (.ref f19) = true)
    (a20 : PySem.W.nsIn K mainGlobals "rounds_width" = some (some (.ref f20))) (l20 : K.lookup f20 = some ⟨oc20, od20, .func (PySem.W.fnOf "rounds_width" "rounds_width" (defArgs sRW) (defBody sRW) (defScope sRW) .none kV20 dc20 pm20 an20 cd20 ct20), sl20⟩) (e20 : PySem.W.codeIn K cd20 "rounds_width" = true) (k20 : PySem.W.keepIn K (.ref f20) = true)
    (a21 : PySem.W.nsIn K mainGlobals "name_width" = some (some (.ref f21))) (l21 : K.lookup f21 = some ⟨oc21, od21, .func (PySem.W.fnOf "name_width" "name_width" (defArgs sNameW) (defBody sNameW) (defScope sNameW) .none kV21 dc21 pm21 an21 cd21 ct21), sl21⟩) (e21 : PySem.W.codeIn K cd21 "name_width" = true) (k21 : PySem.W.keepIn K (.ref f21) = true)
    (a22 : PySem.W.nsIn K mainGlobals "views_in" = some (some (.ref f22))) (l22 : K.lookup f22 = some ⟨oc22, od22, .func (PySem.W.fnOf "views_in" "views_in" (defArgs sViewsIn) (defBody sViewsIn) (defScope sViewsIn) .none kV22 dc22 pm22 an22 cd22 ct22), sl22⟩) (e22 : PySem.W.codeIn K cd22 "views_in" = true) (k22 : PySem.W.keepIn K (.ref f22) = true)
    (a23 : PySem.W.nsIn K mainGlobals "check_places" = some (some (.ref f23))) (l23 : K.lookup f23 = some ⟨oc23, od23, .func (PySem.W.fnOf "check_places" "check_places" (defArgs sChPl) (defBody sChPl) (defScope sChPl) .none kV23 dc23 pm23 an23 cd23 ct23), sl23⟩) (e23 : PySem.W.codeIn K cd23 "check_places" = true) (k23 : PySem.W.keepIn K (.ref f23) = true)
    (a24 : PySem.W.nsIn K mainGlobals "check_alike" = some (some (.ref f24))) (l24 : K.lookup f24 = some ⟨oc24, od24, .func (PySem.W.fnOf "check_alike" "check_alike" (defArgs sAlikeC) (defBody sAlikeC) (defScope sAlikeC) .none kV24 dc24 pm24 an24 cd24 ct24), sl24⟩) (e24 : PySem.W.codeIn K cd24 "check_alike" = true) (k24 : PySem.W.keepIn K (.ref f24) = true)
    (a25 : PySem.W.nsIn K mainGlobals "width_over" = some (some (.ref f25))) (l25 : K.lookup f25 = some ⟨oc25, od25, .func (PySem.W.fnOf "width_over" "width_over" (defArgs sWidthO) (defBody sWidthO) (defScope sWidthO) .none kV25 dc25 pm25 an25 cd25 ct25), sl25⟩) (e25 : PySem.W.codeIn K cd25 "width_over" = true) (k25 : PySem.W.keepIn K (.ref f25) = true)
    (a26 : PySem.W.nsIn K mainGlobals "besides_of" = some (some (.ref f26))) (l26 : K.lookup f26 = some ⟨oc26, od26, .func (PySem.W.fnOf "besides_of" "besides_of" (defArgs sBesides) (defBody sBesides) (defScope sBesides) .none kV26 dc26 pm26 an26 cd26 ct26), sl26⟩) (e26 : PySem.W.codeIn K cd26 "besides_of" = true) (k26 : PySem.W.keepIn K (.ref f26) = true)
    (a27 : PySem.W.nsIn K mainGlobals "with_name" = some (some (.ref f27))) (l27 : K.lookup f27 = some ⟨oc27, od27, .func (PySem.W.fnOf "with_name" "with_name" (defArgs sWithN) (defBody sWithN) (defScope sWithN) .none kV27 dc27 pm27 an27 cd27 ct27), sl27⟩) (e27 : PySem.W.codeIn K cd27 "with_name" = true) (k27 : PySem.W.keepIn K (.ref f27) = true)
    (a28 : PySem.W.nsIn K mainGlobals "places_of" = some (some (.ref f28))) (l28 : K.lookup f28 = some ⟨oc28, od28, .func (PySem.W.fnOf "places_of" "places_of" (defArgs sPlOf) (defBody sPlOf) (defScope sPlOf) .none kV28 dc28 pm28 an28 cd28 ct28), sl28⟩) (e28 : PySem.W.codeIn K cd28 "places_of" = true) (k28 : PySem.W.keepIn K (.ref f28) = true)
    (a29 : PySem.W.nsIn K mainGlobals "own_places" = some (some (.ref f29))) (l29 : K.lookup f29 = some ⟨oc29, od29, .func (PySem.W.fnOf "own_places" "own_places" (defArgs sOwnPl) (defBody sOwnPl) (defScope sOwnPl) .none kV29 dc29 pm29 an29 cd29 ct29), sl29⟩) (e29 : PySem.W.codeIn K cd29 "own_places" = true) (k29 : PySem.W.keepIn K (.ref f29) = true)
    (a30 : PySem.W.nsIn K mainGlobals "places_in" = some (some (.ref f30))) (l30 : K.lookup f30 = some ⟨oc30, od30, .func (PySem.W.fnOf "places_in" "places_in" (defArgs sPlIn) (defBody sPlIn) (defScope sPlIn) .none kV30 dc30 pm30 an30 cd30 ct30), sl30⟩) (e30 : PySem.W.codeIn K cd30 "places_in" = true) (k30 : PySem.W.keepIn K (.ref f30) = true)
    (a31 : PySem.W.nsIn K mainGlobals "within" = some (some (.ref f31))) (l31 : K.lookup f31 = some ⟨oc31, od31, .func (PySem.W.fnOf "within" "within" (defArgs sWithin) (defBody sWithin) (defScope sWithin) .none kV31 dc31 pm31 an31 cd31 ct31), sl31⟩) (e31 : PySem.W.codeIn K cd31 "within" = true) (k31 : PySem.W.keepIn K (.ref f31) = true)
    (a32 : PySem.W.nsIn K mainGlobals "besides_size" = some (some (.ref f32))) (l32 : K.lookup f32 = some ⟨oc32, od32, .func (PySem.W.fnOf "besides_size" "besides_size" (defArgs sBSize) (defBody sBSize) (defScope sBSize) .none kV32 dc32 pm32 an32 cd32 ct32), sl32⟩) (e32 : PySem.W.codeIn K cd32 "besides_size" = true) (k32 : PySem.W.keepIn K (.ref f32) = true)
    (a33 : PySem.W.nsIn K mainGlobals "expression_size" = some (some (.ref f33))) (l33 : K.lookup f33 = some ⟨oc33, od33, .func (PySem.W.fnOf "expression_size" "expression_size" (defArgs sESize) (defBody sESize) (defScope sESize) .none kV33 dc33 pm33 an33 cd33 ct33), sl33⟩) (e33 : PySem.W.codeIn K cd33 "expression_size" = true) (k33 : PySem.W.keepIn K (.ref f33) = true)
    (a34 : PySem.W.nsIn K mainGlobals "law" = some (some (.ref f34))) (l34 : K.lookup f34 = some ⟨oc34, od34, .func (PySem.W.fnOf "law" "law" (defArgs sLaw) (defBody sLaw) (defScope sLaw) .none kV34 dc34 pm34 an34 cd34 ct34), sl34⟩) (e34 : PySem.W.codeIn K cd34 "law" = true) (k34 : PySem.W.keepIn K (.ref f34) = true)
    (z1 : PySem.W.nsIn K mainGlobals "len" = some none) (z2 : PySem.W.nsIn K mainGlobals "range" = some none) (z3 : PySem.W.nsIn K mainGlobals "tuple" = some none) (z4 : PySem.W.nsIn K mainGlobals "isinstance" = some none) (z5 : PySem.W.nsIn K mainGlobals "int" = some none) (z6 : PySem.W.nsIn K mainGlobals "bool" = some none) (z7 : PySem.W.nsIn K mainGlobals "max" = some none) (z8 : PySem.W.nsIn K mainGlobals "min" = some none) (z9 : PySem.W.nsIn K mainGlobals "zip" = some none) (z10 : PySem.W.nsIn K mainGlobals "all" = some none) (z11 : PySem.W.nsIn K mainGlobals "list" = some none) (z12 : PySem.W.nsIn K mainGlobals "str" = some none) (z13 : PySem.W.nsIn K mainGlobals "sum" = some none) (z14 : PySem.W.nsIn K mainGlobals "dict" = some none) 
    (gm : PySem.W.nsIn K mainGlobals "MOST_CELLS" = some (some (.int 12 tkm)))
    (ggoo : PySem.W.nsIn K mainGlobals "OVER_ONE" = some (some (.ref gaoo))) (gloo : K.lookup gaoo = some ⟨.type "tuple", godoo, .seq #[.str "sieve" tkoo0, .str "cols" tkoo1, .str "once" tkoo2, .str "count" tkoo3, .str "sum" tkoo4, .str "least" tkoo5, .str "most" tkoo6, .str "first" tkoo7] gnoo, gsloo⟩)
    (ggpa : PySem.W.nsIn K mainGlobals "PAIRED" = some (some (.ref gapa))) (glpa : K.lookup gapa = some ⟨.type "tuple", godpa, .seq #[.str "join" tkpa0, .str "left" tkpa1, .str "notin" tkpa2] gnpa, gslpa⟩)
    (gggr : PySem.W.nsIn K mainGlobals "GROUPS" = some (some (.ref gagr))) (glgr : K.lookup gagr = some ⟨.type "tuple", godgr, .seq #[.str "count" tkgr0, .str "sum" tkgr1, .str "least" tkgr2, .str "most" tkgr3] gngr, gslgr⟩)
    (ggof : PySem.W.nsIn K mainGlobals "OF_ONE_WIDTH" = some (some (.ref gaof))) (glof : K.lookup gaof = some ⟨.type "tuple", godof, .seq #[.str "pour" tkof0, .str "both" tkof1, .str "either" tkof2, .str "less" tkof3] gnof, gslof⟩)
    (nd : ([] : List Addr).Nodup) :
    ∃ fd : FuncData, (∀ (s : Shared) (u : Value), BindsTo s fd ⟨[u], []⟩ [("_law_script", u)]) ∧ ∀ base : Heap, K.In base → base.Ns mainGlobals mg → FnOk l.prog w K mg base CX0 65 fa fd ["_law_script"] (spLaw K) := by
  have e := hfa.symm.trans (PySem.W.mg_of X G a34)
  cases e
  have T : Txt mg := ⟨PySem.W.mg_none_of X G z1, PySem.W.mg_none_of X G z2, PySem.W.mg_none_of X G z3, PySem.W.mg_none_of X G z4, PySem.W.mg_none_of X G z5, PySem.W.mg_none_of X G z6, PySem.W.mg_none_of X G z7, PySem.W.mg_none_of X G z8, PySem.W.mg_none_of X G z9, PySem.W.mg_none_of X G z10, PySem.W.mg_none_of X G z11, PySem.W.mg_none_of X G z12, PySem.W.mg_none_of X G z13, PySem.W.mg_none_of X G z14⟩
  have D1 := fn_mk (P := l.prog) (w := w) (st := sCellAt) (ps := psCellAt) X G a1 l1 e1 k1 fun _ _ _ _ _ _ us hl => match us, hl with | [_, _], _ => rfl
  have D2 := fn_mk (P := l.prog) (w := w) (st := sWhole) (ps := psWhole) X G a2 l2 e2 k2 fun _ _ _ _ _ _ us hl => match us, hl with | [_], _ => rfl
  have D3 := fn_mk (P := l.prog) (w := w) (st := sMixed) (ps := psMixed) X G a3 l3 e3 k3 fun _ _ _ _ _ _ us hl => match us, hl with | [_], _ => rfl
  have D4 := fn_mk (P := l.prog) (w := w) (st := sNames) (ps := psNames) X G a4 l4 e4 k4 fun _ _ _ _ _ _ us hl => match us, hl with | [_], _ => rfl
  have D5 := fn_mk (P := l.prog) (w := w) (st := sFresh) (ps := psFresh) X G a5 l5 e5 k5 fun _ _ _ _ _ _ us hl => match us, hl with | [_, _], _ => rfl
  have D6 := fn_mk (P := l.prog) (w := w) (st := sNext) (ps := psNext) X G a6 l6 e6 k6 fun _ _ _ _ _ _ us hl => match us, hl with | [_, _, _, _, _], _ => rfl
  have D7 := fn_mk (P := l.prog) (w := w) (st := sAsk) (ps := psAsk) X G a7 l7 e7 k7 fun _ _ _ _ _ _ us hl => match us, hl with | [_, _], _ => rfl
  have D8 := fn_mk (P := l.prog) (w := w) (st := sLook) (ps := psLook) X G a8 l8 e8 k8 fun _ _ _ _ _ _ us hl => match us, hl with | [_, _], _ => rfl
  have D9 := fn_mk (P := l.prog) (w := w) (st := sSize) (ps := psSize) X G a9 l9 e9 k9 fun _ _ _ _ _ _ us hl => match us, hl with | [_, _], _ => rfl
  have D10 := fn_mk (P := l.prog) (w := w) (st := sIsName) (ps := psIsName) X G a10 l10 e10 k10 fun _ _ _ _ _ _ us hl => match us, hl with | [_], _ => rfl
  have D11 := fn_mk (P := l.prog) (w := w) (st := sRnd) (ps := psRnd) X G a11 l11 e11 k11 fun _ _ _ _ _ _ us hl => match us, hl with | [_, _, _, _], _ => rfl
  have D12 := fn_mk (P := l.prog) (w := w) (st := sTwo) (ps := psTwo) X G a12 l12 e12 k12 fun _ _ _ _ _ _ us hl => match us, hl with | [_, _, _, _], _ => rfl
  have D13 := fn_mk (P := l.prog) (w := w) (st := sOne) (ps := psOne) X G a13 l13 e13 k13 fun _ _ _ _ _ _ us hl => match us, hl with | [_, _, _], _ => rfl
  have D14 := fn_mk (P := l.prog) (w := w) (st := sFit) (ps := psFit) X G a14 l14 e14 k14 fun _ _ _ _ _ _ us hl => match us, hl with | [_, _], _ => rfl
  have D15 := fn_mk (P := l.prog) (w := w) (st := sOnceR) (ps := psOnceR) X G a15 l15 e15 k15 fun _ _ _ _ _ _ us hl => match us, hl with | [_], _ => rfl
  have D16 := fn_mk (P := l.prog) (w := w) (st := sDigits) (ps := psDigits) X G a16 l16 e16 k16 fun _ _ _ _ _ _ us hl => match us, hl with | [_, _, _], _ => rfl
  have D17 := fn_mk (P := l.prog) (w := w) (st := sAsked) (ps := psTerm) X G a17 l17 e17 k17 fun _ _ _ _ _ _ us hl => match us, hl with | [_, _], _ => rfl
  have D18 := fn_mk (P := l.prog) (w := w) (st := sTerm) (ps := psTerm) X G a18 l18 e18 k18 fun _ _ _ _ _ _ us hl => match us, hl with | [_, _], _ => rfl
  have D19 := fn_mk (P := l.prog) (w := w) (st := sGrp) (ps := psGrp) X G a19 l19 e19 k19 fun _ _ _ _ _ _ us hl => match us, hl with | [_, _, _], _ => rfl
  have D20 := fn_mk (P := l.prog) (w := w) (st := sRW) (ps := psLook) X G a20 l20 e20 k20 fun _ _ _ _ _ _ us hl => match us, hl with | [_, _], _ => rfl
  have D21 := fn_mk (P := l.prog) (w := w) (st := sNameW) (ps := psNameW) X G a21 l21 e21 k21 fun _ _ _ _ _ _ us hl => match us, hl with | [_, _], _ => rfl
  have D22 := fn_mk (P := l.prog) (w := w) (st := sViewsIn) (ps := psV) X G a22 l22 e22 k22 fun _ _ _ _ _ _ us hl => match us, hl with | [_], _ => rfl
  have D23 := fn_mk (P := l.prog) (w := w) (st := sChPl) (ps := psChPl) X G a23 l23 e23 k23 fun _ _ _ _ _ _ us hl => match us, hl with | [_, _], _ => rfl
  have D24 := fn_mk (P := l.prog) (w := w) (st := sAlikeC) (ps := psAlikeC) X G a24 l24 e24 k24 fun _ _ _ _ _ _ us hl => match us, hl with | [_, _], _ => rfl
  have D25 := fn_mk (P := l.prog) (w := w) (st := sWidthO) (ps := psWidthO) X G a25 l25 e25 k25 fun _ _ _ _ _ _ us hl => match us, hl with | [_, _, _], _ => rfl
  have D26 := fn_mk (P := l.prog) (w := w) (st := sBesides) (ps := psV) X G a26 l26 e26 k26 fun _ _ _ _ _ _ us hl => match us, hl with | [_], _ => rfl
  have D27 := fn_mk (P := l.prog) (w := w) (st := sWithN) (ps := psWithN) X G a27 l27 e27 k27 fun _ _ _ _ _ _ us hl => match us, hl with | [_, _, _], _ => rfl
  have D28 := fn_mk (P := l.prog) (w := w) (st := sPlOf) (ps := psV) X G a28 l28 e28 k28 fun _ _ _ _ _ _ us hl => match us, hl with | [_], _ => rfl
  have D29 := fn_mk (P := l.prog) (w := w) (st := sOwnPl) (ps := psV) X G a29 l29 e29 k29 fun _ _ _ _ _ _ us hl => match us, hl with | [_], _ => rfl
  have D30 := fn_mk (P := l.prog) (w := w) (st := sPlIn) (ps := psPlIn) X G a30 l30 e30 k30 fun _ _ _ _ _ _ us hl => match us, hl with | [_], _ => rfl
  have D31 := fn_mk (P := l.prog) (w := w) (st := sWithin) (ps := psWithin) X G a31 l31 e31 k31 fun _ _ _ _ _ _ us hl => match us, hl with | [_], _ => rfl
  have D32 := fn_mk (P := l.prog) (w := w) (st := sBSize) (ps := psV) X G a32 l32 e32 k32 fun _ _ _ _ _ _ us hl => match us, hl with | [_], _ => rfl
  have D33 := fn_mk (P := l.prog) (w := w) (st := sESize) (ps := psESize) X G a33 l33 e33 k33 fun _ _ _ _ _ _ us hl => match us, hl with | [_], _ => rfl
  have D34 := fn_mk (P := l.prog) (w := w) (st := sLaw) (ps := ["_law_script"]) X G a34 l34 e34 k34 fun _ _ _ _ _ _ us hl => match us, hl with | [_], _ => rfl
  have GLB : Glb K mg := ⟨⟨_, PySem.W.mg_of X G gm, ⟨tkm, rfl⟩⟩, ⟨gaoo, PySem.W.mg_of X G ggoo, fun _ => .inr ⟨_, _, _, gloo, rfl, rfl, by show 8 ≤ sizeLine; decide, (.cons ⟨tkoo0, rfl⟩ (.cons ⟨tkoo1, rfl⟩ (.cons ⟨tkoo2, rfl⟩ (.cons ⟨tkoo3, rfl⟩ (.cons ⟨tkoo4, rfl⟩ (.cons ⟨tkoo5, rfl⟩ (.cons ⟨tkoo6, rfl⟩ (.cons ⟨tkoo7, rfl⟩ .nil))))))))⟩⟩, ⟨gapa, PySem.W.mg_of X G ggpa, fun _ => .inr ⟨_, _, _, glpa, rfl, rfl, by show 3 ≤ sizeLine; decide, (.cons ⟨tkpa0, rfl⟩ (.cons ⟨tkpa1, rfl⟩ (.cons ⟨tkpa2, rfl⟩ .nil)))⟩⟩, ⟨gagr, PySem.W.mg_of X G gggr, fun _ => .inr ⟨_, _, _, glgr, rfl, rfl, by show 4 ≤ sizeLine; decide, (.cons ⟨tkgr0, rfl⟩ (.cons ⟨tkgr1, rfl⟩ (.cons ⟨tkgr2, rfl⟩ (.cons ⟨tkgr3, rfl⟩ .nil))))⟩⟩, ⟨gaof, PySem.W.mg_of X G ggof, fun _ => .inr ⟨_, _, _, glof, rfl, rfl, by show 4 ≤ sizeLine; decide, (.cons ⟨tkof0, rfl⟩ (.cons ⟨tkof1, rfl⟩ (.cons ⟨tkof2, rfl⟩ (.cons ⟨tkof3, rfl⟩ .nil))))⟩⟩⟩
  exact ⟨_, fun s v => .of_eq rfl, fun base _ _ => okLaw T GLB D34 D1 D2 D3 D4 D5 D6 D7 D8 D9 D10 D11 D12 D13 D14 D15 D16 D17 D18 D19 D20 D21 D22 D23 D24 D25 D26 D27 D28 D29 D30 D31 D32 D33⟩
theorem walk {l : PySem.W.OpenLaw} {q : Program} {loose : List Str} {XP : (Str → Option Value) → Heap → Prop} {YP : World → Heap → Prop} {d : DefRec} {K : Params → PySem.W.Frag} (hn : l.most = some 63) (hdf : d.params.defaults = [])
    (hY : ∀ (w : World) (h : Heap), YP w h → (K w.params).In h)
    (F : ∀ (w : World) (mg : Str → Option Value) (fa : Addr) (h : Heap), (K w.params).In h → h.Ns mainGlobals mg → mg d.name = some (.ref fa) →
      ∃ fd : FuncData, (∀ (s : Shared) (u : Value), BindsTo s fd ⟨[u], []⟩ [("_law_script", u)]) ∧ ∀ base : Heap, (K w.params).In base → base.Ns mainGlobals mg → FnOk l.prog w (K w.params) mg base CX0 65 fa fd ["_law_script"] (spLaw (K w.params))) :
    PySem.W.WalkO q loose XP YP l.row.toRowW d [] (fun f vs => PySem.call f vs) :=
  L2.walk_of (n := 63) (k := 65) (x := "_law_script") (CX := fun _ => CX0) (sp := fun w => spLaw (K w.params)) hn (by decide) hdf ⟨rfl, by decide, by decide⟩ hY F (fun _ _ a ns hl _ hS => ⟨a, ns, rfl, hS, hl, fun _ => rfl⟩) fun _ _ _ _ _ z => z
end VK
def PySem.W.Fast.tw15878448432220741728 : Unit := ()
theorem PySem.W.Fast.te15878448432220741728 : True := trivial
open PySem PySem.W PyProof.Rows
set_option maxRecDepth 100000 in
set_option maxHeartbeats 0 in
theorem PySem.Challenge.cw_viewkeep_k10_widths_and_sizes_holds : PySem.Challenge.rw_viewkeep_k10_widths_and_sizes.Holds := by
  w_on; o_law; k_head; (case hw => w_witness2)
  k_fill
  refine VK.walk (l := PySem.Challenge.rw_viewkeep_k10_widths_and_sizes) rfl rfl (fun w h Y => PySem.W.kIn_of Y) ?F
  case F =>
    intro w mg fa h KX G hmg
    refine' VK.all_mk KX G hmg ?a1 ?l1 ?e1 ?k1 ?a2 ?l2 ?e2 ?k2 ?a3 ?l3 ?e3 ?k3 ?a4 ?l4 ?e4 ?k4 ?a5 ?l5 ?e5 ?k5 ?a6 ?l6 ?e6 ?k6 ?a7 ?l7 ?e7 ?k7 ?a8 ?l8 ?e8 ?k8 ?a9 ?l9 ?e9 ?k9 ?a10 ?l10 ?e10 ?k10 ?a11 ?l11 ?e11 ?k11 ?a12 ?l12 ?e12 ?k12 ?a13 ?l13 ?e13 ?k13 ?a14 ?l14 ?e14 ?k14 ?a15 ?l15 ?e15 ?k15 ?a16 ?l16 ?e16 ?k16 ?a17 ?l17 ?e17 ?k17 ?a18 ?l18 ?e18 ?k18 ?a19 ?l19 ?e19 ?k19 ?a20 ?l20 ?e20 ?k20 ?a21 ?l21 ?e21 ?k21 ?a22 ?l22 ?e22 ?k22 ?a23 ?l23 ?e23 ?k23 ?a24 ?l24 ?e24 ?k24 ?a25 ?l25 ?e25 ?k25 ?a26 ?l26 ?e26 ?k26 ?a27 ?l27 ?e27 ?k27 ?a28 ?l28 ?e28 ?k28 ?a29 ?l29 ?e29 ?k29 ?a30 ?l30 ?e30 ?k30 ?a31 ?l31 ?e31 ?k31 ?a32 ?l32 ?e32 ?k32 ?a33 ?l33 ?e33 ?k33 ?a34 ?l34 ?e34 ?k34 ?z1 ?z2 ?z3 ?z4 ?z5 ?z6 ?z7 ?z8 ?z9 ?z10 ?z11 ?z12 ?z13 ?z14 ?gm ?ggoo ?gloo ?ggpa ?glpa ?gggr ?glgr ?ggof ?glof ?nd
    (case a1 => k_is); (case l1 => k_is); (case e1 => k_is); (case k1 => k_is); (case a2 => k_is); (case l2 => k_is); (case e2 => k_is); (case k2 => k_is)
    (case a3 => k_is); (case l3 => k_is); (case e3 => k_is); (case k3 => k_is); (case a4 => k_is); (case l4 => k_is); (case e4 => k_is); (case k4 => k_is)
    (case a5 => k_is); (case l5 => k_is); (case e5 => k_is); (case k5 => k_is); (case a6 => k_is); (case l6 => k_is); (case e6 => k_is); (case k6 => k_is)
    (case a7 => k_is); (case l7 => k_is); (case e7 => k_is); (case k7 => k_is); (case a8 => k_is); (case l8 => k_is); (case e8 => k_is); (case k8 => k_is)
    (case a9 => k_is); (case l9 => k_is); (case e9 => k_is); (case k9 => k_is); (case a10 => k_is); (case l10 => k_is); (case e10 => k_is); (case k10 => k_is)
    (case a11 => k_is); (case l11 => k_is); (case e11 => k_is); (case k11 => k_is); (case a12 => k_is); (case l12 => k_is); (case e12 => k_is); (case k12 => k_is)
    (case a13 => k_is); (case l13 => k_is); (case e13 => k_is); (case k13 => k_is); (case a14 => k_is); (case l14 => k_is); (case e14 => k_is); (case k14 => k_is)
    (case a15 => k_is); (case l15 => k_is); (case e15 => k_is); (case k15 => k_is); (case a16 => k_is); (case l16 => k_is); (case e16 => k_is); (case k16 => k_is)
    (case a17 => k_is); (case l17 => k_is); (case e17 => k_is); (case k17 => k_is); (case a18 => k_is); (case l18 => k_is); (case e18 => k_is); (case k18 => k_is)
    (case a19 => k_is); (case l19 => k_is); (case e19 => k_is); (case k19 => k_is); (case a20 => k_is); (case l20 => k_is); (case e20 => k_is); (case k20 => k_is)
    (case a21 => k_is); (case l21 => k_is); (case e21 => k_is); (case k21 => k_is); (case a22 => k_is); (case l22 => k_is); (case e22 => k_is); (case k22 => k_is)
    (case a23 => k_is); (case l23 => k_is); (case e23 => k_is); (case k23 => k_is); (case a24 => k_is); (case l24 => k_is); (case e24 => k_is); (case k24 => k_is)
    (case a25 => k_is); (case l25 => k_is); (case e25 => k_is); (case k25 => k_is); (case a26 => k_is); (case l26 => k_is); (case e26 => k_is); (case k26 => k_is)
    (case a27 => k_is); (case l27 => k_is); (case e27 => k_is); (case k27 => k_is); (case a28 => k_is); (case l28 => k_is); (case e28 => k_is); (case k28 => k_is)
    (case a29 => k_is); (case l29 => k_is); (case e29 => k_is); (case k29 => k_is); (case a30 => k_is); (case l30 => k_is); (case e30 => k_is); (case k30 => k_is)
    (case a31 => k_is); (case l31 => k_is); (case e31 => k_is); (case k31 => k_is); (case a32 => k_is); (case l32 => k_is); (case e32 => k_is); (case k32 => k_is)
    (case a33 => k_is); (case l33 => k_is); (case e33 => k_is); (case k33 => k_is); (case a34 => k_is); (case l34 => k_is); (case e34 => k_is); (case k34 => k_is)
    (case z1 => k_is); (case z2 => k_is); (case z3 => k_is); (case z4 => k_is); (case z5 => k_is); (case z6 => k_is); (case z7 => k_is); (case z8 => k_is)
    (case z9 => k_is); (case z10 => k_is); (case z11 => k_is); (case z12 => k_is); (case z13 => k_is); (case z14 => k_is)
    (case gm => k_is); (case ggoo => k_is); (case gloo => k_is); (case ggpa => k_is); (case glpa => k_is); (case gggr => k_is); (case glgr => k_is); (case ggof => k_is); (case glof => k_is); (case nd => decide)
