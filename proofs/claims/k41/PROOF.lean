import PyProof.Rows.All
import Wide.All
import OpenK.AllK
import Wide.FinOn
import Lean
import PyProof.EqAt
import PyProof.EqKinds
import PyProof.TupleCall
import PySem.Challenge.RW_viewkeep_k41_in_which_order
set_option Elab.async false
set_option linter.all false
set_option maxRecDepth 100000
set_option maxHeartbeats 4000000

set_option Elab.async false
set_option linter.all false
set_option maxRecDepth 100000
namespace L2
open PySem PySem.Spec PyProof.Rows
/-- a key: an int or a str -/
abbrev Key := Sum Int Str
def keyIs : Key → Value → Bool
  | .inl k, v => Value.isInt k v
  | .inr x, v => Value.isStrOf x v
def keyH (w : World) : Key → Int
  | .inl k => hashInt k
  | .inr x => hashStr w x
theorem keyIs_shape : ∀ {k : Key} {v : Value}, keyIs k v = true → (∃ i t, k = Sum.inl i ∧ v = Value.int i t) ∨ (∃ x t, k = Sum.inr x ∧ v = Value.str x t)
  | .inl i, v, h => by
    obtain ⟨t, e⟩ := Value.isInt_shape (k := i) (v := v) h
    exact .inl ⟨i, t, rfl, e⟩
  | .inr x, v, h => by
    obtain ⟨t, e⟩ := Value.isStrOf_shape (x := x) (v := v) h
    exact .inr ⟨x, t, rfl, e⟩
theorem keyIs_int (i : Int) (t : Tok) : keyIs (.inl i) (.int i t) = true := by simp [keyIs, Value.isInt]
theorem keyIs_str (x : Str) (t : Tok) : keyIs (.inr x) (.str x t) = true := by simp [keyIs, Value.isStrOf]
theorem key_ll (a b : Int) : decide ((Sum.inl a : Key) = Sum.inl b) = (a == b) := by
  by_cases e : a = b
  · subst e; simp
  · have h : ¬ (Sum.inl a : Key) = Sum.inl b := fun q => e (Sum.inl.inj q)
    rw [decide_eq_false h]
    exact (beq_eq_false_iff_ne.mpr e).symm
theorem key_rr (a b : Str) : decide ((Sum.inr a : Key) = Sum.inr b) = decide (a = b) := by
  by_cases e : a = b
  · subst e; simp
  · have h : ¬ (Sum.inr a : Key) = Sum.inr b := fun q => e (Sum.inr.inj q)
    rw [decide_eq_false h, decide_eq_false e]
theorem key_lr (a : Int) (b : Str) : decide ((Sum.inl a : Key) = Sum.inr b) = false := decide_eq_false (fun q => nomatch q)
theorem key_rl (a : Str) (b : Int) : decide ((Sum.inr a : Key) = Sum.inl b) = false := decide_eq_false (fun q => nomatch q)
def mixKind (prog : Program) (w : World) : PySem.KeyKind prog w Key where
  is := keyIs
  hash := keyH w
  inj := fun v a b ha hb => by
    rcases keyIs_shape ha with ⟨i, t, rfl, rfl⟩ | ⟨x, t, rfl, rfl⟩
    · rcases keyIs_shape hb with ⟨j, u, rfl, e⟩ | ⟨y, u, rfl, e⟩
      · injection e with e1 _; rw [e1]
      · exact nomatch e
    · rcases keyIs_shape hb with ⟨j, u, rfl, e⟩ | ⟨y, u, rfl, e⟩
      · exact nomatch e
      · injection e with e1 _; rw [e1]
  byValue := fun k v h => by
    rcases keyIs_shape h with ⟨i, t, rfl, rfl⟩ | ⟨x, t, rfl, rfl⟩ <;> rfl
  pyHash := fun hv h => by
    rcases keyIs_shape hv with ⟨i, t, rfl, rfl⟩ | ⟨x, t, rfl, rfl⟩
    · exact wpAny_pyHash_int h
    · exact wpAny_pyHash_str h
  eqBool := fun hu hv h => by
    rcases keyIs_shape hu with ⟨i, t, rfl, rfl⟩ | ⟨x, t, rfl, rfl⟩
    · rcases keyIs_shape hv with ⟨j, u, rfl, rfl⟩ | ⟨y, u, rfl, rfl⟩
      · rw [key_ll] at h; exact wpAny_eqBool_int h
      · rw [key_lr] at h; exact SeqAt.EqAt.int_str i t y u _ _ _ _ h
    · rcases keyIs_shape hv with ⟨j, u, rfl, rfl⟩ | ⟨y, u, rfl, rfl⟩
      · rw [key_rl] at h; exact SeqAt.EqAt.str_int x t j u _ _ _ _ h
      · rw [key_rr] at h; exact wpAny_eqBool_str h
  «strs» := fun k x t v h => by
    rcases keyIs_shape h with ⟨i, u, rfl, e⟩ | ⟨y, u, rfl, e⟩
    · exact nomatch e
    · injection e with e1 _
      subst e1
      cases v <;> rfl
theorem mixKind_int (prog : Program) (w : World) (i : Int) (t : Tok) : (mixKind prog w).is (.inl i) (.int i t) = true := keyIs_int i t
theorem mixKind_str (prog : Program) (w : World) (x : Str) (t : Tok) : (mixKind prog w).is (.inr x) (.str x t) = true := keyIs_str x t
end L2
namespace L2
open PySem PySem.Spec PyProof.Rows
/-- a value, without the heap -/
inductive V where
  | non | bl (b : Bool) | int (i : Int) | str (x : Str) | byt (b : Array UInt8) | flt (b : UInt64) | ref (a : Addr) | ty (n : String)
  deriving DecidableEq
def RelV : V → Value → Prop
  | .non, u => u = Value.none
  | .bl b, u => u = Value.bool b
  | .int i, u => ∃ t, u = Value.int i t
  | .str x, u => ∃ t, u = Value.str x t
  | .byt b, u => ∃ t, u = Value.bytes b t
  | .flt b, u => ∃ t, u = Value.float b t
  | .ref a, u => u = Value.ref a
  | .ty n, u => u = Value.type n
abbrev Vals : List V → List Value → Prop := Paired RelV
theorem Vals.length {xs : List V} {us : List Value} (r : Vals xs us) : xs.length = us.length := Paired.length r
theorem Vals.get : ∀ {xs : List V} {us : List Value} {i : Nat} {x : V}, Vals xs us → xs[i]? = some x → ∃ u, us[i]? = some u ∧ RelV x u
  | _, _, _, _, .nil, e => by simp at e
  | _, _, 0, _, .cons r _, e => by simp at e; subst e; exact ⟨_, rfl, r⟩
  | _, _, i + 1, x, .cons _ t, e => by
    obtain ⟨u, h1, h2⟩ := Vals.get (i := i) (x := x) t (by simpa using e)
    exact ⟨u, by simpa using h1, h2⟩
theorem Vals.append : ∀ {xs ys : List V} {us ws : List Value}, Vals xs us → Vals ys ws → Vals (xs ++ ys) (us ++ ws)
  | _, _, _, _, .nil, s => s
  | _, _, _, _, .cons r t, s => .cons r (Vals.append t s)
theorem Vals.take : ∀ {xs : List V} {us : List Value} (n : Nat), Vals xs us → Vals (xs.take n) (us.take n)
  | _, _, 0, _ => .nil
  | _, _, _ + 1, .nil => .nil
  | _, _, n + 1, .cons r t => .cons r (Vals.take n t)
theorem Vals.drop : ∀ {xs : List V} {us : List Value} (n : Nat), Vals xs us → Vals (xs.drop n) (us.drop n)
  | _, _, 0, r => r
  | _, _, _ + 1, .nil => .nil
  | _, _, n + 1, .cons _ t => Vals.drop n t
def RelO : Option V → Option Value → Prop
  | some v, some u => RelV v u
  | none, none => True
  | _, _ => False
def KV {κ : Type} : List (κ × V) → List (κ × Value) → Prop := Paired fun (p : κ × V) (q : κ × Value) => p.1 = q.1 ∧ RelV p.2 q.2
/-- a key of a dict (00_mix): an int or a text -/
def kV : Key → V
  | .inl i => .int i
  | .inr x => .str x
/-- what stands at a tracked address -/
inductive HO where
  /-- a list -/
  | lst (xs : List V)
  /-- a tuple (never changes) -/
  | tup (xs : List V)
  /-- a dict whose keys are ints and texts; one whose keys are tuples of ints and texts (the empty one is both) -/
  | dK (kvs : List (Key × V)) | dT (kvs : List (List Key × V))
  /-- a set of ints: its members, its size -/
  | set (S : Int → Bool) (n : Nat)
  /-- an instance of the class at C, its dict at dx, its attributes -/
  | ins (C dx : Addr) (fs : List (Str × V))
  /-- the dict of the instance at x -/
  | own (x : Addr)
  /-- the dict of an exception -/
  | xd (fs : List (Str × V))
  /-- a bound method, f of x -/
  | met (f x : Addr)
  /-- a range object lo, lo + 1, .. below hi -/
  | rng (lo hi : Int)
  /-- a thing that is known to the object (the script; a dict while a loop walks it): read, never written while it is so -/
  | frz (o : Obj) (u : HO)
  /-- a code object's table -/
  | tbl (ps : Array Value)
  /-- any other thing, by what is true of its one object (a def of one's own: SetO a S n := HO.ext fun h => ..) -/
  | ext (φ : Heap → Prop)
abbrev Hp := Addr → Option HO
def upd (H : Hp) (a : Addr) (o : HO) : Hp := fun b => if b = a then some o else H b
theorem upd_same {H : Hp} {a : Addr} {o : HO} : upd H a o a = some o := by unfold upd; rw [if_pos rfl]
theorem upd_ne {H : Hp} {a b : Addr} {o : HO} (h : b ≠ a) : upd H a o b = H b := by unfold upd; rw [if_neg h]
/-- two objects of different content stand apart -/
theorem ne_of {H : Hp} {a b : Addr} {o u : HO} (h : H a = some o) (h' : H b = some u) (d : o ≠ u) : a ≠ b := by
  intro e; subst e; rw [h] at h'; exact d (Option.some.inj h')
theorem ne_of_none {H : Hp} {a b : Addr} {o : HO} (h : H a = some o) (h' : H b = none) : a ≠ b := by
  intro e; subst e; rw [h] at h'; cases h'
section
variable (P : Program) (w : World)
def ObjOk (H : Hp) (h : Heap) (a : Addr) : HO → Prop
  | .lst xs => xs.length ≤ sizeLine ∧ ∃ (its : List Value) (n : Nat), Vals xs its ∧ h.get? a = some { cls := .type "list", data := .seq its.toArray n }
  | .tup xs => xs.length ≤ sizeLine ∧ ∃ its : List Value, Vals xs its ∧ IsTup h a its.toArray
  | .dK kvs => kvs.length ≤ sizeLine ∧ (a == sysModules) = false ∧ ∃ vs, KV kvs vs ∧ h.DictOf (mixKind P w) a vs
  | .dT kvs => kvs.length ≤ sizeLine ∧ (a == sysModules) = false ∧ ∃ xs : List (List Key × Addr × Value),
      Paired (fun (p : List Key × V) (q : List Key × Addr × Value) => p.1 = q.1 ∧ H q.2.1 = some (.tup (p.1.map kV)) ∧ RelV p.2 q.2.2) kvs xs ∧
      ∃ o es ep, h.get? a = some o ∧ o.ExactDict ∧ o.data = .dict es ep ∧ es.toList = xs.map (entryOfKey (tupleKind (mixKind P w))) ∧ (xs.map (·.1)).Nodup
  | .set S n => h.SetOf (intKind P w) a S n
  | .ins C dx fs => H dx = some (.own a) ∧ fs.length ≤ 1000 ∧ dx ≠ a ∧ h.get? a = some (PySem.W.instObj C dx) ∧
      ∃ mA, h.Ns1 dx mA ∧ (∀ f, RelO (fs.lookup f) (mA f)) ∧ PySem.Within mA (fs.map (·.1))
  | .own _ => ∃ o, h.get? a = some o
  | .xd fs => ∃ mA, h.Ns1 a mA ∧ ∀ f, RelO (fs.lookup f) (mA f)
  | .rng lo hi => ∃ t u v, h.get? a = some { cls := .type "range", data := .fields #[.int lo t, .int hi u, .int 1 v] }
  | .frz o u => h.get? a = some o ∧ ObjOk H h a u
  | .tbl ps => h.get? a = some { cls := .none, data := .fields ps }
  | .met f x => h.get? a = some (PySem.W.methodObj (.ref f) (.ref x))
  | .ext φ => φ h ∧ (∃ o, h.get? a = some o) ∧ ∀ h1 h2 : Heap, φ h1 → (∀ o, h1.get? a = some o → h2.get? a = some o) → φ h2
/-- the abstract heap is held -/
def HOk (H : Hp) (h : Heap) : Prop := ∀ a o, H a = some o → ObjOk P w H h a o
end
section
variable {P : Program} {w : World} {H H' : Hp} {h h' : Heap} {a : Addr} {o : HO}
theorem ObjOk.lt (x : ObjOk P w H h a o) : a < h.objs.size := by
  cases o with
  | lst xs => obtain ⟨_, _, _, _, e⟩ := x; exact Heap.lt_size e
  | tup xs => obtain ⟨_, _, _, p⟩ := x; exact p.lt
  | dK kvs => obtain ⟨_, _, _, _, o, _, _, e, _⟩ := x; exact Heap.lt_size e
  | dT kvs => obtain ⟨_, _, _, _, o, _, _, e, _⟩ := x; exact Heap.lt_size e
  | set S n => obtain ⟨o, _, _, _, e, _⟩ := x; exact Heap.lt_size e
  | ins C dx fs => obtain ⟨_, _, _, e, _⟩ := x; exact Heap.lt_size e
  | own y => obtain ⟨_, e⟩ := x; exact Heap.lt_size e
  | xd fs => obtain ⟨_, ⟨_, _, _, e, _⟩, _⟩ := x; exact Heap.lt_size e
  | rng lo hi => obtain ⟨_, _, _, e⟩ := x; exact Heap.lt_size e
  | frz ob u => obtain ⟨e, _⟩ := x; exact Heap.lt_size e
  | tbl ps => exact Heap.lt_size (show h.get? a = some _ from x)
  | met f y => exact Heap.lt_size (show h.get? a = some _ from x)
  | ext φ => obtain ⟨_, ⟨_, e⟩, _⟩ := x; exact Heap.lt_size e
theorem Paired.mapP {α β : Type} {F G : α → β → Prop} : ∀ {l₁ : List α} {l₂ : List β}, Paired F l₁ l₂ → (∀ a b, F a b → G a b) → Paired G l₁ l₂
  | _, _, .nil, _ => .nil
  | _, _, .cons r t, f => .cons (f _ _ r) (Paired.mapP t f)
/-- what an object's description leans on: its own object, its own dict, the tuples -/
theorem ObjOk.stay (x : ObjOk P w H h a o) (k : ∀ b u, (b = a ∨ H b = some (.own a)) → h.get? b = some u → h'.get? b = some u)
    (ho : ∀ b, H b = some (.own a) → H' b = some (.own a)) (ht : ∀ b xs, H b = some (.tup xs) → H' b = some (.tup xs)) : ObjOk P w H' h' a o := by
  induction o with
  | lst xs => obtain ⟨z, its, n, r, e⟩ := x; exact ⟨z, its, n, r, k _ _ (.inl rfl) e⟩
  | tup xs => obtain ⟨z, its, r, ob, e, c⟩ := x; exact ⟨z, its, r, ob, k _ _ (.inl rfl) e, c⟩
  | dK kvs => obtain ⟨z, y, vs, r, ob, es, ep, e, c⟩ := x; exact ⟨z, y, vs, r, ob, es, ep, k _ _ (.inl rfl) e, c⟩
  | dT kvs =>
    obtain ⟨z, y, xs, r, ob, es, ep, e, c⟩ := x
    exact ⟨z, y, xs, Paired.mapP r fun p q z => ⟨z.1, ht _ _ z.2.1, z.2.2⟩, ob, es, ep, k _ _ (.inl rfl) e, c⟩
  | set S n => obtain ⟨ob, es, ep, t, e, c⟩ := x; exact ⟨ob, es, ep, t, k _ _ (.inl rfl) e, c⟩
  | ins C dx fs =>
    obtain ⟨d, z, ne, e, mA, ⟨od, es, ep, e2, c⟩, r⟩ := x
    exact ⟨ho _ d, z, ne, k _ _ (.inl rfl) e, mA, ⟨od, es, ep, k _ _ (.inr d) e2, c⟩, r⟩
  | own y => obtain ⟨ob, e⟩ := x; exact ⟨ob, k _ _ (.inl rfl) e⟩
  | xd fs => obtain ⟨mA, ⟨od, es, ep, e, c⟩, r⟩ := x; exact ⟨mA, ⟨od, es, ep, k _ _ (.inl rfl) e, c⟩, r⟩
  | rng lo hi => obtain ⟨t, u, v, e⟩ := x; exact ⟨t, u, v, k _ _ (.inl rfl) e⟩
  | frz ob u ih => obtain ⟨e, q⟩ := x; exact ⟨k _ _ (.inl rfl) e, ih q⟩
  | tbl ps =>
    have e : h.get? a = some { cls := .none, data := .fields ps } := x
    show h'.get? a = some { cls := .none, data := .fields ps }
    exact k a _ (.inl rfl) e
  | met f y =>
    have e : h.get? a = some (PySem.W.methodObj (.ref f) (.ref y)) := x
    show h'.get? a = some (PySem.W.methodObj (.ref f) (.ref y))
    exact k a _ (.inl rfl) e
  | ext φ => obtain ⟨p, ⟨o, e⟩, st⟩ := x; exact ⟨st _ _ p fun o q => k _ _ (.inl rfl) q, ⟨o, k _ _ (.inl rfl) e⟩, st⟩
theorem HOk.lt (x : HOk P w H h) (e : H a = some o) : a < h.objs.size := (x a o e).lt
theorem HOk.fresh (x : HOk P w H h) (e : h.objs.size ≤ a) : H a = none := by
  cases q : H a with
  | none => rfl
  | some u => exact absurd (Nat.lt_of_lt_of_le (x.lt q) e) (Nat.lt_irrefl _)
/-- every object of the heap is kept -/
theorem HOk.kept (x : HOk P w H h) (k : ∀ b u, h.get? b = some u → h'.get? b = some u) : HOk P w H h' := fun a o e =>
  (x a o e).stay (fun b u _ q => k b u q) (fun _ q => q) fun _ _ q => q
/-- a new object is laid and tracked -/
theorem HOk.laid (x : HOk P w H h) (k : ∀ b u, h.get? b = some u → h'.get? b = some u) (hp : h.objs.size ≤ a) (new : ObjOk P w (upd H a o) h' a o) : HOk P w (upd H a o) h' := fun b u e => by
  have hn := x.fresh hp
  by_cases hb : b = a
  · subst hb; rw [upd_same] at e; cases e; exact new
  · rw [upd_ne hb] at e
    exact (x b u e).stay (fun c v _ q => k c v q) (fun c q => by rw [upd_ne (ne_of_none q hn)]; exact q) fun c xs q => by rw [upd_ne (ne_of_none q hn)]; exact q
end
/-- what may be read as u: it is u, or a known u -/
def Rd (H : Hp) (a : Addr) (u : HO) : Prop := H a = some u ∨ ∃ o, H a = some (.frz o u)
theorem Rd.ok {P : Program} {w : World} {H : Hp} {h : Heap} {a : Addr} {u : HO} (r : Rd H a u) (x : HOk P w H h) : ObjOk P w H h a u := by
  rcases r with r | ⟨o, r⟩
  · exact x a u r
  · obtain ⟨_, q⟩ := x a _ r
    exact q
/-- what may be written -/
def Mut : Option HO → Prop
  | some (.lst _) => True
  | some (.dK _) => True
  | some (.dT _) => True
  | some (.set _ _) => True
  | some (.ins _ _ _) => True
  | some (.ext _) => True
  | _ => False
section
variable {P : Program} {w : World} {H : Hp} {h h' : Heap} {x e : Addr} {o' : HO}
/-- the object at e is changed: x itself, or the dict of the instance x -/
theorem HOk.write (ok : HOk P w H h) (mu : Mut (H x)) (he : e = x ∨ H e = some (.own x)) (k : ∀ b u, b ≠ e → h.get? b = some u → h'.get? b = some u) (heo : ∃ u, h'.get? e = some u)
    (new : ObjOk P w (upd H x o') h' x o') : HOk P w (upd H x o') h' := fun b u q => by
  have nown : ∀ c y, H c = some (.own y) → c ≠ x := fun c y r z => by subst z; rw [r] at mu; exact mu
  have ntup : ∀ c xs, H c = some (.tup xs) → c ≠ x := fun c xs r z => by subst z; rw [r] at mu; exact mu
  by_cases hb : b = x
  · subst hb; rw [upd_same] at q; cases q; exact new
  · rw [upd_ne hb] at q
    by_cases hbe : b = e
    · have q' : H b = some (.own x) := by
        rcases he with z | z
        · exact absurd (hbe.trans z) hb
        · rw [hbe]; exact z
      rw [q] at q'; cases q'
      obtain ⟨v, hv⟩ := heo
      exact ⟨v, by rw [hbe]; exact hv⟩
    · refine (ok b u q).stay (fun c v hc r => k c v ?_ r) (fun c r => by rw [upd_ne (nown c b r)]; exact r) fun c xs r => by rw [upd_ne (ntup c xs r)]; exact r
      rcases hc with rfl | hc
      · exact hbe
      · rintro rfl
        rcases he with z | z
        · exact nown c b hc z
        · rw [hc] at z; cases z; exact hb rfl
end
structure Un (fs ex : List Addr) (H H' : Hp) (h h' : Heap) : Prop where
  keep : ∀ b o, h.get? b = some o → H b = none → b ∉ fs → b ∉ ex → h'.get? b = some o
  slot : ∀ b o, h.get? b = some o → H b = none → b ∈ fs → b ∉ ex → ∃ sl, h'.get? b = some { o with slots := sl }
  free : ∀ b o, h.get? b = some o → H b = none → b ∉ ex → H' b = none
  there : ∀ b o, h.get? b = some o → b ∉ ex → ∃ o', h'.get? b = some o'
  tups : ∀ b xs, H b = some (.tup xs) → H' b = some (.tup xs)
  frzs : ∀ b o u, H b = some (.frz o u) → H' b = some (.frz o u)
  tbls : ∀ b ps, H b = some (.tbl ps) → ∃ more, H' b = some (.tbl (ps ++ more))
section
variable {fs fs' ex ex' : List Addr} {H H1 H2 : Hp} {h h1 h2 h' : Heap} {a x e : Addr} {o : HO}
theorem Un.any (u : Un fs ex H H1 h h1) {b : Addr} {ob : Obj} (q : h.get? b = some ob) (n : H b = none) (hx : b ∉ ex) : ∃ sl, h1.get? b = some { ob with slots := sl } := by
  by_cases hb : b ∈ fs
  · exact u.slot b ob q n hb hx
  · exact ⟨ob.slots, u.keep b ob q n hb hx⟩
theorem Un.kept (k : ∀ b u, h.get? b = some u → h'.get? b = some u) : Un fs ex H H h h' :=
  ⟨fun b ob q _ _ _ => k b ob q, fun b ob q _ _ _ => ⟨ob.slots, k b ob q⟩, fun _ _ _ n _ => n, fun b ob q _ => ⟨ob, k b ob q⟩, fun _ _ q => q, fun _ _ _ q => q, fun _ ps q => ⟨#[], by rw [q]; simp⟩⟩
theorem Un.refl : Un fs ex H H h h := Un.kept fun _ _ q => q
theorem Un.laid (k : ∀ b u, h.get? b = some u → h'.get? b = some u) (hp : h.objs.size ≤ a) (hn : H a = none) : Un fs ex H (upd H a o) h h' where
  keep := fun b u q _ _ _ => k b u q
  slot := fun b u q _ _ _ => ⟨u.slots, k b u q⟩
  free := fun b u q n _ => by rw [upd_ne (Nat.ne_of_lt (Nat.lt_of_lt_of_le (Heap.lt_size q) hp))]; exact n
  there := fun b u q _ => ⟨u, k b u q⟩
  tups := fun b xs q => by rw [upd_ne (ne_of_none q hn)]; exact q
  frzs := fun b u xs q => by rw [upd_ne (ne_of_none q hn)]; exact q
  tbls := fun b ps q => ⟨#[], by rw [upd_ne (ne_of_none q hn), q]; simp⟩
theorem Un.write (mu : Mut (H x)) (he : e = x ∨ H e = some (.own x)) (k : ∀ b u, b ≠ e → h.get? b = some u → h'.get? b = some u) (heo : ∃ u, h'.get? e = some u) : Un fs ex H (upd H x o) h h' := by
  have hx : ∀ b, H b = none → b ≠ x := fun b n z => by subst z; rw [n] at mu; exact mu
  have hb : ∀ b, H b = none → b ≠ e := fun b n z => by
    subst z
    rcases he with r | r
    · exact hx b n r
    · rw [n] at r; cases r
  have hm : ∀ b u, H b = some u → ¬ Mut (some u) → b ≠ x := fun b u q nm z => by subst z; rw [q] at mu; exact nm mu
  refine ⟨fun b u q n _ _ => k b u (hb b n) q, fun b u q n _ _ => ⟨u.slots, k b u (hb b n) q⟩, fun b u q n _ => by rw [upd_ne (hx b n)]; exact n, fun b u q _ => ?_,
    fun b xs q => by rw [upd_ne (hm b _ q fun z => z)]; exact q, fun b u xs q => by rw [upd_ne (hm b _ q fun z => z)]; exact q, fun b ps q => ⟨#[], by rw [upd_ne (hm b _ q fun z => z), q]; simp⟩⟩
  by_cases hbe : b = e
  · subst hbe; exact heo
  · exact ⟨u, k b u hbe q⟩
end
def trk (h : Heap) (H : Hp) : List Addr := (List.range h.objs.size).filter fun a => (H a).isSome
def hidT (h : Heap) (H : Hp) : Heap := PySem.W.hideAll h (trk h H)
theorem hidT_size (h : Heap) (H : Hp) : (hidT h H).objs.size = h.objs.size := PySem.W.hideAll_size _ _
theorem hidT_get {h : Heap} {H : Hp} {b : Addr} {o : Obj} (e : h.get? b = some o) (n : H b = none) : (hidT h H).get? b = some o :=
  PySem.W.hideAll_get _ e fun hm => by
    have q : (H b).isSome = true := (List.mem_filter.mp hm).2
    rw [n] at q; simp at q
theorem of_hidT {h : Heap} {H : Hp} {b : Addr} {o : Obj} (e : (hidT h H).get? b = some o) : h.get? b = some o ∧ H b = none := by
  have e' : h.get? b = some o := PySem.W.of_hideAll (trk h H) e
  refine ⟨e', ?_⟩
  cases q : H b with
  | none => rfl
  | some x =>
    have hm : b ∈ trk h H := List.mem_filter.mpr ⟨List.mem_range.mpr (Heap.lt_size e'), by simp [q]⟩
    have z : (hidT h H).get? b = none := PySem.W.hideAll_none (trk h H) hm
    rw [z] at e; cases e
end L2
namespace L2
open PySem PySem.Spec PyProof.Rows
/-- the module's facts, over the base: the heap at the law's entry without what is tracked there -/
structure Mod (K : PySem.W.Frag) (mg : Str → Option Value) (base : Heap) : Prop where
  kin : K.In base
  glob : base.Ns mainGlobals mg
  blt : ∃ mb, base.Ns builtinsNs mb ∧ ∀ x : Str, x ≠ "__name__" → mb x = bootBuiltins x
  nolimit : base.NoLimit
/-- the context: a def's body (or a comprehension's block) running. base: fixed through the whole law; s₀, H₀: the entry; outer: the frames whose slots others may change (a def's callers); stack: all frames that run;
   ex: iterators that were made ahead of the entry and are walked here (a comprehension's); fn: the names whose cells were made at the entry (a def: all; a comprehension's block: its own); calm: not within an except suite; pn: pins that every state bears; xe: what is wanted of an exception that leaves the code -/
structure Cx where
  prog : Program
  w : World
  K : PySem.W.Frag
  mg : Str → Option Value
  base : Heap
  A : Around
  N : List Str
  s₀ : Shared
  H₀ : Hp
  env : Env
  outer : List Env
  stack : List Env
  ex : List Addr
  fn : Str → Bool
  calm : Bool
  pn : List (Addr × Obj)
  xe : Value → Shared → Prop
/-- the callers' frames -/
def frs (l : List Env) : List Addr := l.filterMap (·.frame)
abbrev Cx.fs (X : Cx) : List Addr := frs X.outer
def Vis (sc : Scope) (x : Str) : Prop := sc.names.lookup x = some .local ∨ sc.names.lookup x = some .cell ∨ sc.names.lookup x = some .free
def Loc (sc : Scope) (x : Str) : Prop := sc.names.lookup x = some .local ∨ sc.names.lookup x = some .cell
def Look (env : Env) (h : Heap) (m : Str → Option Value) (x : Str) (u : Value) : Prop :=
  (env.kindOf x = some .local ∧ m x = some u) ∨ ((env.kindOf x = some .cell ∨ env.kindOf x = some .free) ∧ ∃ c, env.cells.lookup x = some c ∧ h.IsCell c (some u))
structure Cx.Ok (X : Cx) : Prop where
  mod : Mod X.K X.mg X.base
  kind : X.env.scope.kind = .function
  glob : X.env.globals = mainGlobals
  blt : X.env.builtins = builtinsNs
  above : X.s₀.heap.objs.size ≤ X.env.locals
  inj : ∀ x y c, X.env.cells.lookup x = some c → X.env.cells.lookup y = some c → x = y
  has : ∀ x, (X.env.kindOf x = some .cell ∨ X.env.kindOf x = some .free) → ∃ c, X.env.cells.lookup x = some c
  cab : ∀ x c, X.fn x = true → X.env.cells.lookup x = some c → X.s₀.heap.objs.size ≤ c
  hd : X.calm = true → X.A.handled = none
  frames : X.A.frames = some X.stack
  stk : X.stack = X.outer ∨ (X.stack = X.env :: X.outer ∧ X.env.frame = some X.env.locals)
  exf : ∀ b ∈ X.ex, b ≠ X.env.locals ∧ ∀ x c, X.env.cells.lookup x = some c → c ≠ b
  bs : ∀ b o, X.base.get? b = some o → X.s₀.heap.get? b = some o ∧ X.H₀ b = none
  bsz : X.base.objs.size ≤ X.s₀.heap.objs.size
  noex : ∀ b o, X.base.get? b = some o → b ∉ X.ex
  exfs : ∀ b ∈ X.ex, b ∉ X.fs
  funs : X.s₀.heap.FunFrames X.base X.outer
  frf : ∀ b ∈ X.fs, X.H₀ b = none
structure Inv (X : Cx) (pins : List (Addr × Obj)) (σ : List (Option V)) (H : Hp) (s : Shared) : Prop where
  ok : X.Ok
  os : s.os = X.s₀.os
  bare : AllBare s.gens
  base : Un X.fs X.ex X.H₀ H X.s₀.heap s.heap
  loc : ∃ m, s.heap.Ns X.env.locals m ∧ ∀ (i : Nat) (x : Str) (v : V), X.N[i]? = some x → σ[i]? = some (some v) → Vis X.env.scope x → ∃ u, RelV v u ∧ Look X.env s.heap m x u
  cell : ∀ x c, X.env.cells.lookup x = some c → ∃ v, s.heap.IsCell c v
  free : H X.env.locals = none
  freeC : ∀ x c, X.env.cells.lookup x = some c → H c = none
  pin : ∀ p ∈ X.pn ++ pins, s.heap.get? p.1 = some p.2 ∧ H p.1 = none ∧ p.1 ≠ X.env.locals ∧ p.1 ∉ X.fs ∧ ∀ v, p.2.data ≠ .cell v
  hok : HOk X.prog X.w H s.heap
  len : σ.length = X.N.length
section
variable {X : Cx} {pins : List (Addr × Obj)} {σ : List (Option V)} {H H' : Hp} {s : Shared} {h' : Heap}
theorem Cx.Ok.nofr (ok : X.Ok) {b : Addr} {o : Obj} (e : X.base.get? b = some o) : b ∉ X.fs := fun hb => by
  have := (ok.funs.mem hb).1
  rw [e] at this; cases this
theorem Inv.bs (I : Inv X pins σ H s) : ∀ b o, X.base.get? b = some o → s.heap.get? b = some o ∧ H b = none := fun b o e =>
  ⟨I.base.keep b o (I.ok.bs b o e).1 (I.ok.bs b o e).2 (I.ok.nofr e) (I.ok.noex b o e), I.base.free b o (I.ok.bs b o e).1 (I.ok.bs b o e).2 (I.ok.noex b o e)⟩
theorem Inv.bk (I : Inv X pins σ H s) : ∀ b o, X.base.get? b = some o → s.heap.get? b = some o := fun b o e => (I.bs b o e).1
theorem Inv.mod (I : Inv X pins σ H s) : Mod X.K X.mg X.base := I.ok.mod
theorem Inv.kIn (I : Inv X pins σ H s) : X.K.In s.heap := I.ok.mod.kin.keeps I.bk
theorem Inv.lt (I : Inv X pins σ H s) : X.env.locals < s.heap.objs.size := let ⟨_, hn, _⟩ := I.loc; hn.lt
theorem Inv.sz (I : Inv X pins σ H s) : X.s₀.heap.objs.size ≤ s.heap.objs.size := Nat.le_trans I.ok.above (Nat.le_of_lt I.lt)
theorem Inv.nofs (I : Inv X pins σ H s) {a : Addr} (h : s.heap.objs.size ≤ a) : a ∉ X.fs := fun hb => by
  obtain ⟨_, o, ho, _⟩ := I.ok.funs.mem hb
  exact absurd (Nat.lt_of_lt_of_le (Heap.lt_size ho) (Nat.le_trans I.sz h)) (Nat.lt_irrefl _)
theorem Inv.cne (I : Inv X pins σ H s) : ∀ x c, X.env.cells.lookup x = some c → c ≠ X.env.locals := fun x c e z => by
  obtain ⟨v, o, ho, hd⟩ := I.cell x c e
  obtain ⟨m, ⟨o', es, ep, ho', hd', _⟩, _⟩ := I.loc
  rw [z, ho'] at ho; cases ho; rw [hd'] at hd; cases hd
theorem Inv.funs (I : Inv X pins σ H s) : s.heap.FunFrames X.base X.outer := by
  have all : ∀ (l : List Env), (∀ b ∈ frs l, b ∈ X.fs) → X.s₀.heap.FunFrames X.base l → s.heap.FunFrames X.base l := by
    intro l
    induction l with
    | nil => intro _ _; trivial
    | cons env r ih =>
      intro hs hl
      obtain ⟨hk, ⟨L, o, hf, hn, ho, hd⟩, hr⟩ := hl
      have hL : L ∈ X.fs := hs L (by unfold frs; rw [List.filterMap_cons, hf]; exact List.mem_cons_self)
      obtain ⟨sl, e⟩ := I.base.slot L o ho (I.ok.frf L hL) hL fun z => I.ok.exfs L z hL
      exact ⟨hk, ⟨L, _, hf, hn, e, hd⟩, ih (fun b hb => hs b (by unfold frs; rw [List.filterMap_cons, hf]; exact List.mem_cons_of_mem _ hb)) hr⟩
  exact all X.outer (fun _ hb => hb) I.ok.funs
/-- the frames that run, for a call -/
theorem Inv.stack (I : Inv X pins σ H s) : s.heap.FunFrames X.base X.stack := by
  rcases I.ok.stk with e | ⟨e, hf⟩
  · rw [e]; exact I.funs
  · rw [e]
    obtain ⟨m, hn, _⟩ := I.loc
    refine .cons (by rw [I.ok.kind]; decide) hf hn ?_ I.funs
    exact Heap.get?_none_of_le (Nat.le_trans I.ok.bsz I.ok.above)
theorem Inv.stkSub (I : Inv X pins σ H s) : ∀ b ∈ frs X.stack, b ∈ X.env.locals :: X.fs := fun b hb => by
  rcases I.ok.stk with e | ⟨e, hf⟩
  · rw [e] at hb; exact List.mem_cons_of_mem _ hb
  · rw [e] at hb
    unfold frs at hb
    rw [List.filterMap_cons, hf] at hb
    exact hb
theorem Inv.stkFree (I : Inv X pins σ H s) : ∀ b ∈ frs X.stack, H b = none := fun b hb => by
  rcases List.mem_cons.mp (I.stkSub b hb) with e | hb
  · rw [e]; exact I.free
  · obtain ⟨_, o, ho, _⟩ := I.ok.funs.mem hb
    exact I.base.free b o ho (I.ok.frf b hb) fun z => I.ok.exfs b z hb
/-- THE STEP: the untracked objects but the frame and the records at ch are kept (the callers' frames up to slots), the frame's map is kept, the new abstract heap is held -/
theorem Inv.step {g' : Array GenState} {t' : Nat} {d' : Drawn} {ch : List Addr} (I : Inv X pins σ H s)
    (hch : ∀ b ∈ ch, (b ∈ X.ex ∨ X.s₀.heap.objs.size ≤ b) ∧ b ≠ X.env.locals ∧ (∀ x c, X.env.cells.lookup x = some c → c ≠ b) ∧ ∀ p ∈ X.pn ++ pins, p.1 ≠ b)
    (keep : ∀ b o, b ≠ X.env.locals → b ∉ X.fs → b ∉ ch → s.heap.get? b = some o → H b = none → h'.get? b = some o)
    (slot : ∀ b o, b ≠ X.env.locals → b ∈ X.fs → b ∉ ch → s.heap.get? b = some o → H b = none → ∃ sl, h'.get? b = some { o with slots := sl }) (free : ∀ b o, b ∉ ch → s.heap.get? b = some o → H b = none → H' b = none)
    (there : ∀ b o, b ∉ ch → s.heap.get? b = some o → ∃ o', h'.get? b = some o')
    (tups : ∀ b xs, H b = some (.tup xs) → H' b = some (.tup xs)) (frzs : ∀ b o u, H b = some (.frz o u) → H' b = some (.frz o u)) (tbls : ∀ b ps, H b = some (.tbl ps) → ∃ more, H' b = some (.tbl (ps ++ more)))
    (ns : ∀ m, s.heap.Ns X.env.locals m → h'.Ns X.env.locals m) (hok : HOk X.prog X.w H' h') (hg : AllBare g') :
    Inv X pins σ H' { s with heap := h', gens := g', drawn := d', toks := t' } := by
  have neL : ∀ b o, X.s₀.heap.get? b = some o → b ≠ X.env.locals := fun b o e => Nat.ne_of_lt (Nat.lt_of_lt_of_le (Heap.lt_size e) I.ok.above)
  have neC : ∀ b o, X.s₀.heap.get? b = some o → b ∉ X.ex → b ∉ ch := fun b o e hx hb => by
    rcases (hch b hb).1 with z | z
    · exact hx z
    · exact absurd (Nat.lt_of_lt_of_le (Heap.lt_size e) z) (Nat.lt_irrefl _)
  have cellK : ∀ x c, X.env.cells.lookup x = some c → ∀ v, s.heap.IsCell c v → h'.IsCell c v := fun x c e v ⟨o, ho, hd⟩ => by
    have nch : c ∉ ch := fun z => (hch c z).2.2.1 x c e rfl
    by_cases hc : c ∈ X.fs
    · obtain ⟨sl, q⟩ := slot c o (I.cne x c e) hc nch ho (I.freeC x c e)
      exact ⟨_, q, hd⟩
    · exact ⟨o, keep c o (I.cne x c e) hc nch ho (I.freeC x c e), hd⟩
  refine ⟨I.ok, I.os, hg, ⟨fun b o e n hb hx => ?_, fun b o e n hb hx => ?_, fun b o e n hx => ?_, fun b o e hx => ?_, fun b xs e => tups b xs (I.base.tups b xs e), fun b o xs e => frzs b o xs (I.base.frzs b o xs e), fun b ps e => ?_⟩, ?_, fun x c e => ?_, ?_, fun x c e => ?_, fun p hp => ?_, hok, I.len⟩
  · exact keep b o (neL b o e) hb (neC b o e hx) (I.base.keep b o e n hb hx) (I.base.free b o e n hx)
  · obtain ⟨sl, e1⟩ := I.base.slot b o e n hb hx
    obtain ⟨sl', e2⟩ := slot b _ (neL b o e) hb (neC b o e hx) e1 (I.base.free b o e n hx)
    exact ⟨sl', e2⟩
  · obtain ⟨o', e1⟩ := I.base.there b o e hx
    exact free b o' (neC b o e hx) e1 (I.base.free b o e n hx)
  · obtain ⟨o', e1⟩ := I.base.there b o e hx
    exact there b o' (neC b o e hx) e1
  · obtain ⟨m1, e1⟩ := I.base.tbls b ps e
    obtain ⟨m2, e2⟩ := tbls b _ e1
    exact ⟨m1 ++ m2, by rw [e2, Array.append_assoc]⟩
  · obtain ⟨m, hn, hl⟩ := I.loc
    refine ⟨m, ns m hn, fun i x v e1 e2 e3 => ?_⟩
    obtain ⟨u, r, l⟩ := hl i x v e1 e2 e3
    refine ⟨u, r, ?_⟩
    rcases l with l | ⟨k, c, e, z⟩
    · exact .inl l
    · exact .inr ⟨k, c, e, cellK x c e _ z⟩
  · obtain ⟨v, z⟩ := I.cell x c e
    exact ⟨v, cellK x c e v z⟩
  · obtain ⟨m, ⟨o, _, _, ho, _⟩, _⟩ := I.loc
    exact free _ o (fun z => (hch _ z).2.1 rfl) ho I.free
  · obtain ⟨v, o, ho, hd⟩ := I.cell x c e
    exact free c o (fun z => (hch c z).2.2.1 x c e rfl) ho (I.freeC x c e)
  · obtain ⟨e, n, ne, nf, d⟩ := I.pin p hp
    have nch : p.1 ∉ ch := fun z => (hch p.1 z).2.2.2 p hp rfl
    exact ⟨keep p.1 p.2 ne nf nch e n, free p.1 p.2 nch e n, ne, nf, d⟩
/-- .. where the frame's own object is kept too -/
theorem Inv.un {t' : Nat} (I : Inv X pins σ H s) (u : Un X.fs [] H H' s.heap h') (hok : HOk X.prog X.w H' h') : Inv X pins σ H' { s with heap := h', toks := t' } := by
  obtain ⟨m, ⟨o, es, ep, ho, r⟩, _⟩ := id I.loc
  obtain ⟨sl, hL⟩ := u.any ho I.free (by simp)
  exact I.step (g' := s.gens) (d' := s.drawn) (ch := []) (fun _ z => nomatch z) (fun b o _ hb _ e n => u.keep b o e n hb (by simp)) (fun b o _ hb _ e n => u.slot b o e n hb (by simp)) (fun b o _ e n => u.free b o e n (by simp)) (fun b o _ e => u.there b o e (by simp)) u.tups u.frzs u.tbls (fun m' hm => by
    obtain ⟨o', es', ep', ho', r'⟩ := hm
    rw [ho] at ho'; cases ho'
    exact ⟨_, es', ep', hL, r'⟩) hok I.bare
/-- behind a call (or a comprehension's block): the slots of this frame may have changed too, the records at ch may have turned -/
theorem Inv.call {g' : Array GenState} {t' : Nat} {d' : Drawn} {ch : List Addr} (I : Inv X pins σ H s) (u : Un (frs X.stack) ch H H' s.heap h') (hok : HOk X.prog X.w H' h') (hg : AllBare g')
    (hch : ∀ b ∈ ch, (b ∈ X.ex ∨ X.s₀.heap.objs.size ≤ b) ∧ b ≠ X.env.locals ∧ (∀ x c, X.env.cells.lookup x = some c → c ≠ b) ∧ ∀ p ∈ X.pn ++ pins, p.1 ≠ b) :
    Inv X pins σ H' { s with heap := h', gens := g', drawn := d', toks := t' } := by
  obtain ⟨m, ⟨o, es, ep, ho, r⟩, _⟩ := id I.loc
  obtain ⟨sl, hL⟩ := u.any ho I.free fun z => (hch _ z).2.1 rfl
  exact I.step (ch := ch) hch (fun b o hL hb hc e n => u.keep b o e n (fun z => (List.mem_cons.mp (I.stkSub b z)).elim hL hb) hc) (fun b o _ _ hc e n => u.any e n hc) (fun b o hc e n => u.free b o e n hc) (fun b o hc e => u.there b o e hc) u.tups u.frzs u.tbls (fun m' hm => by
    obtain ⟨o', es', ep', ho', r'⟩ := hm
    rw [ho] at ho'; cases ho'
    exact ⟨_, es', ep', hL, r'⟩) hok hg
/-- an untracked record of ours (an iterator) has turned -/
theorem Inv.turned {t' : Nat} {it : Addr} (I : Inv X pins σ H s) (k : ∀ b o, b ≠ it → s.heap.get? b = some o → h'.get? b = some o) (hn : H it = none) (hL : it ≠ X.env.locals)
    (h1 : it ∈ X.ex ∨ X.s₀.heap.objs.size ≤ it) (h2 : ∀ x c, X.env.cells.lookup x = some c → c ≠ it) (h3 : ∀ p ∈ X.pn ++ pins, p.1 ≠ it) : Inv X pins σ H { s with heap := h', toks := t' } := by
  have nit : ∀ b u, H b = some u → b ≠ it := fun b u e z => by rw [z, hn] at e; cases e
  refine I.step (g' := s.gens) (d' := s.drawn) (ch := [it]) (fun b hb => ?_) (fun b o _ _ hc e _ => k b o (fun z => hc (by simp [z])) e) (fun b o _ _ hc e _ => ⟨o.slots, k b o (fun z => hc (by simp [z])) e⟩) (fun _ _ _ _ n => n)
    (fun b o hc e => ⟨o, k b o (fun z => hc (by simp [z])) e⟩) (fun _ _ e => e) (fun _ _ _ e => e) (fun b ps e => ⟨#[], by rw [e]; simp⟩) (fun m hm => ?_) (fun b u e => ?_) I.bare
  · have e : b = it := by simpa using hb
    subst e
    exact ⟨h1, hL, h2, h3⟩
  · obtain ⟨o, es, ep, ho, r⟩ := hm
    exact ⟨o, es, ep, k _ o (Ne.symm hL) ho, r⟩
  · refine (I.hok b u e).stay (fun c v hc q => k c v ?_ q) (fun _ q => q) fun _ _ q => q
    rcases hc with z | z
    · rw [z]; exact nit b u e
    · exact nit c _ z
theorem Inv.tok (I : Inv X pins σ H s) (t : Nat) : Inv X pins σ H { s with toks := t } := I.un (h' := s.heap) (t' := t) Un.refl I.hok
/-- all objects kept -/
theorem Inv.kept {t' : Nat} (I : Inv X pins σ H s) (k : ∀ b u, s.heap.get? b = some u → h'.get? b = some u) : Inv X pins σ H { s with heap := h', toks := t' } := I.un (Un.kept k) (I.hok.kept k)
/-- a new object laid and tracked -/
theorem Inv.laid {a : Addr} {o : HO} {t' : Nat} (I : Inv X pins σ H s) (k : ∀ b u, s.heap.get? b = some u → h'.get? b = some u) (hp : s.heap.objs.size ≤ a) (new : ObjOk X.prog X.w (upd H a o) h' a o) :
    Inv X pins σ (upd H a o) { s with heap := h', toks := t' } := I.un (Un.laid k hp (I.hok.fresh hp)) (I.hok.laid k hp new)
/-- an object written -/
theorem Inv.write {x e : Addr} {o : HO} {t' : Nat} (I : Inv X pins σ H s) (mu : Mut (H x)) (he : e = x ∨ H e = some (.own x)) (k : ∀ b u, b ≠ e → s.heap.get? b = some u → h'.get? b = some u) (heo : ∃ u, h'.get? e = some u)
    (new : ObjOk X.prog X.w (upd H x o) h' x o) : Inv X pins σ (upd H x o) { s with heap := h', toks := t' } := I.un (Un.write mu he k heo) (I.hok.write mu he k heo new)
theorem Inv.pins_of {pins' : List (Addr × Obj)} (I : Inv X pins σ H s) (h : ∀ p ∈ pins', s.heap.get? p.1 = some p.2 ∧ H p.1 = none ∧ p.1 ≠ X.env.locals ∧ p.1 ∉ X.fs ∧ ∀ v, p.2.data ≠ .cell v) : Inv X pins' σ H s :=
  ⟨I.ok, I.os, I.bare, I.base, I.loc, I.cell, I.free, I.freeC, fun p hp => (List.mem_append.mp hp).elim (fun z => I.pin p (List.mem_append_left _ z)) (h p), I.hok, I.len⟩
theorem nodup_ix {N : List Str} (hN : N.Nodup) {i j : Nat} {x : Str} (a : N[i]? = some x) (b : N[j]? = some x) : i = j := by
  obtain ⟨h1, e1⟩ := List.getElem?_eq_some_iff.mp a
  obtain ⟨h2, e2⟩ := List.getElem?_eq_some_iff.mp b
  exact (List.getElem_inj hN).mp (e1.trans e2.symm)
/-- a name is stored; what changed -/
theorem store_ok2 {M : Model} {A : Around} {E : Value → Shared → Prop} {i : Nat} {x : Str} {v : V} {u : Value} {Q : Unit → Shared → Prop} (I : Inv X pins σ H s) (hN : X.N.Nodup) (hi : X.N[i]? = some x) (hx : Loc X.env.scope x) (r : RelV v u)
    (h : ∀ s', Inv X pins (σ.set i (some v)) H s' → (∃ a, Heap.SameBut a s.heap s'.heap ∧ (a = X.env.locals ∨ X.env.cells.lookup x = some a)) → Q () s') (hf : X.fn x = true ∨ X.env.scope.names.lookup x = some .local := by first | exact .inl rfl | exact .inr rfl | assumption) : wpAny M A (storeName X.env x u) Q E s := by
  obtain ⟨m, hn, hl⟩ := id I.loc
  have hcls : (X.env.scope.kind == .class || (X.env.scope.kind == .module && X.env.locals != X.env.globals)) = false := by rw [I.ok.kind]; rfl
  have hiσ : i < σ.length := by rw [I.len]; exact (List.getElem?_eq_some_iff.mp hi).1
  have cne := I.cne
  have tracked : ∀ {a : Addr} {h' : Heap}, (∃ o, s.heap.get? a = some o ∧ H a = none) → Heap.SameBut a s.heap h' → HOk X.prog X.w H h' := fun {a h'} ha hs b ob e => by
    obtain ⟨_, _, hfree⟩ := ha
    refine (I.hok b ob e).stay (fun c w' hc q => (hs.2 c ?_).trans q) (fun _ q => q) fun _ _ q => q
    rintro rfl
    rcases hc with rfl | hc
    · rw [hfree] at e; cases e
    · rw [hfree] at hc; cases hc
  rcases hx with hk | hk
  · refine wpAny_storeName_local hk hn (fun h' hn' hs => ?_) hcls
    obtain ⟨oL, _, _, hoL, _⟩ := id hn
    refine h _ ⟨I.ok, I.os, I.bare, ⟨fun b o e n hb hx => ?_, fun b o e n hb hx => ?_, I.base.free, fun b o e hx => ?_, I.base.tups, I.base.frzs, I.base.tbls⟩, ⟨_, hn', fun j y v' e1 e2 e3 => ?_⟩, fun y c e => ?_, I.free, I.freeC, fun p hp => ?_, tracked ⟨oL, hoL, I.free⟩ hs, by simpa using I.len⟩ ⟨_, hs, .inl rfl⟩
    · exact (hs.2 b (Nat.ne_of_lt (Nat.lt_of_lt_of_le (Heap.lt_size e) I.ok.above))).trans (I.base.keep b o e n hb hx)
    · obtain ⟨sl, e1⟩ := I.base.slot b o e n hb hx
      exact ⟨sl, (hs.2 b (Nat.ne_of_lt (Nat.lt_of_lt_of_le (Heap.lt_size e) I.ok.above))).trans e1⟩
    · obtain ⟨o', e1⟩ := I.base.there b o e hx
      exact ⟨o', (hs.2 b (Nat.ne_of_lt (Nat.lt_of_lt_of_le (Heap.lt_size e) I.ok.above))).trans e1⟩
    · by_cases hj : j = i
      · subst hj
        rw [hi] at e1; cases e1
        rw [List.getElem?_set_self hiσ] at e2
        cases e2
        exact ⟨u, r, .inl ⟨hk, by simp⟩⟩
      · rw [List.getElem?_set_ne (Ne.symm hj)] at e2
        obtain ⟨u', r', q⟩ := hl j y v' e1 e2 e3
        refine ⟨u', r', ?_⟩
        rcases q with ⟨k, e⟩ | ⟨k, c, e, z⟩
        · refine .inl ⟨k, ?_⟩
          have : y ≠ x := fun e => hj (nodup_ix hN e1 (e ▸ hi))
          simp [this, e]
        · exact .inr ⟨k, c, e, z.sameBut hs (cne y c e)⟩
    · obtain ⟨w', z⟩ := I.cell y c e
      exact ⟨w', z.sameBut hs (cne y c e)⟩
    · obtain ⟨e, n, ne, nf, d⟩ := I.pin p hp
      exact ⟨(hs.2 p.1 ne).trans e, n, ne, nf, d⟩
  · have hfn : X.fn x = true := by
      rcases hf with z | z
      · exact z
      · rw [z] at hk; cases hk
    obtain ⟨c, hc⟩ := I.ok.has x (.inl hk)
    obtain ⟨w', z⟩ := I.cell x c hc
    refine wpAny_storeName_cell I.ok.kind hk hc z (fun h' hc' hs => ?_)
    obtain ⟨oc, hoc, hocd⟩ := id z
    refine h { s with heap := h' } ⟨I.ok, I.os, I.bare, ⟨fun b o e n hb hx => ?_, fun b o e n hb hx => ?_, I.base.free, fun b o e hx => ?_, I.base.tups, I.base.frzs, I.base.tbls⟩, ⟨m, hn.sameBut hs (Ne.symm (cne x c hc)), fun j y v' e1 e2 e3 => ?_⟩, fun y c' e => ?_, I.free, I.freeC, fun p hp => ?_, tracked ⟨oc, hoc, I.freeC x c hc⟩ hs, by simpa using I.len⟩ ⟨c, hs, .inr hc⟩
    · exact (hs.2 b (Nat.ne_of_lt (Nat.lt_of_lt_of_le (Heap.lt_size e) (I.ok.cab x c hfn hc)))).trans (I.base.keep b o e n hb hx)
    · obtain ⟨sl, e1⟩ := I.base.slot b o e n hb hx
      exact ⟨sl, (hs.2 b (Nat.ne_of_lt (Nat.lt_of_lt_of_le (Heap.lt_size e) (I.ok.cab x c hfn hc)))).trans e1⟩
    · obtain ⟨o', e1⟩ := I.base.there b o e hx
      exact ⟨o', (hs.2 b (Nat.ne_of_lt (Nat.lt_of_lt_of_le (Heap.lt_size e) (I.ok.cab x c hfn hc)))).trans e1⟩
    · by_cases hj : j = i
      · subst hj
        rw [hi] at e1; cases e1
        rw [List.getElem?_set_self hiσ] at e2
        cases e2
        exact ⟨u, r, .inr ⟨.inl hk, c, hc, hc'⟩⟩
      · rw [List.getElem?_set_ne (Ne.symm hj)] at e2
        obtain ⟨u', r', q⟩ := hl j y v' e1 e2 e3
        refine ⟨u', r', ?_⟩
        rcases q with q | ⟨k, c', e, z'⟩
        · exact .inl q
        · refine .inr ⟨k, c', e, z'.sameBut hs ?_⟩
          rintro rfl
          exact hj (nodup_ix hN e1 (I.ok.inj _ _ _ e hc ▸ hi))
    · by_cases hcc : c' = c
      · subst hcc; exact ⟨_, hc'⟩
      · obtain ⟨w2, z2⟩ := I.cell y c' e
        exact ⟨w2, z2.sameBut hs hcc⟩
    · obtain ⟨e, n, ne, nf, d⟩ := I.pin p hp
      refine ⟨(hs.2 p.1 ?_).trans e, n, ne, nf, d⟩
      intro q
      rw [q, hoc] at e
      have q' : oc = p.2 := Option.some.inj e
      exact d w' (by rw [← q']; exact hocd)
theorem store_ok {M : Model} {A : Around} {E : Value → Shared → Prop} {i : Nat} {x : Str} {v : V} {u : Value} {Q : Unit → Shared → Prop} (I : Inv X pins σ H s) (hN : X.N.Nodup) (hi : X.N[i]? = some x) (hx : Loc X.env.scope x) (r : RelV v u)
    (h : ∀ s', Inv X pins (σ.set i (some v)) H s' → Q () s') (hf : X.fn x = true ∨ X.env.scope.names.lookup x = some .local := by first | exact .inl rfl | exact .inr rfl | assumption) : wpAny M A (storeName X.env x u) Q E s :=
  store_ok2 I hN hi hx r (fun s' I' _ => h s' I') hf
/-- behind a call or a block, the state as it is -/
theorem Inv.call' {s' : Shared} {ch : List Addr} (I : Inv X pins σ H s) (ho : s'.os = s.os) (u : Un (frs X.stack) ch H H' s.heap s'.heap) (hok : HOk X.prog X.w H' s'.heap) (hg : AllBare s'.gens)
    (hch : ∀ b ∈ ch, (b ∈ X.ex ∨ X.s₀.heap.objs.size ≤ b) ∧ b ≠ X.env.locals ∧ (∀ x c, X.env.cells.lookup x = some c → c ≠ b) ∧ ∀ p ∈ X.pn ++ pins, p.1 ≠ b) : Inv X pins σ H' s' := by
  obtain ⟨h', g', d', t', o'⟩ := s'
  have e : o' = s.os := ho
  subst e
  exact I.call (g' := g') (t' := t') (d' := d') u hok hg hch
end
/-- an exception: its class, its own dict's address (where it has one), the abstract heap behind it -/
abbrev XK := Value → Option Addr → Hp → Prop
abbrev St := List (Option V)
abbrev VK := V → Hp → Prop
/-- an expression's reading; a test's; an argument list's -/
abbrev TE := St → Hp → VK → Prop
abbrev TT := St → Hp → (Bool → Hp → Prop) → Prop
abbrev TA := St → Hp → (List V → Hp → Prop) → Prop
/-- what is wanted behind a statement -/
structure Ends where
  nx : St → Hp → Prop
  rt : V → St → Hp → Prop
  bk : St → Hp → Prop := fun _ _ => False
  ct : St → Hp → Prop := fun _ _ => False
abbrev TS := Ends → St → Hp → Prop
def EP (X : Cx) (pins : List (Addr × Obj)) (σ : St) (Q : VK) (u : Value) (s' : Shared) : Prop := ∃ v H', Inv X pins σ H' s' ∧ RelV v u ∧ Q v H'
def TP (X : Cx) (pins : List (Addr × Obj)) (σ : St) (Q : Bool → Hp → Prop) (b : Bool) (s' : Shared) : Prop := ∃ H', Inv X pins σ H' s' ∧ Q b H'
def AP (X : Cx) (pins : List (Addr × Obj)) (σ : St) (Q : List V → Hp → Prop) (us : List Value) (s' : Shared) : Prop := ∃ vs H', Inv X pins σ H' s' ∧ Vals vs us ∧ Q vs H'
def SP (X : Cx) (pins : List (Addr × Obj)) (D : Ends) (f : Flow) (s' : Shared) : Prop :=
  match f with
  | .next => ∃ σ' H', Inv X pins σ' H' s' ∧ D.nx σ' H'
  | .brk => ∃ σ' H', Inv X pins σ' H' s' ∧ D.bk σ' H'
  | .cont => ∃ σ' H', Inv X pins σ' H' s' ∧ D.ct σ' H'
  | .ret u => ∃ v σ' H', Inv X pins σ' H' s' ∧ RelV v u ∧ D.rt v σ' H'
def PE (X : Cx) (e : Expr) (t : TE) : Prop :=
  ∀ (pins : List (Addr × Obj)) (s : Shared) (σ : St) (H : Hp) (Q : VK), Inv X pins σ H s → t σ H Q → wpAny (model X.prog X.w) X.A (eval e X.env) (EP X pins σ Q) X.xe s
def PT (X : Cx) (e : Expr) (t : TT) : Prop :=
  ∀ (pins : List (Addr × Obj)) (s : Shared) (σ : St) (H : Hp) (Q : Bool → Hp → Prop), Inv X pins σ H s → t σ H Q → wpAny (model X.prog X.w) X.A (isTrue e X.env (eval e X.env)) (TP X pins σ Q) X.xe s
/-- a test whatever its 'whole' is (and, or) -/
def PW (X : Cx) (e : Expr) (t : TT) : Prop :=
  ∀ (whole : Sem Value) (pins : List (Addr × Obj)) (s : Shared) (σ : St) (H : Hp) (Q : Bool → Hp → Prop), Inv X pins σ H s → t σ H Q → wpAny (model X.prog X.w) X.A (isTrue e X.env whole) (TP X pins σ Q) X.xe s
theorem PW.pt {X : Cx} {e : Expr} {t : TT} (h : PW X e t) : PT X e t := h _
/-- an argument list (no star), from the left -/
def PA (X : Cx) (es : List Expr) (t : TA) : Prop :=
  ∀ (pos : Pos) (pins : List (Addr × Obj)) (s : Shared) (σ : St) (H : Hp) (Q : List V → Hp → Prop), Inv X pins σ H s → t σ H Q → wpAny (model X.prog X.w) X.A (spliced (backTo pos (starEach es X.env))) (AP X pins σ Q) X.xe s
def PS (X : Cx) (st : Stmt) (t : TS) : Prop :=
  ∀ (pins : List (Addr × Obj)) (s : Shared) (σ : St) (H : Hp) (D : Ends), Inv X pins σ H s → t D σ H → wpAny (model X.prog X.w) X.A (exec st X.env) (SP X pins D) X.xe s
def PSs (X : Cx) (st : List Stmt) (t : TS) : Prop :=
  ∀ (pins : List (Addr × Obj)) (s : Shared) (σ : St) (H : Hp) (D : Ends), Inv X pins σ H s → t D σ H → wpAny (model X.prog X.w) X.A (execs st X.env) (SP X pins D) X.xe s
/-- weaken the end -/
theorem thn {α : Type} {t : Sem α} {Q Q' : α → Shared → Prop} {M : Model} {A : Around} {E : Value → Shared → Prop} {s : Shared} (h : wpAny M A t Q E s) (hQ : ∀ a s, Q a s → Q' a s) : wpAny M A t Q' E s := wpAny_mono h hQ fun _ _ x => x
end L2
namespace L2
open PySem PySem.Spec PyProof.Rows
section
variable {X : Cx}
/-- two expressions in a row -/
theorem bin {a b : Expr} {ta tb : TE} (ha : PE X a ta) (hb : PE X b tb) {pins : List (Addr × Obj)} {s : Shared} {σ : St} {H : Hp} {R : V → V → Hp → Prop} (I : Inv X pins σ H s) (h : ta σ H fun x H1 => tb σ H1 fun y H2 => R x y H2)
    {α : Type} {Q : α → Shared → Prop} {f : Value → Value → Sem α}
    (hf : ∀ v u s2 x y H2, Inv X pins σ H2 s2 → RelV x v → RelV y u → R x y H2 → wpAny (model X.prog X.w) X.A (f v u) Q X.xe s2) :
    wpAny (model X.prog X.w) X.A (eval a X.env) (fun v s₁ => wpAny (model X.prog X.w) X.A (eval b X.env) (fun u s₂ => wpAny (model X.prog X.w) X.A (f v u) Q X.xe s₂) X.xe s₁) X.xe s := by
  refine thn (ha pins s σ H _ I h) fun v s1 ⟨x, H1, I1, r1, q1⟩ => ?_
  refine thn (hb pins s1 σ H1 _ I1 q1) fun u s2 ⟨y, H2, I2, r2, q2⟩ => ?_
  exact hf v u s2 x y H2 I2 r1 r2 q2
def tVar (i : Nat) : TE := fun σ H Q => ∃ v, σ[i]? = some (some v) ∧ Q v H
def tC (v : V) : TE := fun _ H Q => Q v H
theorem pe_var {i : Nat} {x : Str} {pos : Pos} (hN : X.N[i]? = some x) (hv : Vis X.env.scope x) (hd : (x == ("__debug__" : Str)) = false := by decide) (hcd : (x == ("__classdict__" : Str)) = false := by decide) : PE X (.Name x pos) (tVar i) := by
  intro pins s σ H Q I h
  obtain ⟨v, e, h⟩ := h
  obtain ⟨m, hn, hl⟩ := I.loc
  obtain ⟨u, r, l⟩ := hl i x v hN e hv
  have fin : EP X pins σ Q u s := ⟨v, H, I, r, h⟩
  rcases l with ⟨hk, hm⟩ | ⟨hk, c, hc, hcell⟩
  · exact wpAny_Name (wpAny_loadName_local I.ok.kind hk hn hm fin) hd
  · rcases hk with hk | hk
    · exact wpAny_Name (wpAny_loadName_cell I.ok.kind hk hc hcell fin) hd
    · exact wpAny_Name (wpAny_loadName_free I.ok.kind hk hc hcell fin hcd) hd
theorem pe_int {i j pos} : PE X (.Constant (.int i) j pos) (tC (.int i)) := fun _ _ _ H _ I h => wpAny_Constant_int ⟨.int i, H, I.tok _, ⟨_, rfl⟩, h⟩
theorem pe_bl {b j pos} : PE X (.Constant (.bool b) j pos) (tC (.bl b)) := fun _ _ _ H _ I h => Constant_bool ⟨.bl b, H, I, rfl, h⟩
theorem pe_str {x j pos} : PE X (.Constant (.str x) j pos) (tC (.str x)) := fun _ _ _ H _ I h => Calls.Constant_str ⟨.str x, H, I.tok _, ⟨_, rfl⟩, h⟩
/-- a global name of the def -/
def Gl (X : Cx) (x : Str) : Prop := X.env.kindOf x = some .globalImplicit
theorem ld_glob {E : Value → Shared → Prop} {pins : List (Addr × Obj)} {s : Shared} {σ : St} {H : Hp} {x : Str} {u : Value} {pos : Pos} {Q : Value → Shared → Prop} (I : Inv X pins σ H s) (hg : Gl X x) (hm : X.mg x = some u) (h : Q u s)
    (hd : (x == ("__debug__" : Str)) = false := by decide) : wpAny (model X.prog X.w) X.A (eval (.Name x pos) X.env) Q E s :=
  Calls.Name_function_global I.ok.kind hg (Calls.loadGlobal_global (by rw [I.ok.glob]; exact I.mod.glob.keeps I.bk) hm h) hd
theorem ld_blt {E : Value → Shared → Prop} {pins : List (Addr × Obj)} {s : Shared} {σ : St} {H : Hp} {x : Str} {u : Value} {pos : Pos} {Q : Value → Shared → Prop} (I : Inv X pins σ H s) (hg : Gl X x) (hm : X.mg x = none) (hv : bootBuiltins x = some u) (h : Q u s)
    (hn : x ≠ "__name__" := by decide) (hd : (x == ("__debug__" : Str)) = false := by decide) : wpAny (model X.prog X.w) X.A (eval (.Name x pos) X.env) Q E s := by
  obtain ⟨mb, h1, h2⟩ := I.mod.blt
  exact Calls.Name_function_global I.ok.kind hg (Calls.loadGlobal_builtin (by rw [I.ok.glob]; exact I.mod.glob.keeps I.bk) hm (by rw [I.ok.blt]; exact h1.keeps I.bk) ((h2 x hn).trans hv) h) hd
/-- a module's constant, a class, a function, as a value -/
theorem pe_glob {x : Str} {v : V} {u : Value} {pos : Pos} (hg : Gl X x) (hm : X.mg x = some u) (r : RelV v u) (hd : (x == ("__debug__" : Str)) = false := by decide) : PE X (.Name x pos) (tC v) :=
  fun _ _ _ H _ I h => ld_glob I hg hm ⟨v, H, I, r, h⟩ hd
theorem pe_bltn {x : Str} {v : V} {u : Value} {pos : Pos} (hg : Gl X x) (hm : X.mg x = none) (hv : bootBuiltins x = some u) (r : RelV v u) (hn : x ≠ "__name__" := by decide) (hd : (x == ("__debug__" : Str)) = false := by decide) : PE X (.Name x pos) (tC v) :=
  fun _ _ _ H _ I h => ld_blt I hg hm hv ⟨v, H, I, r, h⟩ hn hd
variable {a b : Expr} {ta tb : TE} {pos : Pos}
def PC (X : Cx) (op : CmpOp) (a b : Expr) (t : TE) : Prop :=
  ∀ (pins : List (Addr × Obj)) (s : Shared) (σ : St) (H : Hp) (Q : VK), Inv X pins σ H s → t σ H Q →
    wpAny (model X.prog X.w) X.A (eval a X.env) (fun v s₁ => wpAny (model X.prog X.w) X.A (eval b X.env) (fun u s₂ => wpAny (model X.prog X.w) X.A (compareOp op v u) (EP X pins σ Q) X.xe s₂) X.xe s₁) X.xe s
/-- a comparison as a value, as a test -/
def tB (t : TE) : TT := fun σ H Q => t σ H fun x H1 => ∃ c, x = .bl c ∧ Q c H1
theorem pt_cmp {op : CmpOp} {t : TE} (h : PC X op a b t) (h1 : behindInMarks op b = false := by first | exact nobehind _ (by decide) (by decide) | rfl) : PT X (.Compare a [op] [b] pos) (tB t) := by
  intro pins s σ H Q I hw
  refine wpAny_isTrue_Compare1 (thn (h pins s σ H _ I hw) fun v s1 h1 => thn h1 fun u s2 h2 => thn h2 fun c s3 ⟨x, H1, I1, r1, q1⟩ => ?_) h1
  obtain ⟨d, rfl, q⟩ := q1
  cases r1
  exact wpAny_truthy_bool ⟨H1, I1, q⟩
/-- an expression whose value is a bool, as a test -/
theorem pt_val {e : Expr} {t : TE} (h : PE X e t) (he : ∀ whole, isTrue e X.env whole = (do let v ← whole; standAt e.pos; holding [v] (truthy v)) := by intro _; rfl) : PT X e (tB t) := by
  intro pins s σ H Q I hw
  refine isTrue_plain (thn (h pins s σ H _ I hw) fun v s1 ⟨x, H1, I1, r1, q1⟩ => ?_) (he _)
  obtain ⟨d, rfl, q⟩ := q1
  cases r1
  exact wpAny_truthy_bool ⟨H1, I1, q⟩
variable {tA tB' : TT} {rest : List Expr}
def tAnd (t u : TT) : TT := fun σ H Q => t σ H fun c H1 => if c = true then u σ H1 Q else Q false H1
def tOr (t u : TT) : TT := fun σ H Q => t σ H fun c H1 => if c = true then Q true H1 else u σ H1 Q
def tNot (t : TT) : TT := fun σ H Q => t σ H fun c H1 => Q (!c) H1
theorem pw_and1 (ha : PT X a tA) : PW X (.BoolOp .And [a] pos) tA := by
  intro wh pins s σ H Q I h
  refine isTrue_and (thn (ha pins s σ H Q I h) fun c s1 e => ?_)
  cases c with
  | true => exact isTrue_and_nil e
  | false => exact e
theorem pw_or1 (ha : PT X a tA) : PW X (.BoolOp .Or [a] pos) tA := by
  intro wh pins s σ H Q I h
  refine isTrue_or (thn (ha pins s σ H Q I h) fun c s1 e => ?_)
  cases c with
  | false => exact isTrue_or_nil e
  | true => exact e
theorem pw_and (ha : PT X a tA) (hb : PW X (.BoolOp .And (b :: rest) pos) tB') : PW X (.BoolOp .And (a :: b :: rest) pos) (tAnd tA tB') := by
  intro wh pins s σ H Q I h
  refine isTrue_and (thn (ha pins s σ H _ I h) fun c s1 ⟨H1, I1, q1⟩ => ?_)
  cases c with
  | true => exact hb wh pins s1 σ H1 Q I1 q1
  | false => exact ⟨H1, I1, q1⟩
theorem pw_or (ha : PT X a tA) (hb : PW X (.BoolOp .Or (b :: rest) pos) tB') : PW X (.BoolOp .Or (a :: b :: rest) pos) (tOr tA tB') := by
  intro wh pins s σ H Q I h
  refine isTrue_or (thn (ha pins s σ H _ I h) fun c s1 ⟨H1, I1, q1⟩ => ?_)
  cases c with
  | true => exact ⟨H1, I1, q1⟩
  | false => exact hb wh pins s1 σ H1 Q I1 q1
theorem pt_not (ha : PT X a tA) : PT X (.UnaryOp .Not a pos) (tNot tA) := by
  intro pins s σ H Q I h
  exact isTrue_not (ha pins s σ H (fun c H1 => Q (!c) H1) I h)
/-- .. as values (bools) -/
def tAndV (ta tb : TE) : TE := fun σ H Q => ta σ H fun x H1 => ∃ c, x = .bl c ∧ if c = true then tb σ H1 Q else Q (.bl false) H1
def tNotV (ta : TE) : TE := fun σ H Q => ta σ H fun x H1 => ∃ c, x = .bl c ∧ Q (.bl (!c)) H1
theorem pe_one {op} {t : TE} (h : PE X a t) : PE X (.BoolOp op [a] pos) t := fun pins s σ H Q I hw => BoolOp_one (h pins s σ H Q I hw)
theorem pe_and (ha : PE X a ta) (hb : PE X (.BoolOp .And (b :: rest) pos) tb) : PE X (.BoolOp .And (a :: b :: rest) pos) (tAndV ta tb) := by
  intro pins s σ H Q I h
  refine BoolOp_and (thn (ha pins s σ H _ I h) fun v s1 ⟨x, H1, I1, r1, q1⟩ => ?_)
  obtain ⟨c, rfl, q1⟩ := q1
  cases r1
  refine wpAny_truthy_bool ?_
  cases c with
  | true => exact hb pins s1 σ H1 Q I1 q1
  | false => exact ⟨.bl false, H1, I1, rfl, q1⟩
theorem pe_not (ha : PE X a ta) : PE X (.UnaryOp .Not a pos) (tNotV ta) := by
  intro pins s σ H Q I h
  refine UnaryOp_ (thn (ha pins s σ H _ I h) fun v s1 ⟨x, H1, I1, r1, q1⟩ => ?_)
  obtain ⟨c, rfl, q1⟩ := q1
  cases r1
  exact not_of (wpAny_truthy_bool ⟨.bl (!c), H1, I1, rfl, q1⟩)
/-- a if t else b -/
def tIf (t : TT) (ta tb : TE) : TE := fun σ H Q => t σ H fun c H1 => if c = true then ta σ H1 Q else tb σ H1 Q
theorem pe_ifExp {c : Expr} (hc : PT X c tA) (ha : PE X a ta) (hb : PE X b tb) : PE X (.IfExp c a b pos) (tIf tA ta tb) := by
  intro pins s σ H Q I h
  refine wpAny_IfExp (thn (hc pins s σ H _ I h) fun d s1 ⟨H1, I1, q1⟩ => ?_)
  cases d with
  | true => exact ha pins s1 σ H1 Q I1 q1
  | false => exact hb pins s1 σ H1 Q I1 q1
end
end L2
namespace L2
open PySem PySem.Spec PyProof.Rows
def SqL (K : PySem.W.Frag) (H : Hp) (a : Addr) (xs : List V) : Prop :=
  Rd H a (.lst xs) ∨
    ∃ (o : Obj) (its : Array Value) (n : Nat), K.lookup a = some o ∧ o.cls = .type "list" ∧ o.dict = none ∧ o.data = .seq its n ∧ its.size ≤ sizeLine ∧ Vals xs its.toList
def SqT (K : PySem.W.Frag) (H : Hp) (a : Addr) (xs : List V) : Prop :=
  Rd H a (.tup xs) ∨
    ∃ (o : Obj) (its : Array Value) (n : Nat), K.lookup a = some o ∧ o.cls = .type "tuple" ∧ o.data = .seq its n ∧ its.size ≤ sizeLine ∧ Vals xs its.toList
def absV : Value → Option V
  | .none => some .non
  | .bool b => some (.bl b)
  | .int i _ => some (.int i)
  | .str x _ => some (.str x)
  | .bytes b _ => some (.byt b)
  | .float b _ => some (.flt b)
  | .ref a => some (.ref a)
  | .type n => some (.ty n)
  | _ => none
theorem RelV.abs {x : V} {u : Value} (r : RelV x u) : absV u = some x := by
  cases x with
  | non => cases r; rfl
  | bl _ => cases r; rfl
  | int _ => obtain ⟨t, rfl⟩ := r; rfl
  | str _ => obtain ⟨t, rfl⟩ := r; rfl
  | byt _ => obtain ⟨t, rfl⟩ := r; rfl
  | flt _ => obtain ⟨t, rfl⟩ := r; rfl
  | ref _ => cases r; rfl
  | ty _ => cases r; rfl
theorem RelV.inj {x y : V} {u : Value} (r : RelV x u) (q : RelV y u) : x = y := Option.some.inj (r.abs.symm.trans q.abs)
theorem Vals.inj : ∀ {xs ys : List V} {us : List Value}, Vals xs us → Vals ys us → xs = ys
  | _, _, _, .nil, .nil => rfl
  | _, _, _, .cons r t, .cons r' t' => by rw [r.inj r', Vals.inj t t']
section
variable {X : Cx} {pins : List (Addr × Obj)} {σ : St} {H : Hp} {s : Shared} {a : Addr} {xs ys : List V}
theorem SqL.of {K : PySem.W.Frag} (h : H a = some (.lst xs)) : SqL K H a xs := .inl (.inl h)
theorem SqT.of {K : PySem.W.Frag} (h : H a = some (.tup xs)) : SqT K H a xs := .inl (.inl h)
theorem Inv.list (I : Inv X pins σ H s) (h : SqL X.K H a xs) : ∃ its : List Value, Vals xs its ∧ PlainL s.heap a its.toArray ∧ xs.length ≤ sizeLine := by
  rcases h with h | ⟨o, its, n, hk, hc, hd, hs, hz, r⟩
  · obtain ⟨z, its, n, r, e⟩ := h.ok I.hok
    exact ⟨its, r, ⟨_, n, e, rfl, rfl, rfl⟩, z⟩
  · refine ⟨its.toList, r, ⟨o, n, I.kIn a o hk, hc, hd, by simpa using hs⟩, ?_⟩
    have e := r.length
    simp only [Array.length_toList] at e
    omega
theorem Inv.tuple (I : Inv X pins σ H s) (h : SqT X.K H a xs) : ∃ its : List Value, Vals xs its ∧ IsTup s.heap a its.toArray ∧ xs.length ≤ sizeLine := by
  rcases h with h | ⟨o, its, n, hk, hc, hs, hz, r⟩
  · obtain ⟨z, its, r, p⟩ := h.ok I.hok
    exact ⟨its, r, p, z⟩
  · refine ⟨its.toList, r, ⟨o, I.kIn a o hk, hc, n, by simpa using hs⟩, ?_⟩
    have e := r.length
    simp only [Array.length_toList] at e
    omega
theorem Inv.list_inj (I : Inv X pins σ H s) (h : SqL X.K H a xs) (h' : SqL X.K H a ys) : xs = ys := by
  obtain ⟨its, r, ⟨o, n, e, _, _, d⟩, _⟩ := I.list h
  obtain ⟨its', r', ⟨o', n', e', _, _, d'⟩, _⟩ := I.list h'
  rw [e] at e'; cases e'
  rw [d] at d'
  injection d' with d1 _
  have : its = its' := by simpa using congrArg Array.toList d1
  subst this
  exact r.inj r'
theorem Inv.tuple_inj (I : Inv X pins σ H s) (h : SqT X.K H a xs) (h' : SqT X.K H a ys) : xs = ys := by
  obtain ⟨its, r, ⟨o, e, _, n, d⟩, _⟩ := I.tuple h
  obtain ⟨its', r', ⟨o', e', _, n', d'⟩, _⟩ := I.tuple h'
  rw [e] at e'; cases e'
  rw [d] at d'
  injection d' with d1 _
  have : its = its' := by simpa using congrArg Array.toList d1
  subst this
  exact r.inj r'
end
abbrev Cx.wish (X : Cx) (E : Value → Shared → Prop) : Cx := { X with xe := E }
/-- no exception leaves -/
abbrev Cx.nox (X : Cx) : Cx := X.wish fun _ _ => False
theorem Cx.Ok.wish {X : Cx} (ok : X.Ok) (E : Value → Shared → Prop) : (X.wish E).Ok :=
  ⟨ok.mod, ok.kind, ok.glob, ok.blt, ok.above, ok.inj, ok.has, ok.cab, ok.hd, ok.frames, ok.stk, ok.exf, ok.bs, ok.bsz, ok.noex, ok.exfs, ok.funs, ok.frf⟩
theorem Cx.Ok.unwish {X : Cx} {E : Value → Shared → Prop} (ok : (X.wish E).Ok) : X.Ok :=
  ⟨ok.mod, ok.kind, ok.glob, ok.blt, ok.above, ok.inj, ok.has, ok.cab, ok.hd, ok.frames, ok.stk, ok.exf, ok.bs, ok.bsz, ok.noex, ok.exfs, ok.funs, ok.frf⟩
section
variable {X : Cx} {pins : List (Addr × Obj)} {σ : St} {H : Hp} {s : Shared} {E : Value → Shared → Prop}
theorem Inv.wish (I : Inv X pins σ H s) (E : Value → Shared → Prop) : Inv (X.wish E) pins σ H s := ⟨I.ok.wish E, I.os, I.bare, I.base, I.loc, I.cell, I.free, I.freeC, I.pin, I.hok, I.len⟩
theorem Inv.unwish (I : Inv (X.wish E) pins σ H s) : Inv X pins σ H s := ⟨I.ok.unwish, I.os, I.bare, I.base, I.loc, I.cell, I.free, I.freeC, I.pin, I.hok, I.len⟩
theorem SP.unwish {D : Ends} {f : Flow} {s' : Shared} (h : SP (X.wish E) pins D f s') : SP X pins D f s' := by
  cases f with
  | next => obtain ⟨σ', H', I, q⟩ := h; exact ⟨σ', H', I.unwish, q⟩
  | brk => obtain ⟨σ', H', I, q⟩ := h; exact ⟨σ', H', I.unwish, q⟩
  | cont => obtain ⟨σ', H', I, q⟩ := h; exact ⟨σ', H', I.unwish, q⟩
  | ret u => obtain ⟨v, σ', H', I, r, q⟩ := h; exact ⟨v, σ', H', I.unwish, r, q⟩
theorem PSs.nox {st : List Stmt} {t : TS} (h : PSs X.nox st t) : PSs X st t := fun pins s σ H D I hw =>
  wpAny_mono (h pins s σ H D (I.wish _) hw) (fun _ _ q => q.unwish) fun _ _ z => False.elim z
end
section
variable {X : Cx} {st : Stmt} {rest : List Stmt} {t u : TS} {e : Expr} {te : TE} {pos : Pos}
def tNext : TS := fun D σ H => D.nx σ H
def tSeq (t u : TS) : TS := fun D σ H => t { D with nx := u D } σ H
theorem pss_nil : PSs X [] tNext := fun _ _ σ H _ I h => wpAny_execs_nil ⟨σ, H, I, h⟩
theorem pss_cons (h1 : PS X st t) (h2 : PSs X rest u) : PSs X (st :: rest) (tSeq t u) := by
  intro pins s σ H D I h
  refine wpAny_execs_cons (thn (h1 pins s σ H { D with nx := u D } I h) fun f s1 q => ?_)
  cases f with
  | next =>
    obtain ⟨σ', H', I', q⟩ := q
    exact h2 pins s1 σ' H' D I' q
  | ret v => exact q
  | brk => exact q
  | cont => exact q
theorem pss_one (h1 : PS X st t) : PSs X [st] t := by
  intro pins s σ H D I h
  refine wpAny_execs_cons (thn (h1 pins s σ H D I h) fun f s1 q => ?_)
  cases f with
  | next => exact wpAny_execs_nil q
  | ret v => exact q
  | brk => exact q
  | cont => exact q
/-- in a def's body nothing is shown -/
theorem Inv.quiet {pins : List (Addr × Obj)} {σ : St} {H : Hp} {s : Shared} (I : Inv X pins σ H s) : interactive X.env = false := by simp [interactive, I.ok.kind]
/-- an expression whose value is dropped -/
def tDrop (te : TE) : TS := fun D σ H => te σ H fun _ H1 => D.nx σ H1
theorem ps_expr (he : PE X e te) (hs : swapsWith e none pos.line X.env = pure false := by rfl) : PS X (.Expr e pos) (tDrop te) := by
  intro pins s σ H D I h
  exact wpAny_Expr_any (thn (he pins s σ H _ I h) fun v s1 ⟨x, H1, I1, r1, q1⟩ => ⟨σ, H1, I1, q1⟩) I.quiet hs
def tRet (te : TE) : TS := fun D σ H => te σ H fun v H1 => D.rt v σ H1
theorem ps_ret (he : PE X e te) : PS X (.Return (some e) pos) (tRet te) := by
  intro pins s σ H D I h
  exact wpAny_Return_some (thn (he pins s σ H _ I h) fun v s1 ⟨x, H1, I1, r1, q1⟩ => ⟨x, σ, H1, I1, r1, q1⟩)
def tIfS (c : TT) (t u : TS) : TS := fun D σ H => c σ H fun b H1 => if b = true then t D σ H1 else u D σ H1
theorem ps_if {c : Expr} {a b : List Stmt} {tc : TT} (hc : PT X c tc) (ha : PSs X a t) (hb : PSs X b u) : PS X (.If c a b pos) (tIfS tc t u) := by
  intro pins s σ H D I h
  refine wpAny_If (thn (hc pins s σ H _ I h) fun d s1 ⟨H1, I1, q1⟩ => ?_)
  cases d with
  | true => exact ha pins s1 σ H1 D I1 q1
  | false => exact hb pins s1 σ H1 D I1 q1
end
abbrev TG := V → St → Hp → (St → Hp → Prop) → Prop
abbrev TGs := List V → St → Hp → (St → Hp → Prop) → Prop
def PG (X : Cx) (target : Expr) (t : TG) : Prop :=
  ∀ (pins : List (Addr × Obj)) (s : Shared) (σ : St) (H : Hp) (v : V) (u : Value) (Q : St → Hp → Prop), Inv X pins σ H s → RelV v u → t v σ H Q →
    wpAny (model X.prog X.w) X.A (assign target X.env u) (fun _ s' => ∃ σ' H', Inv X pins σ' H' s' ∧ Q σ' H') X.xe s
/-- several targets, one after another -/
def PGs (X : Cx) (ts : List Expr) (t : TGs) : Prop :=
  ∀ (pins : List (Addr × Obj)) (s : Shared) (σ : St) (H : Hp) (vs : List V) (us : List Value) (Q : St → Hp → Prop), Inv X pins σ H s → Vals vs us → t vs σ H Q →
    wpAny (model X.prog X.w) X.A (assignInOrder ((assignEach ts X.env).map (·.2)) us) (fun _ s' => ∃ σ' H', Inv X pins σ' H' s' ∧ Q σ' H') X.xe s
section
variable {X : Cx} {pos : Pos}
def gName (i : Nat) : TG := fun v σ H Q => Q (σ.set i (some v)) H
theorem pg_name {i : Nat} {x : Str} (hN : X.N.Nodup) (hi : X.N[i]? = some x) (hx : Loc X.env.scope x) (hf : X.fn x = true ∨ X.env.scope.names.lookup x = some .local := by first | exact .inl rfl | exact .inr rfl | assumption) : PG X (.Name x pos) (gName i) := by
  intro pins s σ H v u Q I r h
  exact wpAny_assign_Name (store_ok I hN hi hx r (fun s' I' => ⟨_, H, I', h⟩) hf)
def gNil : TGs := fun vs σ H Q => vs = [] ∧ Q σ H
def gCons (t : TG) (u : TGs) : TGs := fun vs σ H Q => ∃ v r, vs = v :: r ∧ t v σ H fun σ' H' => u r σ' H' Q
theorem pgs_nil : PGs X [] gNil := by
  intro pins s σ H vs us Q I r h
  obtain ⟨e, h⟩ := h
  subst e
  cases r
  exact assignInOrder_nil ⟨σ, H, I, h⟩
theorem pgs_cons {e : Expr} {es : List Expr} {t : TG} {u : TGs} (h1 : PG X e t) (h2 : PGs X es u)
    (hs : (assignEach (e :: es) X.env).map (·.2) = assign e X.env :: (assignEach es X.env).map (·.2) := by rfl) : PGs X (e :: es) (gCons t u) := by
  intro pins s σ H vs us Q I r h
  obtain ⟨v, vr, e1, h⟩ := h
  subst e1
  cases r with
  | cons r rr =>
    rw [hs]
    refine assignInOrder_cons (thn (h1 pins s σ H _ _ _ I r h) fun _ s1 ⟨σ1, H1, I1, q1⟩ => ?_)
    exact h2 pins s1 σ1 H1 _ _ Q I1 rr q1
/-- (a, b, ..) = a tuple of that length -/
def gTup (K : PySem.W.Frag) (n : Nat) (t : TGs) : TG := fun v σ H Q => ∃ a xs, v = .ref a ∧ SqT K H a xs ∧ xs.length = n ∧ t xs σ H Q
theorem pg_tup {es : List Expr} {k : Nat} {t : TGs} {n : Nat} (hc : X.calm = true) (h : PGs X es t)
    (hn : (assignEach es X.env).length = n := by rfl) (hst : (assignEach es X.env).findIdx? (·.1) = none := by rfl) : PG X (.Tuple es k pos) (gTup X.K n t) := by
  intro pins s σ H v u Q I r hw
  obtain ⟨a, xs, e1, hq, hl, hw⟩ := hw
  subst e1
  cases r
  obtain ⟨its, rv, ht, hz⟩ := I.tuple hq
  refine assign_Tuple_tuple (I.ok.hd hc) ht (by simp [hn, ← hl, rv.length]) hst fun h' hx => ?_
  have I1 : Inv X pins σ H { s with heap := h' } := I.kept (t' := s.toks) fun b o e => hx b o (Nat.ne_of_lt (Heap.lt_size e)) e
  exact h pins _ σ H xs _ Q I1 (by simpa using rv) hw
/-- target = value -/
def tAsg (te : TE) (g : TG) : TS := fun D σ H => te σ H fun x H1 => g x σ H1 D.nx
theorem ps_asg {tg e : Expr} {te : TE} {g : TG} (he : PE X e te) (hg : PG X tg g) (hs : swapsWithSole [tg] e pos.line X.env = pure false := by rfl) (hw : swappedStores [tg] e X.env = pure none := by rfl)
    (h1 : (assignEach [tg] X.env).map (·.2) = [assign tg X.env] := by rfl) : PS X (.Assign [tg] e pos) (tAsg te g) := by
  intro pins s σ H D I h
  refine wpAny_Assign_stores (thn (he pins s σ H _ I h) fun v s1 ⟨x, H1, I1, r1, q1⟩ => ?_) hs hw
  rw [h1]
  exact thn (hg pins s1 σ H1 x v _ I1 r1 q1) fun _ s2 q => q
/-- name = value -/
theorem ps_set {i : Nat} {x : Str} {e : Expr} {te : TE} {pos' : Pos} (hN : X.N.Nodup) (hi : X.N[i]? = some x) (hx : Loc X.env.scope x) (he : PE X e te) (hs : swapsWith e (some (.Name x pos')) pos.line X.env = pure false := by rfl) (hf : X.fn x = true ∨ X.env.scope.names.lookup x = some .local := by first | exact .inl rfl | exact .inr rfl | assumption) :
    PS X (.Assign [.Name x pos'] e pos) (tAsg te (gName i)) := by
  intro pins s σ H D I h
  refine wpAny_Assign_Name (thn (he pins s σ H _ I h) fun v s1 ⟨y, H1, I1, r1, q1⟩ => ?_) hs
  exact store_ok I1 hN hi hx r1 (fun s2 I2 => ⟨_, H1, I2, q1⟩) hf
end
/-- at turn i: it yields x (the heap may grow), or it stops -/
structure It where
  go : Nat → Hp → Prop
  yld : Nat → Hp → V → Hp → Prop
  stop : Nat → Hp → Prop
/-- the iterator's own objects may turn: they are not the frame's, not pinned, younger than the entry (or a comprehension's own) -/
def FpOk (X : Cx) (pins : List (Addr × Obj)) (H : Hp) (b : Addr) : Prop :=
  H b = none ∧ b ≠ X.env.locals ∧ b ∉ X.fs ∧ (b ∈ X.ex ∨ X.s₀.heap.objs.size ≤ b) ∧ (∀ x c, X.env.cells.lookup x = some c → c ≠ b) ∧ ∀ p ∈ X.pn ++ pins, p.1 ≠ b
theorem Inv.fpOk {X : Cx} {pins : List (Addr × Obj)} {σ : St} {H H' : Hp} {s : Shared} {b : Addr} (I : Inv X pins σ H s) (hb : s.heap.objs.size ≤ b) (hn : H' b = none) : FpOk X pins H' b := by
  refine ⟨hn, Nat.ne_of_gt (Nat.lt_of_lt_of_le I.lt hb), I.nofs hb, .inr (Nat.le_trans I.sz hb), fun x c e z => ?_, fun p hp z => ?_⟩
  · obtain ⟨v, q⟩ := I.cell x c e
    exact absurd (Nat.lt_of_lt_of_le q.lt (by rw [z]; exact hb)) (Nat.lt_irrefl _)
  · exact absurd (Nat.lt_of_lt_of_le (Heap.lt_size (I.pin p hp).1) (by rw [z]; exact hb)) (Nat.lt_irrefl _)
structure Turn (P : Program) (w : World) (K : PySem.W.Frag) (tg : Expr) (J : It) (fp : List Addr) (it : Addr) (tn : Nat → Heap → Prop) : Prop where
  mem : it ∈ fp
  obj : ∀ i h, tn i h → ∀ b ∈ fp, ∃ o, h.get? b = some o ∧ ∀ v, o.data ≠ .cell v
  keep : ∀ i h h', tn i h → (∀ b ∈ fp, ∀ o, h.get? b = some o → h'.get? b = some o) → tn i h'
  item : ∀ (X : Cx), X.prog = P → X.w = w → X.K = K → X.calm = true → ∀ (i : Nat) (pins : List (Addr × Obj)) (s : Shared) (σ : St) (H : Hp) (E : Value → Shared → Prop), Inv X pins σ H s → (∀ b ∈ fp, FpOk X pins H b) → tn i s.heap → J.go i H →
    wpAny (model P w) X.A (pyNext (.ref it)) (fun r s1 => ∃ u, r = some u ∧
      wpAny (model P w) X.A (letOwnedTupleGo tg (.ref it) u) (fun _ s2 => ∃ x H', Inv X pins σ H' s2 ∧ RelV x u ∧ J.yld i H x H' ∧ tn (i + 1) s2.heap ∧ ∀ b ∈ fp, H' b = none) E s1) E s
  done : ∀ (X : Cx), X.prog = P → X.w = w → X.K = K → X.calm = true → ∀ (i : Nat) (pins : List (Addr × Obj)) (s : Shared) (σ : St) (H : Hp) (E : Value → Shared → Prop), Inv X pins σ H s → (∀ b ∈ fp, FpOk X pins H b) → tn i s.heap → J.stop i H →
    wpAny (model P w) X.A (pyNext (.ref it)) (fun r s1 => r = none ∧ Inv X pins σ H s1) E s
  self : ∀ (A : Around) (i : Nat) (s : Shared) (Q : Value → Shared → Prop) (E : Value → Shared → Prop), tn i s.heap → Q (.ref it) s → wpAny (model P w) A (pyIter (.ref it)) Q E s
abbrev TI := St → Hp → (It → Hp → Prop) → Prop
/-- an iterator has come -/
def PIE (X : Cx) (pins : List (Addr × Obj)) (σ : St) (tg : Expr) (R : It → Hp → Prop) (itv : Value) (s2 : Shared) : Prop :=
  ∃ (it : Addr) (fp : List Addr) (tn : Nat → Heap → Prop) (J : It) (H' : Hp), itv = .ref it ∧ Inv X pins σ H' s2 ∧ Turn X.prog X.w X.K tg J fp it tn ∧ tn 0 s2.heap ∧ (∀ b ∈ fp, FpOk X pins H' b) ∧ R J H'
def PI (X : Cx) (tg iter : Expr) (wi : TI) : Prop :=
  ∀ (pins : List (Addr × Obj)) (s : Shared) (σ : St) (H : Hp) (R : It → Hp → Prop), Inv X pins σ H s → wi σ H R →
    wpAny (model X.prog X.w) X.A (eval iter X.env) (fun v s1 => wpAny (model X.prog X.w) X.A (pyIter v) (PIE X pins σ tg R) X.xe s1) X.xe s
/-- the step ahead of the store is nothing for an iterator that keeps no tuple -/
theorem go_of {M : Model} {A : Around} {E : Value → Shared → Prop} {s : Shared} {tg : Expr} {it : Addr} {u : Value} {o : Obj} {n : String} {vs : Array Value} {Q : Unit → Shared → Prop} (ho : s.heap.get? it = some o) (hc : o.cls = .type n) (hd : o.data = .fields vs)
    (hn : ["enumerate", "zip", "dict_itemiterator", "dict_reverseitemiterator", "odict_iterator", "itertools.zip_longest", "itertools.pairwise"].contains n = false) (hQ : Q () s) : wpAny M A (letOwnedTupleGo tg (.ref it) u) Q E s := by
  unfold letOwnedTupleGo
  cases tg <;> first
    | exact wpAny_pure hQ
    | (cases u <;> first
        | exact wpAny_pure hQ
        | (refine wpAny_bind (wpAny_load ho ?_)
           rw [hc, hd]
           show wpAny M A (if (["enumerate", "zip", "dict_itemiterator", "dict_reverseitemiterator", "odict_iterator", "itertools.zip_longest", "itertools.pairwise"].contains n && vs[0]? == some (rawInt _)) = true then _ else _) Q E s
           rw [if_neg (by intro h; rw [hn, Bool.false_and] at h; cases h)]
           exact wpAny_pure hQ))
/-- the list at a, as it stands at each turn (a loop may append to it) -/
def Itl (K : PySem.W.Frag) (a : Addr) : It :=
  ⟨fun i H => ∃ xs x, SqL K H a xs ∧ xs[i]? = some x, fun i H x H' => H' = H ∧ ∀ xs, SqL K H a xs → xs[i]? = some x, fun i H => ∃ xs, SqL K H a xs ∧ xs.length ≤ i⟩
def Itt (K : PySem.W.Frag) (a : Addr) : It :=
  ⟨fun i H => ∃ xs x, SqT K H a xs ∧ xs[i]? = some x, fun i H x H' => H' = H ∧ ∀ xs, SqT K H a xs → xs[i]? = some x, fun i H => ∃ xs, SqT K H a xs ∧ xs.length ≤ i⟩
/-- lo, lo + 1, .. (n of them) -/
def Itr (lo : Int) (n : Nat) : It := ⟨fun i _ => i < n, fun i H x H' => H' = H ∧ x = .int (lo + i), fun i _ => n ≤ i⟩
theorem turn_list {P : Program} {w : World} {K : PySem.W.Frag} {tg : Expr} (a it : Addr) : Turn P w K tg (Itl K a) [it] it (fun i h => h.IsListIter it a i) where
  mem := by simp
  obj := fun i h st b hb => by
    have e : b = it := by simpa using hb
    subst e
    obtain ⟨o, e, c, d⟩ := st
    exact ⟨o, e, fun v z => by rw [d] at z; cases z⟩
  keep := fun i h h' st k => st.at fun o e => k it (by simp) o e
  item := by
    intro X hP hw hK hc i pins s σ H E I hf st hg
    subst hP hw hK
    obtain ⟨xs, x, hq, hx⟩ := hg
    obtain ⟨its, rv, p, hz⟩ := I.list hq
    obtain ⟨u, hu, ru⟩ := rv.get hx
    obtain ⟨f0, f1, f2, f3, f4, f5⟩ := hf it (by simp)
    refine wpAny_pyNext_list_item st p.isList (x := u) (by simpa using hu) fun h' st' sb => ?_
    have I1 : Inv X pins σ H { s with heap := h' } := I.turned (t' := s.toks) (fun b o hb e => (sb.2 b hb).trans e) f0 f1 f3 f4 f5
    obtain ⟨o, e, c, d⟩ := id st'
    exact ⟨u, rfl, go_of (s := { s with heap := h' }) e c d (by decide) ⟨x, H, I1, ru, ⟨rfl, fun ys hy => by rw [I.list_inj hy hq]; exact hx⟩, st', fun b hb => (hf b hb).1⟩⟩
  done := by
    intro X hP hw hK hc i pins s σ H E I hf st hg
    subst hP hw hK
    obtain ⟨xs, hq, hx⟩ := hg
    obtain ⟨its, rv, p, hz⟩ := I.list hq
    obtain ⟨f0, f1, f2, f3, f4, f5⟩ := hf it (by simp)
    have hl := rv.length
    exact wpAny_pyNext_list_end (I.ok.hd hc) st p.isList (by simp; omega) fun h' eb => ⟨rfl, I.turned (t' := s.toks) (fun b o hb e => eb b o hb e) f0 f1 f3 f4 f5⟩
  self := fun _ _ _ _ _ st h => wpAny_pyIter_listiter st h
theorem turn_tuple {P : Program} {w : World} {K : PySem.W.Frag} {tg : Expr} (a it : Addr) : Turn P w K tg (Itt K a) [it] it (fun i h => h.IsTupleIter it a i) where
  mem := by simp
  obj := fun i h st b hb => by
    have e : b = it := by simpa using hb
    subst e
    obtain ⟨o, e, c, d⟩ := st
    exact ⟨o, e, fun v z => by rw [d] at z; cases z⟩
  keep := fun i h h' st k => st.at fun o e => k it (by simp) o e
  item := by
    intro X hP hw hK hc i pins s σ H E I hf st hg
    subst hP hw hK
    obtain ⟨xs, x, hq, hx⟩ := hg
    obtain ⟨its, rv, p, hz⟩ := I.tuple hq
    obtain ⟨u, hu, ru⟩ := rv.get hx
    obtain ⟨f0, f1, f2, f3, f4, f5⟩ := hf it (by simp)
    refine wpAny_pyNext_tuple_item st (show s.heap.IsTuple a its.toArray from p) (x := u) (by simpa using hu) fun h' st' sb => ?_
    have I1 : Inv X pins σ H { s with heap := h' } := I.turned (t' := s.toks) (fun b o hb e => (sb.2 b hb).trans e) f0 f1 f3 f4 f5
    obtain ⟨o, e, c, d⟩ := id st'
    exact ⟨u, rfl, go_of (s := { s with heap := h' }) e c d (by decide) ⟨x, H, I1, ru, ⟨rfl, fun ys hy => by rw [I.tuple_inj hy hq]; exact hx⟩, st', fun b hb => (hf b hb).1⟩⟩
  done := by
    intro X hP hw hK hc i pins s σ H E I hf st hg
    subst hP hw hK
    obtain ⟨xs, hq, hx⟩ := hg
    obtain ⟨its, rv, p, hz⟩ := I.tuple hq
    obtain ⟨f0, f1, f2, f3, f4, f5⟩ := hf it (by simp)
    have hl := rv.length
    exact wpAny_pyNext_tuple_end (I.ok.hd hc) st (show s.heap.IsTuple a its.toArray from p) (by simp; omega) fun h' eb => ⟨rfl, I.turned (t' := s.toks) (fun b o hb e => eb b o hb e) f0 f1 f3 f4 f5⟩
  self := fun _ _ _ _ _ st h => wpAny_pyIter_tupleiter st h
theorem turn_range {P : Program} {w : World} {K : PySem.W.Frag} {tg : Expr} (it : Addr) (lo : Int) (n : Nat) : Turn P w K tg (Itr lo n) [it] it (fun i h => IsRangeIter h it (lo + (i : Nat) * 1) ((n : Int) - (i : Nat)) 1) where
  mem := by simp
  obj := fun i h st b hb => by
    have e : b = it := by simpa using hb
    subst e
    exact ⟨_, st, fun v z => by
      have z' : Data.fields _ = Data.cell v := z
      cases z'⟩
  keep := fun i h h' st k => k it (by simp) _ st
  item := by
    intro X hP hw hK hc i pins s σ H E I hf st hg
    subst hP hw hK
    obtain ⟨f0, f1, f2, f3, f4, f5⟩ := hf it (by simp)
    have W := Walks.range (prog := X.prog) (w := X.w) (I.ok.hd hc) it lo 1 n
    refine W.item i s _ _ hg st fun v h' tk hv st' kk => ?_
    obtain ⟨t, rfl⟩ := hv
    have I1 : Inv X pins σ H { s with heap := h', toks := tk } := I.turned (fun b o hb e => kk b o (by simpa using hb) e) f0 f1 f3 f4 f5
    refine ⟨_, rfl, go_of (s := { s with heap := h', toks := tk }) (n := "range_iterator") st' rfl rfl (by decide) ⟨.int (lo + i), H, I1, ⟨t, ?_⟩, ⟨rfl, rfl⟩, st', fun b hb => (hf b hb).1⟩⟩
    rw [Int.mul_one]
  done := by
    intro X hP hw hK hc i pins s σ H E I hf st hg
    subst hP hw hK
    obtain ⟨f0, f1, f2, f3, f4, f5⟩ := hf it (by simp)
    exact wpAny_pyNext_range_end (I.ok.hd hc) st (by have : n ≤ i := hg; omega) fun h' eb => ⟨rfl, I.turned (t' := s.toks) (fun b o hb e => eb b o hb e) f0 f1 f3 f4 f5⟩
  self := fun _ _ _ _ _ st h => wpAny_pyIter_rangeiter st h
end L2
namespace L2
open PySem PySem.Spec PyProof.Rows
section
variable {X : Cx} {tg : Expr}
def iList (K : PySem.W.Frag) (tl : TE) : TI := fun σ H R => tl σ H fun x H1 => ∃ a, x = .ref a ∧ (∃ xs, SqL K H1 a xs) ∧ R (Itl K a) H1
def iTup (K : PySem.W.Frag) (tl : TE) : TI := fun σ H R => tl σ H fun x H1 => ∃ a, x = .ref a ∧ (∃ xs, SqT K H1 a xs) ∧ R (Itt K a) H1
theorem pi_list {l : Expr} {tl : TE} (hl : PE X l tl) : PI X tg l (iList X.K tl) := by
  intro pins s σ H R I h
  refine thn (hl pins s σ H _ I h) fun v s1 ⟨x, H1, I1, r1, q1⟩ => ?_
  obtain ⟨a, e, ⟨xs, hq⟩, q⟩ := q1
  subst e
  cases r1
  obtain ⟨its, rv, p, hz⟩ := I1.list hq
  refine wpAny_pyIter_list p.isList ?_
  refine ⟨s1.heap.objs.size, [s1.heap.objs.size], _, _, H1, rfl, I1.kept (t' := s1.toks) fun b o e => Heap.get?_push_of_some _ e, turn_list a _, ⟨_, Heap.get?_push_size _ rfl, rfl, rfl⟩, fun b hb => ?_, q⟩
  have e : b = s1.heap.objs.size := by simpa using hb
  subst e
  exact I1.fpOk (Nat.le_refl _) (I1.hok.fresh (Nat.le_refl _))
theorem pi_tup {l : Expr} {tl : TE} (hl : PE X l tl) : PI X tg l (iTup X.K tl) := by
  intro pins s σ H R I h
  refine thn (hl pins s σ H _ I h) fun v s1 ⟨x, H1, I1, r1, q1⟩ => ?_
  obtain ⟨a, e, ⟨xs, hq⟩, q⟩ := q1
  subst e
  cases r1
  obtain ⟨its, rv, p, hz⟩ := I1.tuple hq
  refine wpAny_pyIter_tuple (show s1.heap.IsTuple a its.toArray from p) ?_
  refine ⟨s1.heap.objs.size, [s1.heap.objs.size], _, _, H1, rfl, I1.kept (t' := s1.toks) fun b o e => Heap.get?_push_of_some _ e, turn_tuple a _, ⟨_, Heap.get?_push_size _ rfl, rfl, rfl⟩, fun b hb => ?_, q⟩
  have e : b = s1.heap.objs.size := by simpa using hb
  subst e
  exact I1.fpOk (Nat.le_refl _) (I1.hok.fresh (Nat.le_refl _))
/-- a range object just made, walked -/
theorem range_it {pins : List (Addr × Obj)} {σ : St} {H : Hp} {s : Shared} {R : It → Hp → Prop} {E : Value → Shared → Prop} {lo hi : Int} {t u v : Tok} {tk : Nat} (I : Inv X pins σ H s) (h1 : -(2 ^ 62) ≤ lo) (h2 : lo < 2 ^ 62) (h3 : -(2 ^ 62) ≤ hi) (h4 : hi < 2 ^ 62)
    (q : R (Itr lo (hi - lo).toNat) H) : wpAny (model X.prog X.w) X.A (pyIter (.ref s.heap.objs.size)) (PIE X pins σ tg R) E { s with heap := s.heap.push { cls := .type "range", data := .fields #[.int lo t, .int hi u, .int 1 v] }, toks := tk } := by
  refine wpAny_pyIter_range (IsRange.new ..) (small_one h1 h2 h3 h4) ?_
  have I1 : Inv X pins σ H { s with heap := s.heap.push { cls := .type "range", data := .fields #[.int lo t, .int hi u, .int 1 v] }, toks := tk } := I.kept fun b o e => Heap.get?_push_of_some _ e
  refine ⟨(s.heap.push { cls := .type "range", data := .fields #[.int lo t, .int hi u, .int 1 v] }).objs.size, [(s.heap.push { cls := .type "range", data := .fields #[.int lo t, .int hi u, .int 1 v] }).objs.size], _, _, H, rfl,
    I1.kept (t' := tk) fun b o e => Heap.get?_push_of_some _ e, turn_range _ lo (hi - lo).toNat, ?_, fun b hb => ?_, q⟩
  · have e1 : lo + ((0 : Nat) : Int) * 1 = lo := by simp
    have e2 : (((hi - lo).toNat : Nat) : Int) - ((0 : Nat) : Int) = Builtin.Range.rangeSize lo hi 1 := by rw [rangeSize_one]; split <;> omega
    show IsRangeIter _ _ (lo + ((0 : Nat) : Int) * 1) ((((hi - lo).toNat : Nat) : Int) - ((0 : Nat) : Int)) 1
    rw [e1, e2]
    exact Heap.get?_push_size _ rfl
  · have e : b = (s.heap.push { cls := .type "range", data := .fields #[.int lo t, .int hi u, .int 1 v] }).objs.size := by simpa using hb
    subst e
    exact I1.fpOk (Nat.le_refl _) (I1.hok.fresh (Nat.le_refl _))
def iRng1 (ta : TA) : TI := fun σ H R => ta σ H fun vs H1 => ∃ j : Int, vs = [.int j] ∧ -(2 ^ 62) ≤ j ∧ j < 2 ^ 62 ∧ R (Itr 0 j.toNat) H1
def iRng2 (ta : TA) : TI := fun σ H R => ta σ H fun vs H1 => ∃ i j : Int, vs = [.int i, .int j] ∧ (-(2 ^ 62) ≤ i ∧ i < 2 ^ 62 ∧ -(2 ^ 62) ≤ j ∧ j < 2 ^ 62) ∧ R (Itr i (j - i).toNat) H1
theorem pi_range1 {a : Expr} {ta : TA} {p pos : Pos} (hg : Gl X "range") (hm : X.mg "range" = none) (ha : PA X [a] ta) (hs : starEach [a] X.env = [(false, eval a X.env)] := by rfl) : PI X tg (.Call (.Name "range" p) [a] [] pos) (iRng1 ta) := by
  intro pins s σ H R I h
  refine Call_ (ld_blt I hg hm boot_range (PyProof.Rows.callWith_type1 (thn (ha pos pins s σ H _ I h) fun us s1 ⟨vs, H1, I1, r1, q1⟩ => ?_) hs rfl))
  obtain ⟨j, e, q1, q2, q⟩ := q1
  subst e
  cases r1 with
  | cons r rr =>
    cases rr
    obtain ⟨t, rfl⟩ := r
    exact call_range_1 (range_it I1 (by omega) (by omega) q1 q2 (by simpa using q))
theorem pi_range2 {a b : Expr} {ta : TA} {p pos : Pos} (hg : Gl X "range") (hm : X.mg "range" = none) (ha : PA X [a, b] ta) (hs : starEach [a, b] X.env = [(false, eval a X.env), (false, eval b X.env)] := by rfl) (hs2 : starEach [b] X.env = [(false, eval b X.env)] := by rfl) :
    PI X tg (.Call (.Name "range" p) [a, b] [] pos) (iRng2 ta) := by
  intro pins s σ H R I h
  refine Call_ (ld_blt I hg hm boot_range (PyProof.Rows.callWith_type1 (thn (ha pos pins s σ H _ I h) fun us s1 ⟨vs, H1, I1, r1, q1⟩ => ?_) (by rw [hs, hs2]) (by rw [hs2]; rfl)))
  obtain ⟨i, j, e, ⟨q1, q2, q3, q4⟩, q⟩ := q1
  subst e
  cases r1 with
  | cons r rr =>
    cases rr with
    | cons r' rr =>
      cases rr
      obtain ⟨t, rfl⟩ := r
      obtain ⟨t', rfl⟩ := r'
      exact call_range_2 (range_it I1 q1 q2 q3 q4 q)
/-- W: the invariant by the turn and a measure; N: what the body is to reach -/
def tFor (wi : TI) (g : TG) (tb : TS) : TS := fun D σ H => wi σ H fun J H1 => ∃ W : Nat → Nat → St → Hp → Prop, (∃ m, W 0 m σ H1) ∧ ∀ i m σ H, W i m σ H →
  (J.stop i H ∧ D.nx σ H) ∨ (J.go i H ∧ ∃ N : St → Hp → Prop, (∀ σ' H', N σ' H' → ∃ m', m' < m ∧ W (i + 1) m' σ' H') ∧ ∀ x H', J.yld i H x H' → g x σ H' fun σ2 H2 => tb { D with nx := N, ct := N, bk := D.nx } σ2 H2)
/-- the records at fp as they stand -/
def pinsAt (fp : List Addr) (h : Heap) : List (Addr × Obj) := fp.filterMap fun b => (h.get? b).map fun o => (b, o)
theorem mem_pinsAt {fp : List Addr} {h : Heap} {b : Addr} {o : Obj} (hb : b ∈ fp) (e : h.get? b = some o) : (b, o) ∈ pinsAt fp h := List.mem_filterMap.mpr ⟨b, hb, by rw [e]; rfl⟩
theorem of_pinsAt {fp : List Addr} {h : Heap} {p : Addr × Obj} (hp : p ∈ pinsAt fp h) : p.1 ∈ fp ∧ h.get? p.1 = some p.2 := by
  obtain ⟨b, hb, e⟩ := List.mem_filterMap.mp hp
  cases q : h.get? b with
  | none => rw [q] at e; cases e
  | some o =>
    rw [q] at e
    have e' : (b, o) = p := Option.some.inj e
    subst e'
    exact ⟨hb, q⟩
theorem Inv.pinned {pins : List (Addr × Obj)} {σ : St} {H : Hp} {s : Shared} {fp : List Addr} (I : Inv X pins σ H s) (hf : ∀ b ∈ fp, FpOk X pins H b) (ho : ∀ b ∈ fp, ∃ o, s.heap.get? b = some o ∧ ∀ v, o.data ≠ .cell v) : Inv X (pins ++ pinsAt fp s.heap) σ H s :=
  I.pins_of fun p hp => (List.mem_append.mp hp).elim (fun z => I.pin p (List.mem_append_right _ z)) fun z => by
    obtain ⟨hb, e⟩ := of_pinsAt z
    obtain ⟨f0, f1, f2, _⟩ := hf p.1 hb
    obtain ⟨o, e', d⟩ := ho p.1 hb
    rw [e] at e'; cases e'
    exact ⟨e, f0, f1, f2, d⟩
theorem Inv.unpinned {pins pl : List (Addr × Obj)} {σ : St} {H : Hp} {s : Shared} (I : Inv X (pins ++ pl) σ H s) : Inv X pins σ H s := I.pins_of fun p hp => I.pin p (List.mem_append_right _ (List.mem_append_left _ hp))
theorem ps_for {iter : Expr} {body : List Stmt} {wi : TI} {g : TG} {tb : TS} {pos : Pos} (hp : PassesOwn (model X.prog X.w) X.A X.env X.xe) (hc : X.calm = true) (hi : PI X tg iter wi) (hg : PG X tg g) (hb : PSs X body tb)
    (hs : ∀ x, foldedSetIterable iter X.env x = pure x := by intro _; rfl) : PS X (.For tg iter body [] pos) (tFor wi g tb) := by
  intro pins s σ H D I h
  refine wpAny_For (thn (hi pins s σ H _ I h) fun v s1 h1 => thn h1 fun itv s2 h2 => ?_) hs
  obtain ⟨it, fp, tn, J, H2, e, I2, T, st2, f2, W, ⟨m0, w0⟩, turn⟩ := h2
  subst e
  -- what stays true of the iterator's objects through the loop
  have stat : ∀ {H' : Hp}, (∀ b ∈ fp, H' b = none) → ∀ b ∈ fp, FpOk X pins H' b := fun hn b hb => ⟨hn b hb, (f2 b hb).2⟩
  refine codeAny_forLoop_any (fun n s' => ∃ i σ' H', Inv X pins σ' H' s' ∧ tn i s'.heap ∧ (∀ b ∈ fp, H' b = none) ∧ W i n σ' H') ?_ m0 ⟨0, σ, H2, I2, st2, fun b hb => (f2 b hb).1, w0⟩
  rintro n s3 ⟨i, σ3, H3, I3, st3, fr3, w3⟩
  rcases turn i n σ3 H3 w3 with ⟨stop, qn⟩ | ⟨go, N, hN, step⟩
  · refine wpAny_passesOwn hp (thn (T.done X rfl rfl rfl hc i pins s3 σ3 H3 X.xe I3 (stat fr3) st3 stop) fun r s4 ⟨hr, I4⟩ => ?_)
    subst hr
    exact wpAny_execs_nil ⟨σ3, H3, I4, qn⟩
  · refine wpAny_passesOwn hp (thn (T.item X rfl rfl rfl hc i pins s3 σ3 H3 X.xe I3 (stat fr3) st3 go) fun r s4 ⟨u, hr, h4⟩ => ?_)
    subst hr
    refine wpAny_passesOwn hp (thn h4 fun _ s5 ⟨x, H5, I5, r5, y5, st5, fr5⟩ => ?_)
    have I5' := I5.pinned (stat fr5) (T.obj _ _ st5)
    refine wpAny_passesOwn hp (thn (hg _ s5 σ3 H5 x u _ I5' r5 (step x H5 y5)) fun _ s6 ⟨σ6, H6, I6, q6⟩ => ?_)
    refine wpAny_passesOwn hp (thn (hb _ s6 σ6 H6 _ I6 q6) fun f s7 q7 => ?_)
    have again : ∀ {σ7 : St} {H7 : Hp}, Inv X (pins ++ pinsAt fp s5.heap) σ7 H7 s7 → N σ7 H7 → ∃ m, m < n ∧ ∃ i σ' H', Inv X pins σ' H' s7 ∧ tn i s7.heap ∧ (∀ b ∈ fp, H' b = none) ∧ W i m σ' H' := fun {σ7 H7} I7 n7 => by
      obtain ⟨m', hm, w7⟩ := hN σ7 H7 n7
      refine ⟨m', hm, i + 1, σ7, H7, I7.unpinned, T.keep _ _ _ st5 fun b hb o e => (I7.pin (b, o) (List.mem_append_right _ (List.mem_append_right _ (mem_pinsAt hb e)))).1, fun b hb => ?_, w7⟩
      obtain ⟨o, e, d⟩ := T.obj _ _ st5 b hb
      exact (I7.pin (b, o) (List.mem_append_right _ (List.mem_append_right _ (mem_pinsAt hb e)))).2.1
    cases f with
    | next => obtain ⟨σ7, H7, I7, n7⟩ := q7; exact again I7 n7
    | cont => obtain ⟨σ7, H7, I7, n7⟩ := q7; exact again I7 n7
    | brk => obtain ⟨σ7, H7, I7, q7⟩ := q7; exact ⟨σ7, H7, I7.unpinned, q7⟩
    | ret v => obtain ⟨x7, σ7, H7, I7, r7, q7⟩ := q7; exact ⟨x7, σ7, H7, I7.unpinned, r7, q7⟩
end
/-- over a list that the body leaves as it is -/
theorem for_list {K : PySem.W.Frag} {a : Addr} {xs : List V} {g : TG} {tb : TS} {D : Ends} {σ : St} {H : Hp} (Pv : Nat → St → Hp → Prop) (h0 : Pv 0 σ H) (hl : ∀ i σ H, i ≤ xs.length → Pv i σ H → SqL K H a xs)
    (hs : ∀ i x σ H, xs[i]? = some x → Pv i σ H → g x σ H fun σ2 H2 => tb { D with nx := Pv (i + 1), ct := Pv (i + 1), bk := D.nx } σ2 H2) (hd : ∀ σ H, Pv xs.length σ H → D.nx σ H) :
    ∃ W : Nat → Nat → St → Hp → Prop, (∃ m, W 0 m σ H) ∧ ∀ i m σ H, W i m σ H →
      ((Itl K a).stop i H ∧ D.nx σ H) ∨ ((Itl K a).go i H ∧ ∃ N : St → Hp → Prop, (∀ σ' H', N σ' H' → ∃ m', m' < m ∧ W (i + 1) m' σ' H') ∧ ∀ x H', (Itl K a).yld i H x H' → g x σ H' fun σ2 H2 => tb { D with nx := N, ct := N, bk := D.nx } σ2 H2) := by
  refine ⟨fun i m σ H => m = xs.length - i ∧ i ≤ xs.length ∧ Pv i σ H, ⟨xs.length, by simp, Nat.zero_le _, h0⟩, ?_⟩
  rintro i m σ H ⟨rfl, hi, p⟩
  have q := hl i σ H hi p
  by_cases hlt : i < xs.length
  · refine .inr ⟨⟨xs, xs[i], q, by simp [hlt]⟩, Pv (i + 1), fun σ' H' p' => ⟨xs.length - (i + 1), by omega, rfl, hlt, p'⟩, fun x H' y => ?_⟩
    obtain ⟨e, y⟩ := y
    subst e
    exact hs i x σ _ (y xs q) p
  · have e : i = xs.length := by omega
    subst e
    exact .inl ⟨⟨xs, q, Nat.le_refl _⟩, hd σ H p⟩
theorem for_range {lo : Int} {n : Nat} {g : TG} {tb : TS} {D : Ends} {σ : St} {H : Hp} (Pv : Nat → St → Hp → Prop) (h0 : Pv 0 σ H)
    (hs : ∀ i σ H, i < n → Pv i σ H → g (.int (lo + i)) σ H fun σ2 H2 => tb { D with nx := Pv (i + 1), ct := Pv (i + 1), bk := D.nx } σ2 H2) (hd : ∀ σ H, Pv n σ H → D.nx σ H) :
    ∃ W : Nat → Nat → St → Hp → Prop, (∃ m, W 0 m σ H) ∧ ∀ i m σ H, W i m σ H →
      ((Itr lo n).stop i H ∧ D.nx σ H) ∨ ((Itr lo n).go i H ∧ ∃ N : St → Hp → Prop, (∀ σ' H', N σ' H' → ∃ m', m' < m ∧ W (i + 1) m' σ' H') ∧ ∀ x H', (Itr lo n).yld i H x H' → g x σ H' fun σ2 H2 => tb { D with nx := N, ct := N, bk := D.nx } σ2 H2) := by
  refine ⟨fun i m σ H => m = n - i ∧ i ≤ n ∧ Pv i σ H, ⟨n, by simp, Nat.zero_le _, h0⟩, ?_⟩
  rintro i m σ H ⟨rfl, hi, p⟩
  by_cases hlt : i < n
  · refine .inr ⟨hlt, Pv (i + 1), fun σ' H' p' => ⟨n - (i + 1), by omega, rfl, hlt, p'⟩, fun x H' y => ?_⟩
    obtain ⟨e, y⟩ := y
    subst e y
    exact hs i σ _ hlt p
  · have e : i = n := by omega
    subst e
    exact .inl ⟨Nat.le_refl _, hd σ H p⟩
end L2
namespace L2
open PySem PySem.Spec PyProof.Rows
abbrev R2 := V → V → Hp → VK → Prop
/-- a two-place operation on values: f is binaryOp op, inplaceOp op or compareOp op -/
def OpR (X : Cx) (f : Value → Value → Sem Value) (r : R2) : Prop :=
  ∀ (pins : List (Addr × Obj)) (s : Shared) (σ : St) (H : Hp) (x y : V) (v u : Value) (Q : VK), Inv X pins σ H s → RelV x v → RelV y u → r x y H Q →
    wpAny (model X.prog X.w) X.A (f v u) (EP X pins σ Q) X.xe s
/-- a one-place operation -/
def UnR (X : Cx) (f : Value → Sem Value) (r : V → Hp → VK → Prop) : Prop :=
  ∀ (pins : List (Addr × Obj)) (s : Shared) (σ : St) (H : Hp) (x : V) (v : Value) (Q : VK), Inv X pins σ H s → RelV x v → r x H Q →
    wpAny (model X.prog X.w) X.A (f v) (EP X pins σ Q) X.xe s
/-- a call of a value that is known (a builtin, a type) with values -/
def CallR (X : Cx) (f : Value) (r : List V → Hp → VK → Prop) : Prop :=
  ∀ (pins : List (Addr × Obj)) (s : Shared) (σ : St) (H : Hp) (xs : List V) (us : List Value) (Q : VK), Inv X pins σ H s → Vals xs us → r xs H Q →
    wpAny (model X.prog X.w) X.A (call f us) (EP X pins σ Q) X.xe s
def tOp (r : R2) (ta tb : TE) : TE := fun σ H Q => ta σ H fun x H1 => tb σ H1 fun y H2 => r x y H2 Q
def tUn (r : V → Hp → VK → Prop) (ta : TE) : TE := fun σ H Q => ta σ H fun x H1 => r x H1 Q
/-- ints in, under C, and a value out -/
def rI (C : Int → Int → Prop) (g : Int → Int → V) : R2 := fun x y H Q => ∃ i j, x = .int i ∧ y = .int j ∧ C i j ∧ Q (g i j) H
def rI0 (g : Int → Int → V) : R2 := fun x y H Q => ∃ i j, x = .int i ∧ y = .int j ∧ Q (g i j) H
def rU (g : Int → V) : V → Hp → VK → Prop := fun x H Q => ∃ i, x = .int i ∧ Q (g i) H
section
variable {X : Cx} {a b c : Expr} {ta tb tc : TE} {pos : Pos}
theorem binT (ha : PE X a ta) (hb : PE X b tb) {pins : List (Addr × Obj)} {s : Shared} {σ : St} {H : Hp} {R : V → V → Hp → Prop} (I : Inv X pins σ H s)
    (h : ta σ H fun x H1 => tb σ H1 fun y H2 => R x y H2) {Q : Value → Shared → Prop} {f : Value → Value → Sem Value}
    (hf : ∀ v u s2 x y H2, Inv X pins σ H2 s2 → RelV x v → RelV y u → R x y H2 → wpAny (model X.prog X.w) X.A (f v u) Q X.xe s2) :
    wpAny (model X.prog X.w) X.A (eval a X.env) (fun v s₁ => wpAny (model X.prog X.w) X.A (eval b X.env) (fun u s₂ => wpAny (model X.prog X.w) X.A (f v u) Q X.xe s₂) X.xe s₁) X.xe s := by
  refine thn (ha pins s σ H _ I h) fun v s1 ⟨x, H1, I1, r1, q1⟩ => ?_
  refine thn (hb pins s1 σ H1 _ I1 q1) fun u s2 ⟨y, H2, I2, r2, q2⟩ => ?_
  exact hf v u s2 x y H2 I2 r1 r2 q2
theorem pe_op {op : Operator} {r : R2} (ho : OpR X (binaryOp op) r) (ha : PE X a ta) (hb : PE X b tb) : PE X (.BinOp a op b pos) (tOp r ta tb) := by
  intro pins s σ H Q I h
  exact wpAny_BinOp (binT ha hb I h fun v u s2 x y H2 I2 rx ry q => ho pins s2 σ H2 x y v u Q I2 rx ry q)
theorem pe_un {op : UnaryOp} {r : V → Hp → VK → Prop} (ho : UnR X (unaryOp op) r) (ha : PE X a ta) : PE X (.UnaryOp op a pos) (tUn r ta) := by
  intro pins s σ H Q I h
  exact UnaryOp_ (thn (ha pins s σ H _ I h) fun v s1 ⟨x, H1, I1, r1, q1⟩ => ho pins s1 σ H1 x v Q I1 r1 q1)
theorem opI {f : Value → Value → Sem Value} {C : Int → Int → Prop} {g : Int → Int → Int}
    (rule : ∀ (i j : Int) (t u : Tok) (s : Shared) (Q : Value → Shared → Prop) (E : Value → Shared → Prop), C i j → Q (.int (g i j) s.toks) { s with toks := s.toks + 1 } → wpAny (model X.prog X.w) X.A (f (.int i t) (.int j u)) Q E s) :
    OpR X f (rI C fun i j => .int (g i j)) := by
  intro pins s σ H x y v u Q I rx ry h
  obtain ⟨i, j, rfl, rfl, hc, q⟩ := h
  obtain ⟨t, rfl⟩ := rx
  obtain ⟨t', rfl⟩ := ry
  exact rule i j t t' s _ _ hc ⟨.int (g i j), H, I.tok _, ⟨_, rfl⟩, q⟩
theorem opI0 {f : Value → Value → Sem Value} {g : Int → Int → Int}
    (rule : ∀ (i j : Int) (t u : Tok) (s : Shared) (Q : Value → Shared → Prop) (E : Value → Shared → Prop), Q (.int (g i j) s.toks) { s with toks := s.toks + 1 } → wpAny (model X.prog X.w) X.A (f (.int i t) (.int j u)) Q E s) :
    OpR X f (rI0 fun i j => .int (g i j)) := by
  intro pins s σ H x y v u Q I rx ry h
  obtain ⟨i, j, rfl, rfl, q⟩ := h
  obtain ⟨t, rfl⟩ := rx
  obtain ⟨t', rfl⟩ := ry
  exact rule i j t t' s _ _ ⟨.int (g i j), H, I.tok _, ⟨_, rfl⟩, q⟩
theorem opB0 {f : Value → Value → Sem Value} {g : Int → Int → Bool}
    (rule : ∀ (i j : Int) (t u : Tok) (s : Shared) (Q : Value → Shared → Prop) (E : Value → Shared → Prop), Q (.bool (g i j)) s → wpAny (model X.prog X.w) X.A (f (.int i t) (.int j u)) Q E s) :
    OpR X f (rI0 fun i j => .bl (g i j)) := by
  intro pins s σ H x y v u Q I rx ry h
  obtain ⟨i, j, rfl, rfl, q⟩ := h
  obtain ⟨t, rfl⟩ := rx
  obtain ⟨t', rfl⟩ := ry
  exact rule i j t t' s _ _ ⟨.bl (g i j), H, I, rfl, q⟩
def CDiv (i j : Int) : Prop := 0 < j ∧ j < 1073741824
def CPow (i j : Int) : Prop := 0 ≤ j ∧ j ≤ 1000000 ∧ i.natAbs < 2 ^ 64
def CMul (i j : Int) : Prop := (-(2 ^ 64) < i ∧ i < 2 ^ 64) ∨ (-(2 ^ 64) < j ∧ j < 2 ^ 64)
theorem CMul.ok {i j : Int} (h : CMul i j) : IntMulOk i j := by
  rcases h with ⟨h1, h2⟩ | ⟨h1, h2⟩
  · exact .of_left (intBits_le_64 h1 h2)
  · exact .of_right (intBits_le_64 h1 h2)
theorem op_add : OpR X (binaryOp .Add) (rI0 fun i j => .int (i + j)) := opI0 fun _ _ _ _ _ _ _ q => add_int q
theorem op_sub : OpR X (binaryOp .Sub) (rI0 fun i j => .int (i - j)) := opI0 fun _ _ _ _ _ _ _ q => sub_int q
theorem op_mul : OpR X (binaryOp .Mult) (rI CMul fun i j => .int (i * j)) := opI fun _ _ _ _ _ _ _ hc q => mul_int q hc.ok
/-- // by a positive divisor -/
theorem op_fdiv : OpR X (binaryOp .FloorDiv) (rI CDiv fun i j => .int (i / j)) := opI fun i j _ _ _ _ _ hc q => by
  have h1 : (0 : Int) < j := hc.1
  have h2 : j < 1073741824 := hc.2
  exact floordiv_int (by omega) (by rw [Int.fdiv_eq_ediv_of_nonneg i (by omega)]; exact q) (.inl (PyProof.noPylong_small (by omega)))
/-- % by a positive divisor of any size -/
theorem op_mod : OpR X (binaryOp .Mod) (rI (fun _ j => 0 < j) fun i j => .int (i % j)) := opI fun i j _ _ _ _ _ hc q => by
  have h1 : (0 : Int) < j := hc
  exact mod_int' (by omega) (by rw [Int.fmod_eq_emod_of_nonneg i (by omega)]; exact q)
theorem op_pow : OpR X (binaryOp .Pow) (rI CPow fun i j => .int (i ^ j.toNat)) := opI fun _ _ _ _ _ _ _ hc q => pow_int_small hc.1 hc.2.1 hc.2.2 q
theorem unI {f : Value → Sem Value} {g : Int → Int}
    (rule : ∀ (i : Int) (t : Tok) (s : Shared) (Q : Value → Shared → Prop) (E : Value → Shared → Prop), Q (.int (g i) s.toks) { s with toks := s.toks + 1 } → wpAny (model X.prog X.w) X.A (f (.int i t)) Q E s) :
    UnR X f (rU fun i => .int (g i)) := by
  intro pins s σ H x v Q I rx h
  obtain ⟨i, rfl, q⟩ := h
  obtain ⟨t, rfl⟩ := rx
  exact rule i t s _ _ ⟨.int (g i), H, I.tok _, ⟨_, rfl⟩, q⟩
theorem un_neg : UnR X (unaryOp .USub) (rU fun i => .int (-i)) := unI fun _ _ _ _ _ q => neg_int q
end
/-- the scalars that == tells apart as data does -/
def scal : V → V → Bool
  | .non, .non => true | .non, .int _ => true | .int _, .non => true | .non, .bl _ => true | .bl _, .non => true | .non, .str _ => true | .str _, .non => true
  | .int _, .int _ => true | .bl _, .bl _ => true | .str _, .str _ => true | .byt _, .byt _ => true
  | .int _, .str _ => true | .str _, .int _ => true | .bl _, .str _ => true | .str _, .bl _ => true
  | _, _ => false
def rEq : R2 := fun x y H Q => scal x y = true ∧ Q (.bl (decide (x = y))) H
def rNe : R2 := fun x y H Q => scal x y = true ∧ Q (.bl (!decide (x = y))) H
theorem dec_int {i j : Int} : decide (V.int i = V.int j) = (i == j) := by
  rw [Bool.eq_iff_iff]
  simp
theorem dec_bl {i j : Bool} : decide (V.bl i = V.bl j) = (i == j) := by
  rw [Bool.eq_iff_iff]
  simp
theorem dec_str {i j : Str} : decide (V.str i = V.str j) = (i == j) := by
  rw [Bool.eq_iff_iff]
  simp
theorem dec_byt {i j : Array UInt8} : decide (V.byt i = V.byt j) = (i.toList == j.toList) := by
  rw [Bool.eq_iff_iff]
  cases i
  cases j
  simp
section
variable {X : Cx} {a b c : Expr} {ta tb tc : TE} {pos : Pos}
theorem fin_bl {pins : List (Addr × Obj)} {σ : St} {H : Hp} {s : Shared} {Q : VK} {k k' : Bool} (I : Inv X pins σ H s) (q : Q (.bl k) H) (e : k = k') : EP X pins σ Q (.bool k') s := by
  subst e
  exact ⟨.bl k, H, I, rfl, q⟩
theorem op_eq : OpR X (compareOp .Eq) rEq := by
  intro pins s σ H x y v u Q I rx ry h
  obtain ⟨hs, q⟩ := h
  cases x with
  | non =>
    cases rx
    cases y with
    | non => cases ry; exact PySem.EqNone.eq_none_none (fin_bl I q (by simp))
    | bl j => cases ry; exact PySem.EqNone.eq_none_bool (fin_bl I q (by simp))
    | int j => obtain ⟨t', rfl⟩ := ry; exact PySem.EqNone.eq_none_int (fin_bl I q (by simp))
    | str j => obtain ⟨t', rfl⟩ := ry; exact PySem.EqNone.eq_none_str (fin_bl I q (by simp))
    | _ => exact absurd (show false = true from hs) Bool.false_ne_true
  | bl i =>
    cases rx
    cases y with
    | non => cases ry; exact PySem.EqNone.eq_bool_none (fin_bl I q (by simp))
    | bl j => cases ry; exact eq_bool (fin_bl I q dec_bl)
    | str j => obtain ⟨t', rfl⟩ := ry; exact PySem.EqMixed.eq_bool_str (fin_bl I q (by simp))
    | _ => exact absurd (show false = true from hs) Bool.false_ne_true
  | int i =>
    obtain ⟨t, rfl⟩ := rx
    cases y with
    | non => cases ry; exact PySem.EqNone.eq_int_none (fin_bl I q (by simp))
    | int j => obtain ⟨t', rfl⟩ := ry; exact eq_int (fin_bl I q dec_int)
    | str j => obtain ⟨t', rfl⟩ := ry; exact PySem.EqMixed.eq_int_str (fin_bl I q (by simp))
    | _ => exact absurd (show false = true from hs) Bool.false_ne_true
  | str i =>
    obtain ⟨t, rfl⟩ := rx
    cases y with
    | non => cases ry; exact PySem.EqNone.eq_str_none (fin_bl I q (by simp))
    | bl j => cases ry; exact PySem.EqMixed.eq_str_bool (fin_bl I q (by simp))
    | int j => obtain ⟨t', rfl⟩ := ry; exact PySem.EqMixed.eq_str_int (fin_bl I q (by simp))
    | str j => obtain ⟨t', rfl⟩ := ry; exact eq_str (fin_bl I q dec_str)
    | _ => exact absurd (show false = true from hs) Bool.false_ne_true
  | byt i =>
    obtain ⟨t, rfl⟩ := rx
    cases y with
    | byt j => obtain ⟨t', rfl⟩ := ry; exact PySem.W.eq_bytes (fin_bl I q dec_byt)
    | _ => exact absurd (show false = true from hs) Bool.false_ne_true
  | _ => cases y <;> exact absurd (show false = true from hs) Bool.false_ne_true
theorem op_ne : OpR X (compareOp .NotEq) rNe := by
  intro pins s σ H x y v u Q I rx ry h
  obtain ⟨hs, q⟩ := h
  cases x with
  | non =>
    cases rx
    cases y with
    | non => cases ry; exact PySem.EqNone.ne_none_none (fin_bl I q (by simp))
    | bl j => cases ry; exact PySem.EqNone.ne_none_bool (fin_bl I q (by simp))
    | int j => obtain ⟨t', rfl⟩ := ry; exact PySem.EqNone.ne_none_int (fin_bl I q (by simp))
    | str j => obtain ⟨t', rfl⟩ := ry; exact PySem.EqNone.ne_none_str (fin_bl I q (by simp))
    | _ => exact absurd (show false = true from hs) Bool.false_ne_true
  | bl i =>
    cases rx
    cases y with
    | non => cases ry; exact PySem.EqNone.ne_bool_none (fin_bl I q (by simp))
    | bl j => cases ry; exact ne_bool (fin_bl I q (congrArg not dec_bl))
    | str j => obtain ⟨t', rfl⟩ := ry; exact PySem.EqMixed.ne_bool_str (fin_bl I q (by simp))
    | _ => exact absurd (show false = true from hs) Bool.false_ne_true
  | int i =>
    obtain ⟨t, rfl⟩ := rx
    cases y with
    | non => cases ry; exact PySem.EqNone.ne_int_none (fin_bl I q (by simp))
    | int j => obtain ⟨t', rfl⟩ := ry; exact ne_int (fin_bl I q (congrArg not dec_int))
    | str j => obtain ⟨t', rfl⟩ := ry; exact PySem.EqMixed.ne_int_str (fin_bl I q (by simp))
    | _ => exact absurd (show false = true from hs) Bool.false_ne_true
  | str i =>
    obtain ⟨t, rfl⟩ := rx
    cases y with
    | non => cases ry; exact PySem.EqNone.ne_str_none (fin_bl I q (by simp))
    | bl j => cases ry; exact PySem.EqMixed.ne_str_bool (fin_bl I q (by simp))
    | int j => obtain ⟨t', rfl⟩ := ry; exact PySem.EqMixed.ne_str_int (fin_bl I q (by simp))
    | str j => obtain ⟨t', rfl⟩ := ry; exact ne_str (fin_bl I q (congrArg not dec_str))
    | _ => exact absurd (show false = true from hs) Bool.false_ne_true
  | byt i =>
    obtain ⟨t, rfl⟩ := rx
    cases y with
    | byt j => obtain ⟨t', rfl⟩ := ry; exact PySem.W.ne_bytes (fin_bl I q (congrArg not dec_byt))
    | _ => exact absurd (show false = true from hs) Bool.false_ne_true
  | _ => cases y <;> exact absurd (show false = true from hs) Bool.false_ne_true
theorem op_lt : OpR X (compareOp .Lt) (rI0 fun i j => .bl (decide (i < j))) := opB0 fun _ _ _ _ _ _ _ q => lt_int q
theorem op_gt : OpR X (compareOp .Gt) (rI0 fun i j => .bl (decide (j < i))) := opB0 fun _ _ _ _ _ _ _ q => gt_int q
theorem nomark (b : Expr) {op : CmpOp} (h : op ≠ .In := by decide) (h2 : op ≠ .NotIn := by decide) : behindInMarks op b = false := by
  have e1 : (op == CmpOp.In) = false := by cases op <;> first | rfl | exact absurd rfl h
  have e2 : (op == CmpOp.NotIn) = false := by cases op <;> first | rfl | exact absurd rfl h2
  cases b <;> simp [behindInMarks, e1, e2]
/-- a comparison as a value; hm: nomark b, or (for in, not in) by with_unfolding_all rfl -/
theorem pe_cmpR {op : CmpOp} {r : R2} (ho : OpR X (compareOp op) r) (ha : PE X a ta) (hb : PE X b tb) (hm : behindInMarks op b = false) : PE X (.Compare a [op] [b] pos) (tOp r ta tb) := by
  intro pins s σ H Q I h
  exact wpAny_Compare1 (binT ha hb I h fun v u s2 x y H2 I2 rx ry q => ho pins s2 σ H2 x y v u Q I2 rx ry q) hm
/-- a reading of a value as a test -/
def tTest (t : TE) : TT := fun σ H Q => t σ H fun x H' => ∃ k, x = .bl k ∧ Q k H'
theorem pt_cmpR {op : CmpOp} {r : R2} (ho : OpR X (compareOp op) r) (ha : PE X a ta) (hb : PE X b tb) (hm : behindInMarks op b = false) : PT X (.Compare a [op] [b] pos) (tTest (tOp r ta tb)) := by
  intro pins s σ H Q I h
  refine wpAny_isTrue_Compare1 (thn (ha pins s σ H _ I h) fun v s1 ⟨x, H1, I1, r1, q1⟩ => thn (hb pins s1 σ H1 _ I1 q1) fun u s2 ⟨y, H2, I2, r2, q2⟩ =>
    thn (ho pins s2 σ H2 x y v u _ I2 r1 r2 q2) fun c s3 ⟨z, H3, I3, r3, k, e, q3⟩ => ?_) hm
  subst e
  cases r3
  exact wpAny_truthy_bool ⟨H3, I3, q3⟩
theorem line63 : (sizeLine : Nat) < 2 ^ 63 := by rw [sizeLine_eq]; decide
theorem op_add_str : OpR X (binaryOp .Add) (fun x y H Q => ∃ i j, x = .str i ∧ y = .str j ∧ i.length + j.length ≤ sizeLine ∧ Q (.str (i ++ j)) H) := by
  intro pins s σ H x y v u Q I rx ry h
  obtain ⟨i, j, rfl, rfl, hz, q⟩ := h
  obtain ⟨t, rfl⟩ := rx
  obtain ⟨t', rfl⟩ := ry
  exact add_str (fun t' tk => ⟨.str (i ++ j), H, I.tok _, ⟨_, rfl⟩, q⟩) hz
theorem vals1 {x : V} {us : List Value} (r : Vals [x] us) : ∃ u, us = [u] ∧ RelV x u := by
  cases r with
  | cons r1 r2 => cases r2; exact ⟨_, rfl, r1⟩
theorem vals2 {x y : V} {us : List Value} (r : Vals [x, y] us) : ∃ u w', us = [u, w'] ∧ RelV x u ∧ RelV y w' := by
  cases r with
  | cons r1 r2 =>
    cases r2 with
    | cons r3 r4 => cases r4; exact ⟨_, _, rfl, r1, r3⟩
theorem call_max2 (hc : X.calm = true) : CallR X (.builtin "max") (fun xs H Q => ∃ i j, xs = [.int i, .int j] ∧ Q (.int (if j > i then j else i)) H) := by
  intro pins s σ H xs us Q I r h
  obtain ⟨i, j, rfl, q⟩ := h
  obtain ⟨u, w', rfl, ⟨t, rfl⟩, ⟨t', rfl⟩⟩ := vals2 r
  refine max_two_ints (I.ok.hd hc) fun h' tk k => ⟨_, H, I.kept k, ?_, q⟩
  by_cases hj : j > i
  · rw [if_pos hj, if_pos hj]; exact ⟨_, rfl⟩
  · rw [if_neg hj, if_neg hj]; exact ⟨_, rfl⟩
theorem call_min2 (hc : X.calm = true) : CallR X (.builtin "min") (fun xs H Q => ∃ i j, xs = [.int i, .int j] ∧ Q (.int (if j < i then j else i)) H) := by
  intro pins s σ H xs us Q I r h
  obtain ⟨i, j, rfl, q⟩ := h
  obtain ⟨u, w', rfl, ⟨t, rfl⟩, ⟨t', rfl⟩⟩ := vals2 r
  refine min_two_ints (I.ok.hd hc) fun h' tk k => ⟨_, H, I.kept k, ?_, q⟩
  by_cases hj : j < i
  · rw [if_pos hj, if_pos hj]; exact ⟨_, rfl⟩
  · rw [if_neg hj, if_neg hj]; exact ⟨_, rfl⟩
theorem call_int1 : CallR X (.type "int") (fun xs H Q => (∃ i, xs = [.int i] ∧ Q (.int i) H) ∨ ∃ k, xs = [.bl k] ∧ Q (.int (if k then 1 else 0)) H) := by
  intro pins s σ H xs us Q I r h
  rcases h with ⟨i, rfl, q⟩ | ⟨k, rfl, q⟩
  · obtain ⟨u, rfl, t, rfl⟩ := vals1 r
    exact call_int_int ⟨.int i, H, I, ⟨_, rfl⟩, q⟩
  · obtain ⟨u, rfl, r1⟩ := vals1 r
    cases r1
    exact call_int_bool ⟨.int (if k then 1 else 0), H, I.tok _, ⟨_, rfl⟩, q⟩
end
end L2
namespace L2
open PySem PySem.Spec PyProof.Rows
structure ObjM (h : Heap) (x dx C : Addr) (mA : Str → Option Value) : Prop where
  obj : h.get? x = some (PySem.W.instObj C dx)
  ns : h.Ns1 dx mA
  ne : dx ≠ x
theorem lookIn_ns {h : Heap} {dx : Addr} {mA : Str → Option Value} (n : h.Ns1 dx mA) : ∃ od, h.get? dx = some od ∧ ∀ name, PySem.W.lookIn name od = some (mA name) := by
  obtain ⟨o, es, ep, ho, hd, hk, _, hm⟩ := n
  refine ⟨o, ho, fun name => ?_⟩
  have e := hm name
  unfold nsFind findBy at e
  rw [← Array.find?_toList] at e
  unfold PySem.W.lookIn
  rw [hd]
  dsimp only
  split
  · rename_i y q
    rw [q] at e
    exact congrArg some e
  · rename_i q
    rw [q] at e
    have a : es.toList.any (·.refKey) = false := by
      rw [List.any_eq_false]
      intro y hy
      obtain ⟨z, t, hkey⟩ := hk y (Array.mem_toList_iff.mp hy)
      simp [DictEntry.refKey, hkey]
    have a' : ¬ es.toList.any (·.refKey) = true := by rw [a]; exact Bool.false_ne_true
    rw [if_neg a']
    exact congrArg some e
theorem ObjM.look {h : Heap} {x dx C : Addr} {mA : Str → Option Value} (I : ObjM h x dx C mA) : ∃ od, PySem.W.InstAt h x (PySem.W.instObj C dx) C (some od) ∧ ∀ name, PySem.W.lookIn name od = some (mA name) :=
  let ⟨od, ho, hl⟩ := lookIn_ns I.ns
  ⟨od, ⟨I.obj, rfl, rfl, ho⟩, hl⟩
section
variable {prog : Program} {w : World} {A : Around} {E : Value → Shared → Prop} {s : Shared} {K : PySem.W.Frag} {x dx C f : Addr} {mA : Str → Option Value} {name : Str} {v : Value}
theorem get_map {expr : Bool} {Q : Value → Shared → Prop} (X : K.In s.heap) (I : ObjM s.heap x dx C mA) (hg : PySem.W.plainGet K C name = true) (hh : PySem.W.hasDictIn K C = true)
    (ha : PySem.W.findIn K (.ref C) name = some none) (hv : mA name = some v) (hv' : PySem.W.handedIn v = true) (h : Q v { s with toks := s.toks + 1 }) :
    wpAny (model prog w) A (getAttr (.ref x) name expr) Q E s := by
  obtain ⟨od, J, hl⟩ := I.look
  exact PySem.W.get_value X J (PySem.W.plainGet_of hg).1 (PySem.W.findObj_own hh ha rfl (by rw [hl, hv])) hv' h
theorem get_meth {pl : Sem Bool} {Q : Value × List Value → Shared → Prop} (X : K.In s.heap) (I : ObjM s.heap x dx C mA) (hg : PySem.W.plainGet K C name = true)
    (hf : PySem.W.findIn K (.ref C) name = some (some (.ref f))) (ht : PySem.W.isFn K (.ref f) = true) (hv : mA name = none) (h : Q (.ref f, [.ref x]) s) :
    wpAny (model prog w) A (getMethod (.ref x) name pl) Q E s := by
  obtain ⟨od, J, hl⟩ := I.look
  exact PySem.W.method_fn X J (PySem.W.plainGet_of hg).1 (PySem.W.plainGet_of hg).2 hf (beq_iff_eq.mp ht) (by show (PySem.W.lookIn name od).map (·.isSome) = some false; rw [hl, hv]; rfl) h
theorem set_map {ns : List Str} {Q : Unit → Shared → Prop} (X : K.In s.heap) (I : ObjM s.heap x dx C mA)
    (hs : PySem.W.findIn K (.ref C) "__setattr__" = some (some (.builtin "object.__setattr__"))) (hp : PySem.W.plainOver K C = true) (ht : PySem.W.takerIn K C name = some none) (hh : PySem.W.hasDictIn K C = true)
    (hw : PySem.Within mA ns) (hsz : ns.length ≤ sizeLine)
    (h : ∀ h', ObjM h' x dx C (fun y => if y = name then some v else mA y) → Heap.SameBut dx s.heap h' → Q () { s with heap := h', toks := s.toks + 2 }) :
    wpAny (model prog w) A (setAttr (.ref x) name v) Q E s := by
  obtain ⟨od, J, hl⟩ := I.look
  refine PySem.W.set_plain X J hs (PySem.W.osa_open (s := { s with toks := s.toks + 1 }) (r := none) X J hp ht fun b => ?_)
  obtain ⟨cd, hc, hd'⟩ := PySem.W.any_some hh
  have hx : s.heap.get? x = some ⟨.ref C, some dx, .plain, #[]⟩ := I.obj
  refine wpAny_bind (wpAny_pure (wpAny_bind (wpAny_bind (wpAny_loadPart hx (wpAny_bind (PySem.W.Looks.here (s := { s with toks := s.toks + 1 }) (PySem.W.looks_clsIn X hc) ?_))))))
  rw [hd']
  refine wpAny_pure (a := some dx) (wpAny_bind (wpAny_pure (wpAny_bind ?_)))
  refine wpAny_nsSet1 (s := { s with toks := s.toks + 1 }) I.ns fun h' hn2 hs2 => ?_
  obtain ⟨oD, esD, epD, hoD, hdD, hcD⟩ := hn2.count (PySem.Within.cons name v hw)
  refine wpAny_bind (wpAny_lookBehind hoD (by rw [hdD]; exact pastItsLine_dict (Nat.le_trans hcD (by rw [List.length_cons]; omega))) ?_)
  exact wpAny_pure (h _ ⟨(hs2.2 _ (Ne.symm I.ne)).trans I.obj, hn2, I.ne⟩ hs2)
/-- C(..): the dict at the heap's end, the instance behind it; then its __init__ -/
theorem make_map {R : Result → Shared → Prop} {vs : List Value} {kw : List (Str × Value)} (X : K.In s.heap) (hm : PySem.W.makesIn K C = true)
    (hi : PySem.W.findIn K (.ref C) "__init__" = some (some (.ref f))) (hf : PySem.W.typeIn K (.ref f) = some (.type "function"))
    (h : codeAny (model prog w) (A.under (.builtin "type.__call__" ⟨.ref C :: vs, kw⟩)) (.call (.ref f) ⟨.ref (s.heap.objs.size + 1) :: vs, kw⟩) (PySem.W.InitBack (s.heap.objs.size + 1) R)
      { s with heap := (s.heap.push PySem.W.emptyDict).push (PySem.W.instObj C s.heap.objs.size) }) :
    codeAny (model prog w) A (.call (.ref C) ⟨vs, kw⟩) R s := by
  obtain ⟨hh, g, d, t, os⟩ := s
  exact PySem.W.make_core (PySem.W.makes_of X hm) (PySem.W.looks_findIn X hi) (fun self => PySem.W.bind_fn X self hf) (.inl rfl) h
end
def putF (f : Str) (v : V) : List (Str × V) → List (Str × V)
  | [] => [(f, v)]
  | (g, x) :: r => if g = f then (g, v) :: r else (g, x) :: putF f v r
theorem lookup_putF (f g : Str) (v : V) : ∀ fs : List (Str × V), (putF f v fs).lookup g = if g = f then some v else fs.lookup g
  | [] => by
    show List.lookup g [(f, v)] = _
    by_cases h : g = f
    · have hb : (g == f) = true := beq_iff_eq.mpr h
      simp only [List.lookup, hb, if_pos h]
    · have hb : (g == f) = false := beq_eq_false_iff_ne.mpr h
      simp only [List.lookup, hb, if_neg h]
  | (k, x) :: r => by
    have ih := lookup_putF f g v r
    rw [show putF f v ((k, x) :: r) = (if k = f then (k, v) :: r else (k, x) :: putF f v r) from rfl]
    by_cases hk : k = f
    · rw [if_pos hk]
      by_cases h : g = k
      · have hb : (g == k) = true := beq_iff_eq.mpr h
        simp only [List.lookup, hb, if_pos (h.trans hk)]
      · have hb : (g == k) = false := beq_eq_false_iff_ne.mpr h
        simp only [List.lookup, hb, if_neg (fun e : g = f => h (e.trans hk.symm))]
    · rw [if_neg hk]
      by_cases h : g = k
      · have hb : (g == k) = true := beq_iff_eq.mpr h
        simp only [List.lookup, hb, if_neg (fun e : g = f => hk (h.symm.trans e))]
      · have hb : (g == k) = false := beq_eq_false_iff_ne.mpr h
        simp only [List.lookup, hb]
        exact ih
theorem keys_putF (f : Str) (v : V) : ∀ fs : List (Str × V), f ∈ (putF f v fs).map (·.1) ∧ ∀ g, g ∈ fs.map (·.1) → g ∈ (putF f v fs).map (·.1)
  | [] => ⟨by simp [putF], fun g h => by simp at h⟩
  | (k, x) :: r => by
    obtain ⟨i1, i2⟩ := keys_putF f v r
    rw [show putF f v ((k, x) :: r) = (if k = f then (k, v) :: r else (k, x) :: putF f v r) from rfl]
    by_cases hk : k = f
    · rw [if_pos hk]
      subst hk
      exact ⟨by simp, fun g h => by simpa using h⟩
    · rw [if_neg hk]
      refine ⟨?_, fun g h => ?_⟩
      · rw [List.map_cons]
        exact List.mem_cons_of_mem _ i1
      · rw [List.map_cons] at h ⊢
        rcases List.mem_cons.mp h with e | e
        · exact List.mem_cons.mpr (.inl e)
        · exact List.mem_cons_of_mem _ (i2 g e)
theorem length_putF (f : Str) (v : V) : ∀ fs : List (Str × V), (putF f v fs).length ≤ fs.length + 1
  | [] => by simp [putF]
  | (k, x) :: r => by
    have ih := length_putF f v r
    rw [show putF f v ((k, x) :: r) = (if k = f then (k, v) :: r else (k, x) :: putF f v r) from rfl]
    by_cases hk : k = f
    · rw [if_pos hk, List.length_cons, List.length_cons]; omega
    · rw [if_neg hk, List.length_cons, List.length_cons]; omega
theorem RelO.some_of {v : V} {o : Option Value} (r : RelO (some v) o) : ∃ u, o = some u ∧ RelV v u := by
  cases o with
  | none => exact (show False from r).elim
  | some u => exact ⟨u, rfl, r⟩
theorem RelO.none_of {o : Option Value} (r : RelO none o) : o = none := by
  cases o with
  | none => rfl
  | some u => exact (show False from r).elim
theorem handed_of {v : V} {u : Value} (r : RelV v u) : PySem.W.handedIn u = true := by
  cases v with
  | non => cases (show u = Value.none from r); rfl
  | bl b => cases (show u = Value.bool b from r); rfl
  | int i => obtain ⟨t, e⟩ := (show ∃ t, u = Value.int i t from r); cases e; rfl
  | str x => obtain ⟨t, e⟩ := (show ∃ t, u = Value.str x t from r); cases e; rfl
  | byt b => obtain ⟨t, e⟩ := (show ∃ t, u = Value.bytes b t from r); cases e; rfl
  | flt b => obtain ⟨t, e⟩ := (show ∃ t, u = Value.float b t from r); cases e; rfl
  | ref a => cases (show u = Value.ref a from r); rfl
  | ty n => cases (show u = Value.type n from r); rfl
section
variable {P : Program} {w : World} {H H' : Hp} {h h' : Heap} {a C dx : Addr} {fs fs' : List (Str × V)}
theorem ins_get (hok : HOk P w H h) (e : H a = some (.ins C dx fs)) : ∃ mA, ObjM h a dx C mA ∧ (∀ f, RelO (fs.lookup f) (mA f)) ∧ PySem.Within mA (fs.map (·.1)) ∧ fs.length ≤ 1000 ∧ H dx = some (.own a) := by
  obtain ⟨d, z, ne, ob, mA, n, r, q⟩ := (show ObjOk P w H h a (.ins C dx fs) from hok a _ e)
  exact ⟨mA, ⟨ob, n, ne⟩, r, q, z, d⟩
end
structure Cls (K : PySem.W.Frag) (C : Addr) : Prop where
  pg : PySem.W.plainGet K C Str.empty = true
  hd : PySem.W.hasDictIn K C = true
  po : PySem.W.plainOver K C = true
  sa : PySem.W.findIn K (.ref C) "__setattr__" = some (some (.builtin "object.__setattr__"))
theorem Cls.get {K : PySem.W.Frag} {C : Addr} (c : Cls K C) (f : Str) : PySem.W.plainGet K C f = true := c.pg
/-- no class of it has the name -/
def NoAttr (K : PySem.W.Frag) (C : Addr) (f : Str) : Prop := PySem.W.findIn K (.ref C) f = some none
theorem NoAttr.taker {K : PySem.W.Frag} {C : Addr} {f : Str} (n : NoAttr K C f) : PySem.W.takerIn K C f = some none := by
  unfold PySem.W.takerIn
  rw [show PySem.W.findIn K (.ref C) f = some none from n]
  rfl
/-- a method: a plain def of the class or of one above it -/
structure Meth (K : PySem.W.Frag) (C : Addr) (m : Str) (f : Addr) : Prop where
  at_ : PySem.W.findIn K (.ref C) m = some (some (.ref f))
  fn : PySem.W.isFn K (.ref f) = true
  kp : PySem.W.keepIn K (.ref f) = true
section
variable {X : Cx} {pins : List (Addr × Obj)} {σ : St} {H : Hp} {s : Shared} {a C dx : Addr} {fs : List (Str × V)} {f : Str} {v : V} {A : Around} {E : Value → Shared → Prop}
theorem getattr_ok {b : Bool} {Q : Value → Shared → Prop} (I : Inv X pins σ H s) (e : H a = some (.ins C dx fs)) (c : Cls X.K C) (n : NoAttr X.K C f) (l : fs.lookup f = some v)
    (h : ∀ u s', Inv X pins σ H s' → RelV v u → Q u s') : wpAny (model X.prog X.w) A (getAttr (.ref a) f b) Q E s := by
  obtain ⟨mA, O, r, _, _, _⟩ := ins_get I.hok e
  obtain ⟨u, hu, ru⟩ := RelO.some_of (v := v) (o := mA f) (by rw [← l]; exact r f)
  exact get_map I.kIn O (c.get f) c.hd n hu (handed_of ru) (h u _ (I.tok _) ru)
theorem getmeth_ok {m : Str} {g : Addr} {pl : Sem Bool} {Q : Value × List Value → Shared → Prop} (I : Inv X pins σ H s) (e : H a = some (.ins C dx fs)) (c : Cls X.K C) (k : Meth X.K C m g) (l : fs.lookup m = none)
    (h : Q (.ref g, [.ref a]) s) : wpAny (model X.prog X.w) A (getMethod (.ref a) m pl) Q E s := by
  obtain ⟨mA, O, r, _, _, _⟩ := ins_get I.hok e
  have hn : mA m = none := RelO.none_of (by rw [← l]; exact r m)
  exact get_meth I.kIn O (c.get m) k.at_ k.fn hn h
theorem setattr_ok {y : V} {u : Value} {Q : Unit → Shared → Prop} (I : Inv X pins σ H s) (e : H a = some (.ins C dx fs)) (c : Cls X.K C) (n : NoAttr X.K C f) (hl : fs.length < 1000) (ry : RelV y u)
    (h : ∀ s', Inv X pins σ (upd H a (.ins C dx (putF f y fs))) s' → Q () s') : wpAny (model X.prog X.w) A (setAttr (.ref a) f u) Q E s := by
  obtain ⟨mA, O, r, wi, _, ho⟩ := ins_get I.hok e
  have hz : (fs.map (·.1)).length ≤ sizeLine := by rw [List.length_map, sizeLine_eq]; omega
  refine set_map I.kIn O c.sa c.po n.taker c.hd wi hz fun h' O' sb => h _ ?_
  have hd : ∃ o, h'.get? dx = some o := let ⟨o, _, _, e', _⟩ := O'.ns; ⟨o, e'⟩
  refine I.write (x := a) (e := dx) (by rw [e]; exact True.intro) (.inr ho) (fun b q hb z => (sb.2 b hb).trans z) hd ?_
  refine ⟨by rw [upd_ne O.ne]; exact ho, ?_, O.ne, O'.obj, _, O'.ns, fun g => ?_, fun g hg => ?_⟩
  · have := length_putF f y fs; omega
  · show RelO ((putF f y fs).lookup g) (if g = f then some u else mA g)
    rw [lookup_putF]
    by_cases q : g = f
    · rw [if_pos q, if_pos q]; exact ry
    · rw [if_neg q, if_neg q]; exact r g
  · by_cases q : g = f
    · rw [q]; exact (keys_putF f y fs).1
    · refine (keys_putF f y fs).2 g (wi g fun z => hg ?_)
      show (if g = f then some u else mA g) = none
      rw [if_neg q]; exact z
/-- a new instance, tracked, without attributes -/
theorem Inv.made (I : Inv X pins σ H s) : Inv X pins σ (upd (upd H s.heap.objs.size (.own (s.heap.objs.size + 1))) (s.heap.objs.size + 1) (.ins C s.heap.objs.size []))
    { s with heap := (s.heap.push PySem.W.emptyDict).push (PySem.W.instObj C s.heap.objs.size) } := by
  have e1 : (s.heap.push PySem.W.emptyDict).get? s.heap.objs.size = some PySem.W.emptyDict := Heap.get?_push_size s.heap rfl
  have e2 : ((s.heap.push PySem.W.emptyDict).push (PySem.W.instObj C s.heap.objs.size)).get? (s.heap.objs.size + 1) = some (PySem.W.instObj C s.heap.objs.size) := by
    have := Heap.get?_push_size (s.heap.push PySem.W.emptyDict) (o := PySem.W.instObj C s.heap.objs.size) rfl
    rwa [Heap.size_push] at this
  have e3 : (s.heap.push PySem.W.emptyDict).Ns s.heap.objs.size (fun _ => none) := ⟨PySem.W.emptyDict, #[], _, e1, rfl, (fun e he => absurd he (by simp)), fun _ => rfl⟩
  have I1 := I.laid (a := s.heap.objs.size) (o := .own (s.heap.objs.size + 1)) (h' := s.heap.push PySem.W.emptyDict) (t' := s.toks) (fun b u q => Heap.get?_push_of_some _ q) (Nat.le_refl _) ⟨_, e1⟩
  refine I1.laid (a := s.heap.objs.size + 1) (o := .ins C s.heap.objs.size []) (t' := s.toks) (fun b u q => Heap.get?_push_of_some _ q) (Nat.le_of_eq (Heap.size_push _ _)) ?_
  have ne : s.heap.objs.size ≠ s.heap.objs.size + 1 := Nat.ne_of_lt (Nat.lt_succ_self _)
  refine ⟨by rw [upd_ne ne, upd_same], Nat.zero_le _, ne, e2, fun _ => none, (Heap.Ns1.of_empty e3).at fun o q => Heap.get?_push_of_some _ q, fun _ => True.intro, fun y hy => absurd rfl hy⟩
/-- e.f where nothing but the object is asked: through attributeBase (super) and the last hold -/
theorem attr_of {prog : Program} {w : World} {env : Env} {e : Expr} {f : Str} {pos : Pos} {s : Shared} {Q : Value → Shared → Prop} (hb : attributeBase e f env (eval e env) = eval e env)
    (h : wpAny (model prog w) A (eval e env) (fun o s₁ => wpAny (model prog w) A (getAttr o f true) Q E s₁) E s) : wpAny (model prog w) A (eval (.Attribute e f pos) env) Q E s :=
  Attribute_any_ h (by rw [arm_eval_Attribute, hb])
end
/-- e.f, an attribute of the instance -/
def tFld (K : PySem.W.Frag) (ta : TE) (f : Str) : TE := fun σ H Q => ta σ H fun x H1 => ∃ a C dx fs v, x = .ref a ∧ H1 a = some (.ins C dx fs) ∧ Cls K C ∧ NoAttr K C f ∧ fs.lookup f = some v ∧ Q v H1
/-- e.f = value -/
def sFld (K : PySem.W.Frag) (ta tv : TE) (f : Str) : TS := fun D σ H => tv σ H fun y H1 => ta σ H1 fun x H2 => ∃ a C dx fs, x = .ref a ∧ H2 a = some (.ins C dx fs) ∧ Cls K C ∧ NoAttr K C f ∧ fs.length < 1000 ∧
  D.nx σ (upd H2 a (.ins C dx (putF f y fs)))
section
variable {X : Cx} {o e value : Expr} {f : Str} {pos pos' tpos : Pos} {ta tv : TE}
theorem pe_fld (he : PE X e ta) (hb : attributeBase e f X.env (eval e X.env) = eval e X.env) : PE X (.Attribute e f pos) (tFld X.K ta f) := by
  intro pins s σ H Q I h
  refine attr_of hb (thn (he pins s σ H _ I h) fun u s1 ⟨x, H1, I1, rx, a, C, dx, fs, v, ex, ea, c, n, l, q⟩ => ?_)
  subst ex
  obtain rfl : u = Value.ref a := rx
  exact getattr_ok I1 ea c n l fun u' s2 I2 ru => ⟨v, H1, I2, ru, q⟩
theorem ps_fld (ha : PE X o ta) (hv : PE X value tv) (hs : swapsWith value (some (.Attribute o f pos')) pos.line X.env = pure false) : PS X (.Assign [.Attribute o f pos'] value pos) (sFld X.K ta tv f) := by
  intro pins s σ H D I h
  refine plainObj_wpAny_Assign_Attribute (thn (hv pins s σ H _ I h) fun u s1 ⟨y, H1, I1, ry, q⟩ => thn (ha pins s1 σ H1 _ I1 q) fun ov s2 ⟨x, H2, I2, rx, a, C, dx, fs, ex, ea, c, n, l, q2⟩ => ?_) hs
  subst ex
  obtain rfl : ov = Value.ref a := rx
  exact setattr_ok I2 ea c n l ry fun s3 I3 => ⟨σ, _, I3, q2⟩
/-- what is between an instance and its method: the tree of a method call -/
theorem methcall_of {pl : Sem Bool} {m : Str} {apos : Pos} {args : List Expr} {pins : List (Addr × Obj)} {s : Shared} {σ : St} {H : Hp} {Q : Value → Shared → Prop} {te : TE} (he : PE X e te) (I : Inv X pins σ H s)
    (h : te σ H fun x H1 => ∃ a C dx fs g, x = .ref a ∧ H1 a = some (.ins C dx fs) ∧ Cls X.K C ∧ Meth X.K C m g ∧ fs.lookup m = none ∧
      ∀ s1, Inv X pins σ H1 s1 → wpAny (model X.prog X.w) X.A (callWith pos (.ref g) [.ref a] (backTo pos (starEach args X.env)) (backToKw pos (keywordEach [] X.env))) Q X.xe s1)
    (ht : eval (.Call (.Attribute e m apos) args [] pos) X.env = (do
      let ov ← eval e X.env
      standAt apos.atName
      let (f, first) ← holding [ov] (getMethod ov m pl)
      callWith pos f first (backTo pos (starEach args X.env)) (backToKw pos (keywordEach [] X.env)))) :
    wpAny (model X.prog X.w) X.A (eval (.Call (.Attribute e m apos) args [] pos) X.env) Q X.xe s := by
  refine PySem.W.methodCall_KW (pl := pl) (thn (he pins s σ H _ I h) fun u s1 ⟨x, H1, I1, rx, a, C, dx, fs, g, ex, ea, c, k, l, q⟩ => ?_) ht
  subst ex
  obtain rfl : u = Value.ref a := rx
  exact getmeth_ok I1 ea c k l (q s1 I1)
end
section
variable {X : Cx} {pins : List (Addr × Obj)} {σ : St} {H : Hp} {s : Shared} {A : Around} {E : Value → Shared → Prop} {Q : Value → Shared → Prop} {c : Value} {b : Bool}
/-- the type of a value, as the fragment's deciders take it; for an instance its class -/
inductive TyOf (K : PySem.W.Frag) (H : Hp) : V → Value → Prop where
  | non : TyOf K H .non (.type "NoneType")
  | bl (x : Bool) : TyOf K H (.bl x) (.type "bool")
  | int (i : Int) : TyOf K H (.int i) (.type "int")
  | str (x : Str) : TyOf K H (.str x) (.type "str")
  | flt (x : UInt64) : TyOf K H (.flt x) (.type "float")
  | lst {a : Addr} {xs : List V} (e : H a = some (.lst xs)) : TyOf K H (.ref a) (.type "list")
  | frz {a : Addr} {o : Obj} {xs : List V} (e : H a = some (.frz o (.lst xs))) : TyOf K H (.ref a) (.type "list")
  | tup {a : Addr} {xs : List V} (e : H a = some (.tup xs)) : TyOf K H (.ref a) (.type "tuple")
  | dK {a : Addr} {kvs : List (Key × V)} (e : H a = some (.dK kvs)) : TyOf K H (.ref a) (.type "dict")
  | dT {a : Addr} {kvs : List (List Key × V)} (e : H a = some (.dT kvs)) : TyOf K H (.ref a) (.type "dict")
  | ins {a C dx : Addr} {fs : List (Str × V)} (e : H a = some (.ins C dx fs)) (cl : Cls K C) (ha : PySem.W.findIn K (.ref C) "__class__" = some (some (.builtin "object.__class__")))
      (hn : PySem.W.specialIn K (.builtin "object.__class__") "__get__" = some (some (.builtin "getset_descriptor.__get__"))) (htk : PySem.W.takesIn K (.builtin "object.__class__") = some true)
      (hm : PySem.W.mroIn K C (.type "object") = some true) : TyOf K H (.ref a) (.ref C)
/-- isinstance(x, c) for one class c, a built-in or an own one: kitOne's answer -/
theorem isinst_ok {x : V} {u t : Value} (I : Inv X pins σ H s) (rx : RelV x u) (ty : TyOf X.K H x t) (e : PySem.W.kitOne X.K t c = some b) (h : ∀ tk, Q (.bool b) { s with toks := tk }) :
    wpAny (model X.prog X.w) A (call (.builtin "isinstance") [u, c]) Q E s := by
  cases ty with
  | non => cases (show u = Value.none from rx); exact PySem.W.kia_one PySem.W.kitx_none I.kIn True.intro e (fun z => nomatch z) h
  | bl y => cases (show u = Value.bool y from rx); exact PySem.W.kia_one PySem.W.kitx_bool I.kIn True.intro e (fun z => nomatch z) h
  | int i => obtain ⟨t, q⟩ := (show ∃ t, u = Value.int i t from rx); cases q; exact PySem.W.kia_one PySem.W.kitx_int I.kIn True.intro e (fun z => nomatch z) h
  | str y => obtain ⟨t, q⟩ := (show ∃ t, u = Value.str y t from rx); cases q; exact PySem.W.kia_one PySem.W.kitx_str I.kIn True.intro e (fun z => nomatch z) h
  | flt y => obtain ⟨t, q⟩ := (show ∃ t, u = Value.float y t from rx); cases q; exact PySem.W.kia_one PySem.W.kitx_float I.kIn True.intro e (fun z => nomatch z) h
  | @lst a xs ea =>
    cases (show u = Value.ref a from rx)
    obtain ⟨_, _, n, _, h1⟩ := (show ObjOk X.prog X.w H s.heap a (.lst xs) from I.hok a _ ea)
    exact PySem.W.kia_one PySem.W.kitx_list I.kIn ⟨_, h1, rfl⟩ e (fun z => nomatch z) h
  | @frz a ob xs ea =>
    cases (show u = Value.ref a from rx)
    obtain ⟨_, _, _, n, _, h1⟩ := (show ObjOk X.prog X.w H s.heap a (.frz ob (.lst xs)) from I.hok a _ ea)
    exact PySem.W.kia_one PySem.W.kitx_list I.kIn ⟨_, h1, rfl⟩ e (fun z => nomatch z) h
  | @tup a xs ea =>
    cases (show u = Value.ref a from rx)
    obtain ⟨_, _, _, p⟩ := (show ObjOk X.prog X.w H s.heap a (.tup xs) from I.hok a _ ea)
    obtain ⟨o, h1, h2, _⟩ := p
    exact PySem.W.kia_one PySem.W.kitx_tuple I.kIn ⟨o, h1, h2⟩ e (fun z => nomatch z) h
  | @dK a kvs ea =>
    cases (show u = Value.ref a from rx)
    obtain ⟨_, _, vs, _, p⟩ := (show ObjOk X.prog X.w H s.heap a (.dK kvs) from I.hok a _ ea)
    obtain ⟨o, es, ep, h1, h2, _⟩ := p
    exact PySem.W.kia_one PySem.W.kitx_dict I.kIn ⟨o, h1, h2.1⟩ e (fun z => nomatch z) h
  | @dT a kvs ea =>
    cases (show u = Value.ref a from rx)
    obtain ⟨_, _, xs, _, o, es, ep, h1, h2, _⟩ := (show ObjOk X.prog X.w H s.heap a (.dT kvs) from I.hok a _ ea)
    exact PySem.W.kia_one PySem.W.kitx_dict I.kIn ⟨o, h1, h2.1⟩ e (fun z => nomatch z) h
  | @ins a C dx fs ea cl ha hn htk hm =>
    cases (show u = Value.ref a from rx)
    obtain ⟨mA, O, _⟩ := ins_get I.hok ea
    obtain ⟨od, J, _⟩ := O.look
    exact PySem.W.kia_one (PySem.W.kitx_own (cl.get _) cl.hd ha hn htk hm) I.kIn J e (fun z => nomatch z) h
end
end L2
namespace L2
open PySem PySem.Spec PyProof.Rows
structure Room (k : Nat) (A : Around) : Prop where
  hd : A.handled = none
  dp : A.depth + 3 * k + 5 < recursionLimit
  un : A.units + 16 * k + 200 < cLine
theorem Room.mono {j k : Nat} {A : Around} (r : Room k A) (h : j ≤ k) : Room j A := ⟨r.hd, by have := r.dp; omega, by have := r.un; omega⟩
theorem Room.deeper {k : Nat} {A : Around} (r : Room (k + 1) A) (env : Env) : Room k (A.deeper env) :=
  ⟨r.hd, by have := r.dp; show A.depth + 1 + 3 * k + 5 < _; omega, by have := r.un; show A.units + 3 + 16 * k + 200 < _; omega⟩
theorem make_depth {A : Around} {C : Addr} {us : List Value} {kw : List (Str × Value)} : (A.under (.builtin "type.__call__" ⟨.ref C :: us, kw⟩)).depth = A.depth + 1 := by
  first | rfl | simp [Around.under, Code.weight, Code.isCreation, Code.isGuard, Code.isCaller, Code.frames, Code.isFrame, guardIds]
theorem make_units {A : Around} {C : Addr} {us : List Value} {kw : List (Str × Value)} : (A.under (.builtin "type.__call__" ⟨.ref C :: us, kw⟩)).units = A.units + 1 := by
  first | rfl | simp [Around.under, Code.cUnits, Code.frames, Code.isFrame]
theorem Room.make {k : Nat} {A : Around} (r : Room (k + 1) A) (C : Addr) (us : List Value) (kw : List (Str × Value)) : Room k (A.under (.builtin "type.__call__" ⟨.ref C :: us, kw⟩)) :=
  ⟨r.hd, by have := r.dp; rw [make_depth]; omega, by have := r.un; rw [make_units]; omega⟩
theorem Room.depth {k : Nat} {A : Around} (r : Room k A) : A.depth < recursionLimit := by have := r.dp; omega
theorem Room.units {k : Nat} {A : Around} (r : Room k A) : A.units + 64 < cLine := by have := r.un; omega
def tNil : TA := fun _ H Q => Q [] H
def tCons (ta : TE) (tr : TA) : TA := fun σ H Q => ta σ H fun x H1 => tr σ H1 fun xs H2 => Q (x :: xs) H2
section
variable {X : Cx} {e : Expr} {es : List Expr} {te : TE} {t : TA} {pos : Pos}
theorem pa_nil : PA X [] tNil := fun _ _ _ _ H Q I h => Calls.spliced_nil ⟨[], H, I, .nil, h⟩
theorem pa_cons (ha : PE X e te) (hr : PA X es t) (hs : starEach (e :: es) X.env = (false, eval e X.env) :: starEach es X.env := by rfl) : PA X (e :: es) (tCons te t) := by
  intro pos pins s σ H Q I h
  rw [hs]
  show wpAny _ _ (spliced ((false, eval e X.env) :: backTo pos (starEach es X.env))) _ _ s
  refine Calls.spliced_cons (thn (ha pins s σ H _ I h) fun u s1 ⟨x, H1, I1, r1, q1⟩ => ?_)
  exact thn (hr pos pins s1 σ H1 _ I1 q1) fun us s2 ⟨xs, H2, I2, r2, q2⟩ => ⟨x :: xs, H2, I2, .cons r1 r2, q2⟩
def tLst (t : TA) : TE := fun σ H Q => t σ H fun xs H1 => xs.length ≤ sizeLine ∧ ∀ p, H1 p = none → Q (.ref p) (upd H1 p (.lst xs))
theorem pe_lst (h : PA X es t) : PE X (.List es pos) (tLst t) := by
  intro pins s σ H Q I hq
  refine wpAny_List_spliced (thn (h pos pins s σ H _ I hq) fun us s1 ⟨xs, H1, I1, r, z, q⟩ => ⟨by rw [← r.length]; exact z, ?_⟩)
  have hf : H1 s1.heap.objs.size = none := I1.hok.fresh (Nat.le_refl _)
  refine ⟨.ref s1.heap.objs.size, upd H1 s1.heap.objs.size (.lst xs), I1.laid (t' := s1.toks) (fun b u e => Heap.get?_push_of_some _ e) (Nat.le_refl _) ?_, rfl, q _ hf⟩
  exact ⟨z, us, 0, r, Heap.get?_push_size _ rfl⟩
end
/-- a def's promise: the bound arguments in the parameters' order, the heap, the wanted end, the wanted exception -/
abbrev Sp := List V → Hp → VK → XK → Prop
/-- how an exception lies behind a call (file 08 gives it): the callers' frames, abstract heap and state ahead of the call, the wish, the exception, the state -/
abbrev CXT := List Env → Hp → Shared → XK → Value → Shared → Prop
/-- the state at a call -/
structure Env0 (P : Program) (w : World) (K : PySem.W.Frag) (mg : Str → Option Value) (base : Heap) (A : Around) (outer : List Env) (s : Shared) (H : Hp) : Prop where
  frames : A.frames = some outer
  mod : Mod K mg base
  bs : ∀ b o, base.get? b = some o → s.heap.get? b = some o ∧ H b = none
  bsz : base.objs.size ≤ s.heap.objs.size
  funs : s.heap.FunFrames base outer
  frf : ∀ b ∈ frs outer, H b = none
  hok : HOk P w H s.heap
  bare : AllBare s.gens
/-- a call's end -/
def CE (outer : List Env) (P : Program) (w : World) (H : Hp) (s : Shared) (Q : VK) (u : Value) (s' : Shared) : Prop :=
  ∃ v H', s'.os = s.os ∧ AllBare s'.gens ∧ Un (frs outer) [] H H' s.heap s'.heap ∧ HOk P w H' s'.heap ∧ RelV v u ∧ Q v H'
def CR (CX : CXT) (outer : List Env) (P : Program) (w : World) (H : Hp) (s : Shared) (Q : VK) (E : XK) (r : Result) (s' : Shared) : Prop :=
  match r with
  | .ok (.ret u) => CE outer P w H s Q u s'
  | .ok _ => False
  | .error e => CX outer H s E e s'
structure FnOk (P : Program) (w : World) (K : PySem.W.Frag) (mg : Str → Option Value) (base : Heap) (CX : CXT) (k : Nat) (f : Addr) (fd : FuncData) (ps : List Str) (sp : Sp) : Prop where
  len : ∀ vs H Q E, sp vs H Q E → vs.length = ps.length
  run : ∀ (A : Around) (outer : List Env) (s : Shared) (H : Hp) (args : Args) (us : List Value) (vs : List V) (Q : VK) (E : XK), Room k A → Env0 P w K mg base A outer s H → BindsTo s fd args (ps.zip us) → Vals vs us → sp vs H Q E →
    codeAny (model P w) A (.call (.ref f) args) (CR CX outer P w H s Q E) s
theorem FnOk.mono {P : Program} {w : World} {K : PySem.W.Frag} {mg : Str → Option Value} {base : Heap} {CX : CXT} {j k : Nat} {f : Addr} {fd : FuncData} {ps : List Str} {sp : Sp} (F : FnOk P w K mg base CX j f fd ps sp) (h : j ≤ k) :
    FnOk P w K mg base CX k f fd ps sp := ⟨F.len, fun A outer s H args us vs Q E hr => F.run A outer s H args us vs Q E (hr.mono h)⟩
theorem Env0.make {P : Program} {w : World} {K : PySem.W.Frag} {mg : Str → Option Value} {base : Heap} {A : Around} {outer : List Env} {s : Shared} {H : Hp} (e : Env0 P w K mg base A outer s H) (C : Addr) (us : List Value) (kw : List (Str × Value)) :
    Env0 P w K mg base (A.under (.builtin "type.__call__" ⟨.ref C :: us, kw⟩)) outer s H := ⟨by first | exact e.frames | (simpa [Around.under, Code.envs, Code.isFrame, pushEnvs] using e.frames), e.mod, e.bs, e.bsz, e.funs, e.frf, e.hok, e.bare⟩
section
variable {X : Cx} {pins : List (Addr × Obj)} {σ : St} {H : Hp} {s s' : Shared}
/-- from a body: what a callee wants -/
theorem Inv.env0 (I : Inv X pins σ H s) : Env0 X.prog X.w X.K X.mg X.base X.A X.stack s H :=
  ⟨I.ok.frames, I.ok.mod, I.bs, Nat.le_trans I.ok.bsz I.sz, I.stack, I.stkFree, I.hok, I.bare⟩
/-- behind a call -/
theorem Inv.after {Q : VK} {u : Value} (I : Inv X pins σ H s) (h : CE X.stack X.prog X.w H s Q u s') : EP X pins σ Q u s' := by
  obtain ⟨v, H', os, bare, un, hok, r, q⟩ := h
  obtain ⟨hh, g, d, t, os'⟩ := s'
  obtain rfl : os' = s.os := os
  exact ⟨v, H', I.call (h' := hh) (g' := g) (d' := d) (t' := t) (ch := []) un hok bare (fun b z => absurd z (by simp)), r, q⟩
end
/-- f(..): the written arguments, then the defaults dvs; E: what is wanted of an exception -/
def tCall (sp : Sp) (dvs : List V) (E : XK) (t : TA) : TE := fun σ H Q => t σ H fun vs H1 => sp (vs ++ dvs) H1 Q E
/-- o.m(..) of an instance of the class at C -/
def tMeth (C : Addr) (m : Str) (sp : Sp) (dvs : List V) (E : XK) (ta : TE) (t : TA) : TE := fun σ H Q => ta σ H fun x H1 => ∃ a dx fs, x = .ref a ∧ H1 a = some (.ins C dx fs) ∧ fs.lookup m = none ∧
  t σ H1 fun vs H2 => sp (x :: (vs ++ dvs)) H2 Q E
/-- C(..): a new instance and its dict, then __init__ -/
def tMake (C : Addr) (sp : Sp) (dvs : List V) (E : XK) (t : TA) : TE := fun σ H Q => t σ H fun vs H1 => ∀ x dx, H1 x = none → H1 dx = none → dx ≠ x →
  sp (.ref x :: (vs ++ dvs)) (upd (upd H1 dx (.own x)) x (.ins C dx [])) (fun v H2 => v = .non ∧ Q (.ref x) H2) E
/-- how the parameters are bound: us the positional arguments, kw the keywords' values by name, ds the defaults that fill up -/
def Binds (K : PySem.W.Frag) (fd : FuncData) (ps : List Str) (ds : List Value) : Prop :=
  ∀ (s : Shared) (us : List Value), K.In s.heap → (us ++ ds).length = ps.length → BindsTo s fd ⟨us, []⟩ (ps.zip (us ++ ds))
/-- every parameter is given -/
theorem Binds.all {K : PySem.W.Frag} {fd : FuncData} {ps : List Str} (h : ∀ us : List Value, us.length = ps.length → bindArgs fd ⟨us, []⟩ = pure (ps.zip us)) : Binds K fd ps [] := fun s us _ hl => by
  rw [List.append_nil] at hl ⊢
  exact .of_eq (h us hl)
/-- an exception of a callee reaches what this body wants of exceptions -/
def Passes (CX : CXT) (X : Cx) (E : XK) : Prop := ∀ (pins : List (Addr × Obj)) (σ : St) (H : Hp) (s : Shared) (e : Value) (s' : Shared), Inv X pins σ H s → CX X.stack H s E e s' → X.xe e s'
section
variable {X : Cx} {CX : CXT} {k : Nat} {f C : Addr} {fd : FuncData} {ps : List Str} {sp : Sp} {dvs : List V} {ds : List Value} {E : XK} {x m : Str} {p pos apos : Pos} {e o : Expr} {es : List Expr} {ta : TE} {t : TA}
/-- the callee runs -/
theorem run_fn {pins : List (Addr × Obj)} {σ : St} {H : Hp} {s : Shared} {Q : VK} {us : List Value} {vs : List V} (F : FnOk X.prog X.w X.K X.mg X.base CX k f fd ps sp) (hr : Room k X.A) (hb : Binds X.K fd ps ds) (hd : Vals dvs ds) (hx : Passes CX X E)
    (I : Inv X pins σ H s) (r : Vals vs us) (h : sp (vs ++ dvs) H Q E) : wpAny (model X.prog X.w) X.A (call (.ref f) us) (EP X pins σ Q) X.xe s := by
  have r2 : Vals (vs ++ dvs) (us ++ ds) := r.append hd
  have hl : (us ++ ds).length = ps.length := by rw [← r2.length]; exact F.len _ _ _ _ h
  refine wpAny_call (codeAny_mono (F.run X.A X.stack s H ⟨us, []⟩ (us ++ ds) (vs ++ dvs) Q E hr I.env0 (hb s us I.kIn hl) r2 h) fun r s' hq => ?_)
  cases r with
  | error e => exact hx pins σ H s e s' I hq
  | ok fl =>
    cases fl with
    | ret u => exact I.after hq
    | next => exact False.elim hq
    | brk => exact False.elim hq
    | cont => exact False.elim hq
theorem pe_call (F : FnOk X.prog X.w X.K X.mg X.base CX k f fd ps sp) (hr : Room k X.A) (hg : Gl X x) (hm : X.mg x = some (.ref f)) (hk : PySem.W.keepIn X.K (.ref f) = true) (hb : Binds X.K fd ps ds) (hd : Vals dvs ds) (hx : Passes CX X E)
    (ha : PA X (e :: es) t) (hdb : (x == ("__debug__" : Str)) = false := by decide) (he : starEach (e :: es) X.env = (false, eval e X.env) :: starEach es X.env := by rfl) (hpl : (backTo pos (starEach es X.env)).any (·.1) = false := by rfl) :
    PE X (.Call (.Name x p) (e :: es) [] pos) (tCall sp dvs E t) := by
  intro pins s σ H Q I h
  refine wpAny_Call_Name_kw (ld_glob I hg hm ?_ hdb)
  refine PySem.W.callWith_K (h₀ := X.base) I.ok.mod.kin hk (thn (ha pos pins s σ H _ I h) fun us s1 ⟨vs, H1, I1, r, q⟩ => ⟨I1.kIn, ?_⟩) he hpl
  exact run_fn F hr hb hd hx I1 r q
/-- o.m(e, ..) -/
theorem pe_meth {pl : Sem Bool} (he : PE X o ta) (c : Cls X.K C) (hm : Meth X.K C m f) (F : FnOk X.prog X.w X.K X.mg X.base CX k f fd ps sp) (hr : Room k X.A) (hb : Binds X.K fd ps ds) (hd : Vals dvs ds) (hx : Passes CX X E) (ha : PA X (e :: es) t)
    (hst : starEach (e :: es) X.env = (false, eval e X.env) :: starEach es X.env := by rfl) (hpl : (backTo pos (starEach es X.env)).any (·.1) = false := by rfl)
    (ht : eval (.Call (.Attribute o m apos) (e :: es) [] pos) X.env = (do
      let ov ← eval o X.env
      standAt apos.atName
      let (f, first) ← holding [ov] (getMethod ov m pl)
      callWith pos f first (backTo pos (starEach (e :: es) X.env)) (backToKw pos (keywordEach [] X.env))) := by rfl) :
    PE X (.Call (.Attribute o m apos) (e :: es) [] pos) (tMeth C m sp dvs E ta t) := by
  intro pins s σ H Q I h
  refine PySem.W.methodCall_KW (pl := pl) (thn (he pins s σ H _ I h) fun u s1 ⟨x, H1, I1, rx, a, dx, fs, ex, ea, l, q⟩ => ?_) ht
  subst ex
  obtain rfl : u = Value.ref a := rx
  refine getmeth_ok I1 ea c hm l ?_
  refine PySem.W.callWith_K (first := [.ref a]) (h₀ := X.base) I.ok.mod.kin hm.kp (thn (ha pos pins s1 σ H1 _ I1 q) fun us s2 ⟨vs, H2, I2, r, q2⟩ => ⟨I2.kIn, ?_⟩) hst hpl
  exact run_fn (us := .ref a :: us) (vs := .ref a :: vs) F hr hb hd hx I2 (.cons rfl r) q2
/-- o.m() -/
theorem pe_meth0 {pl : Sem Bool} (he : PE X o ta) (c : Cls X.K C) (hm : Meth X.K C m f) (F : FnOk X.prog X.w X.K X.mg X.base CX k f fd ps sp) (hr : Room k X.A) (hb : Binds X.K fd ps ds) (hd : Vals dvs ds) (hx : Passes CX X E)
    (ht : eval (.Call (.Attribute o m apos) [] [] pos) X.env = (do
      let ov ← eval o X.env
      standAt apos.atName
      let (f, first) ← holding [ov] (getMethod ov m pl)
      callWith pos f first (backTo pos (starEach [] X.env)) (backToKw pos (keywordEach [] X.env))) := by rfl) :
    PE X (.Call (.Attribute o m apos) [] [] pos) (tMeth C m sp dvs E ta tNil) := by
  intro pins s σ H Q I h
  refine PySem.W.methodCall_KW (pl := pl) (thn (he pins s σ H _ I h) fun u s1 ⟨x, H1, I1, rx, a, dx, fs, ex, ea, l, q⟩ => ?_) ht
  subst ex
  obtain rfl : u = Value.ref a := rx
  refine getmeth_ok I1 ea c hm l ?_
  exact PySem.W.callWith_K0 (first := [.ref a]) I1.kIn hm.kp (run_fn (us := [.ref a]) (vs := [.ref a]) F hr hb hd hx I1 (.cons rfl .nil) q)
/-- what a class must have to be made -/
structure Mk (K : PySem.W.Frag) (C f : Addr) : Prop where
  makes : PySem.W.makesIn K C = true
  init : PySem.W.findIn K (.ref C) "__init__" = some (some (.ref f))
  fn : PySem.W.isFn K (.ref f) = true
  kp : PySem.W.keepIn K (.ref C) = true
theorem run_make {pins : List (Addr × Obj)} {σ : St} {H : Hp} {s : Shared} {Q : VK} {us : List Value} {vs : List V} (M : Mk X.K C f) (F : FnOk X.prog X.w X.K X.mg X.base CX k f fd ps sp) (hr : Room (k + 1) X.A) (hb : Binds X.K fd ps ds) (hd : Vals dvs ds)
    (hx : Passes CX X E) (I : Inv X pins σ H s) (r : Vals vs us)
    (h : ∀ x dx, H x = none → H dx = none → dx ≠ x → sp (.ref x :: (vs ++ dvs)) (upd (upd H dx (.own x)) x (.ins C dx [])) (fun v H2 => v = .non ∧ Q (.ref x) H2) E) :
    wpAny (model X.prog X.w) X.A (call (.ref C) us) (EP X pins σ Q) X.xe s := by
  have hq := h (s.heap.objs.size + 1) s.heap.objs.size (I.hok.fresh (Nat.le_succ _)) (I.hok.fresh (Nat.le_refl _)) (Nat.ne_of_lt (Nat.lt_succ_self _))
  have I2 := Inv.made (C := C) I
  have r2 : Vals (V.ref (s.heap.objs.size + 1) :: (vs ++ dvs)) (Value.ref (s.heap.objs.size + 1) :: (us ++ ds)) := .cons rfl (r.append hd)
  have hl : (Value.ref (s.heap.objs.size + 1) :: us ++ ds).length = ps.length := by
    have e := r2.length
    rw [F.len _ _ _ _ hq] at e
    exact e.symm
  refine wpAny_call (make_map (f := f) I.kIn M.makes M.init (beq_iff_eq.mp M.fn) (codeAny_mono (F.run _ X.stack _ _ ⟨Value.ref (s.heap.objs.size + 1) :: us, []⟩ (Value.ref (s.heap.objs.size + 1) :: (us ++ ds)) _ _ E (hr.make C us [])
    (I2.env0.make C us []) (hb _ (Value.ref (s.heap.objs.size + 1) :: us) I2.kIn hl) r2 hq) fun r s' hq' => ?_))
  cases r with
  | error e => exact hx pins σ _ _ e s' I2 hq'
  | ok fl =>
    cases fl with
    | ret u =>
      obtain ⟨v, H', I3, rv, ev, q3⟩ := I2.after hq'
      subst ev
      exact ⟨rv, ⟨V.ref (s.heap.objs.size + 1), H', I3, rfl, q3⟩⟩
    | next => exact False.elim hq'
    | brk => exact False.elim hq'
    | cont => exact False.elim hq'
theorem pe_make0 (M : Mk X.K C f) (F : FnOk X.prog X.w X.K X.mg X.base CX k f fd ps sp) (hr : Room (k + 1) X.A) (hg : Gl X x) (hm : X.mg x = some (.ref C)) (hb : Binds X.K fd ps ds) (hd : Vals dvs ds) (hx : Passes CX X E)
    (hdb : (x == ("__debug__" : Str)) = false := by decide) : PE X (.Call (.Name x p) [] [] pos) (tMake C sp dvs E tNil) := by
  intro pins s σ H Q I h
  refine wpAny_Call_Name_kw (ld_glob I hg hm ?_ hdb)
  exact PySem.W.callWith_K0 I.kIn M.kp (run_make (us := []) M F hr hb hd hx I .nil h)
end
/-- names: the parameters first -/
structure FnScope (N P : List Str) (sc : Scope) : Prop where
  kind : sc.kind = .function
  co : sc.isCoroutine = false
  gen : sc.isGenerator = false
  nd : N.Nodup
  pre : N.take P.length = P
  par : ∀ x ∈ P, sc.names.lookup x = some .local ∨ sc.names.lookup x = some .cell
  nofree : ∀ y ∈ sc.names, y.2 ≠ .free
theorem bindL_out {kindOf : Str → Option NameKind} {x : Str} : ∀ {binds : List (Str × Value)} {m : Str → Option Value}, (∀ v, (x, v) ∉ binds) → bindL kindOf binds m x = m x
  | [], _, _ => rfl
  | (n, v) :: r, m, h => by
    unfold bindL
    rw [bindL_out fun w hw => h w (List.mem_cons_of_mem _ hw)]
    split
    · have : x ≠ n := by rintro rfl; exact h v List.mem_cons_self
      simp [this]
    · rfl
theorem bindC_out {kindOf : Str → Option NameKind} {x : Str} : ∀ {binds : List (Str × Value)} {m : Str → Option Value}, (∀ v, (x, v) ∉ binds) → bindC kindOf binds m x = m x
  | [], _, _ => rfl
  | (n, v) :: r, m, h => by
    unfold bindC
    rw [bindC_out fun w hw => h w (List.mem_cons_of_mem _ hw)]
    split
    · rfl
    · have : x ≠ n := by rintro rfl; exact h v List.mem_cons_self
      simp [this]
theorem bindL_get {kindOf : Str → Option NameKind} {x : Str} {v : Value} : ∀ {P : List Str} {vs : List Value} {i : Nat} {m : Str → Option Value}, P.Nodup → P[i]? = some x → vs[i]? = some v → kindOf x = some .local →
    bindL kindOf (P.zip vs) m x = some v
  | [], _, _, _, _, h, _, _ => by simp at h
  | _ :: _, [], _, _, _, _, h, _ => by simp at h
  | p :: P, w :: vs, 0, m, nd, h1, h2, hk => by
    simp at h1 h2; subst h1; subst h2
    show bindL kindOf ((p, w) :: P.zip vs) m p = _
    unfold bindL
    rw [bindL_out fun v hv => (List.nodup_cons.mp nd).1 (List.of_mem_zip hv).1, if_pos hk]
    simp
  | p :: P, w :: vs, i + 1, m, nd, h1, h2, hk => by
    show bindL kindOf ((p, w) :: P.zip vs) m x = _
    unfold bindL
    exact bindL_get (i := i) (List.nodup_cons.mp nd).2 (by simpa using h1) (by simpa using h2) hk
theorem bindC_get {kindOf : Str → Option NameKind} {x : Str} {v : Value} : ∀ {P : List Str} {vs : List Value} {i : Nat} {m : Str → Option Value}, P.Nodup → P[i]? = some x → vs[i]? = some v → kindOf x ≠ some .local →
    bindC kindOf (P.zip vs) m x = some v
  | [], _, _, _, _, h, _, _ => by simp at h
  | _ :: _, [], _, _, _, _, h, _ => by simp at h
  | p :: P, w :: vs, 0, m, nd, h1, h2, hk => by
    simp at h1 h2; subst h1; subst h2
    show bindC kindOf ((p, w) :: P.zip vs) m p = _
    unfold bindC
    rw [bindC_out fun v hv => (List.nodup_cons.mp nd).1 (List.of_mem_zip hv).1, if_neg hk]
    simp
  | p :: P, w :: vs, i + 1, m, nd, h1, h2, hk => by
    show bindC kindOf ((p, w) :: P.zip vs) m x = _
    unfold bindC
    exact bindC_get (i := i) (List.nodup_cons.mp nd).2 (by simpa using h1) (by simpa using h2) hk
/-- the names' values at the entry -/
def start (N : List Str) (vs : List V) : St := vs.map some ++ List.replicate (N.length - vs.length) none
/-- the context of a def's body, at its entry; an exception leaves the frame, then lies as CX says -/
def cxOf (CX : CXT) (P : Program) (w : World) (K : PySem.W.Frag) (mg : Str → Option Value) (base : Heap) (N : List Str) (qual : Str) (scope : Scope) (f : Addr) (cd : Value) (A : Around) (outer : List Env) (s : Shared) (H : Hp) (E : XK) : Cx where
  prog := P
  w := w
  K := K
  mg := mg
  base := base
  A := A.deeper (envOfC qual scope s.heap.objs.size f cd)
  N := N
  s₀ := s
  H₀ := H
  env := envOfC qual scope s.heap.objs.size f cd
  outer := outer
  stack := envOfC qual scope s.heap.objs.size f cd :: outer
  ex := []
  calm := true
  fn := fun _ => true
  pn := []
  xe := fun e s' => wpAny (model P w) (A.deeper (envOfC qual scope s.heap.objs.size f cd)) (leaving (envOfC qual scope s.heap.objs.size f cd) e) (fun _ s'' => CX outer H s E e s'') (fun e' s'' => CX outer H s E e' s'') s'
theorem cell_has {sc : Scope} {n : Nat} {x : Str} (h : sc.names.lookup x = some .cell) : ∃ c, (cellsFrom n sc.names []).lookup x = some c := by
  have q := PySem.W.cellsFrom_some sc.names n [] (.inl h)
  exact Option.isSome_iff_exists.mp q
theorem inv_start {CX : CXT} {P : Program} {w : World} {K : PySem.W.Frag} {mg : Str → Option Value} {base : Heap} {N ps : List Str} {qual : Str} {scope : Scope} {f : Addr} {cd : Value} {A : Around} {outer : List Env} {s s1 : Shared} {H : Hp} {E : XK} {us : List Value} {vs : List V}
    (S : FnScope N ps scope) (hd : A.handled = none) (e0 : Env0 P w K mg base A outer s H) (hl : vs.length = ps.length) (r : Vals vs us)
    (x : InCallC s s.heap.objs.size (bindL (envOfC qual scope s.heap.objs.size f cd).kindOf (ps.zip us) fun _ => none) (cellsFrom (s.heap.objs.size + 1) scope.names []) (bindC (envOfC qual scope s.heap.objs.size f cd).kindOf (ps.zip us) fun _ => none) s1) :
    Inv (cxOf CX P w K mg base N qual scope f cd A outer s H E) [] (start N vs) H s1 := by
  have hpl : ps.length ≤ N.length := by have := congrArg List.length S.pre; rw [List.length_take] at this; omega
  obtain ⟨h1, tk, rfl, hk⟩ := x.done
  have noA : ∀ b : Addr, b ∉ (cxOf CX P w K mg base N qual scope f cd A outer s H E).ex := fun b z => absurd (show b ∈ ([] : List Addr) from z) (by simp)
  refine ⟨⟨e0.mod, S.kind, rfl, rfl, Nat.le_refl _, fun y z c h1 h2 => ?_, fun y hy => ?_, fun y c _ h => ?_, fun _ => hd, Around.frames_deeper e0.frames, .inr ⟨rfl, rfl⟩, fun b z => absurd z (noA b), e0.bs, e0.bsz, fun b _ _ => noA b, fun b z => absurd z (noA b), e0.funs, e0.frf⟩,
    rfl, e0.bare, Un.kept hk, ⟨_, x.toInCall.ns, fun i y v h1 h2 h3 => ?_⟩, fun y c h => ⟨_, x.cell y c h⟩, e0.hok.fresh (Nat.le_refl _), fun y c h => ?_, fun p hp => absurd (show p ∈ ([] : List (Addr × Obj)) from hp) (by simp), e0.hok.kept hk, ?_⟩
  · exact name_of_addr x.apart (PySem.mem_of_lookup h1) (PySem.mem_of_lookup h2)
  · have hy : scope.names.lookup y = some .cell ∨ scope.names.lookup y = some .free := hy
    rcases hy with hy | hy
    · exact cell_has hy
    · exact absurd rfl (S.nofree _ (PySem.mem_of_lookup hy))
  · exact Nat.le_of_lt (x.above y c (PySem.mem_of_lookup h))
  · have hi : i < vs.length := by
      unfold start at h2
      by_cases hi : i < vs.length
      · exact hi
      · rw [List.getElem?_append_right (by simpa using hi)] at h2
        rw [List.getElem?_replicate] at h2
        split at h2 <;> cases h2
    have ha : vs[i]? = some v := by
      unfold start at h2
      rw [List.getElem?_append_left (by simpa using hi), List.getElem?_map] at h2
      cases e : vs[i]? with
      | none => rw [e] at h2; cases h2
      | some a => rw [e] at h2; cases h2; rfl
    obtain ⟨u, hu, rv⟩ := r.get ha
    have hp : ps[i]? = some y := by
      rw [← S.pre, List.getElem?_take_of_lt (by omega)]; exact h1
    have ndP : ps.Nodup := by rw [← S.pre]; exact S.nd.sublist (List.take_sublist _ _)
    refine ⟨u, rv, ?_⟩
    rcases S.par y (List.mem_of_getElem? hp) with k | k
    · exact .inl ⟨k, bindL_get ndP hp hu k⟩
    · obtain ⟨c, e⟩ := cell_has (n := s.heap.objs.size + 1) k
      refine .inr ⟨.inl k, c, e, ?_⟩
      have q := x.cell y c e
      rw [bindC_get ndP hp hu (by show scope.names.lookup y ≠ _; rw [k]; decide)] at q
      exact q
  · exact e0.hok.fresh (Nat.le_of_lt (x.above y c (PySem.mem_of_lookup h)))
  · unfold start
    show _ = N.length
    rw [List.length_append, List.length_map, List.length_replicate]
    omega
/-- THE RULE: a def (or a method) of the text, by its body. The body's reading t is chosen for each entry; it is run at the parameters' values -/
theorem fn_of {CX : CXT} {P : Program} {w : World} {K : PySem.W.Frag} {mg : Str → Option Value} {base : Heap} {k : Nat} {f : Addr} {name qual : Str} {params : Arguments} {body : List Stmt} {scope : Scope} {dV kV doc pm cdv ct oc : Value} {an od : Option Addr}
    {osl : Array (Option Value)} {N ps : List Str} {sp : Sp} (lk : K.lookup f = some ⟨oc, od, .func (PySem.W.fnOf name qual params body scope dV kV doc pm an cdv ct), osl⟩) (hcd : PySem.W.codeIn K cdv qual = true) (S : FnScope N ps scope)
    (len : ∀ vs H Q E, sp vs H Q E → vs.length = ps.length)
    (hbody : ∀ (A : Around) (outer : List Env) (s : Shared) (H : Hp) (vs : List V) (Q : VK) (E : XK), Room k (A.deeper (envOfC qual scope s.heap.objs.size f cdv)) → sp vs H Q E →
      ∃ t, PSs (cxOf CX P w K mg base N qual scope f cdv A outer s H E) body t ∧ t { nx := fun _ H' => Q .non H', rt := fun v _ H' => Q v H' } (start N vs) H) :
    FnOk P w K mg base CX (k + 1) f (PySem.W.fnOf name qual params body scope dV kV doc pm an cdv ct) ps sp := by
  refine ⟨len, fun A outer s H args us vs Q E hr e0 hb r hsp => ?_⟩
  have hl := len _ _ _ _ hsp
  have KX : K.In s.heap := e0.mod.kin.keeps fun b o e => (e0.bs b o e).1
  have lim : s.heap.NoLimit := e0.mod.nolimit.keeps fun b o e => (e0.bs b o e).1
  have hkind : ∀ y ∈ ps.zip us, scope.names.lookup y.1 = some .local ∨ (scope.names.lookup y.1 = some .cell ∧ ((cellsFrom (s.heap.objs.size + 1) scope.names []).lookup y.1).isSome = true) := fun ⟨n, v⟩ hy => by
    rcases S.par n (List.of_mem_zip hy).1 with q | q
    · exact .inl q
    · exact .inr ⟨q, PySem.W.cellsFrom_some _ _ _ (.inl q)⟩
  refine codeAny_call_function hr.depth (KX _ _ lk) rfl S.co S.gen rfl (PySem.W.codeRec_of KX hcd) (hb _ _ _ _ ?_)
  refine wpAny_newFunctionEnv_cells S.kind hkind fun env he s1 x => ?_
  subst he
  refine ⟨lim.keeps x.toInCall.keep, codeAny_func ?_⟩
  obtain ⟨t, ht, hq⟩ := hbody A outer s H vs Q E (hr.deeper _) hsp
  have I : Inv (cxOf CX P w K mg base N qual scope f cdv A outer s H E) [] (start N vs) H s1 := inv_start S hr.hd e0 hl r x
  refine wpAny_mono (ht [] s1 (start N vs) H _ I hq) (fun fl s' hs => ?_) fun e s' hs => hs
  have fin : ∀ {σ' : St} {H' : Hp} {v : V} {u : Value}, Inv (cxOf CX P w K mg base N qual scope f cdv A outer s H E) [] σ' H' s' → RelV v u → Q v H' → CE outer P w H s Q u s' :=
    fun {σ' H' v u} J rv q => ⟨v, H', J.os, J.bare, J.base, J.hok, rv, q⟩
  cases fl with
  | ret u =>
    obtain ⟨v, σ', H', J, rv, q⟩ := hs
    exact fin J rv q
  | next =>
    obtain ⟨σ', H', J, q⟩ := hs
    exact fin (v := V.non) (u := Value.none) J rfl q
  | brk =>
    obtain ⟨_, _, _, q⟩ := hs
    exact False.elim q
  | cont =>
    obtain ⟨_, _, _, q⟩ := hs
    exact False.elim q
end L2
namespace L2
open PySem PySem.Spec PyProof.Rows
section
variable {X : Cx} {x : Str} {p pos : Pos} {e : Expr} {es : List Expr} {t : TA} {id T : String} {r : List V → Hp → VK → Prop}
def tCB (r : List V → Hp → VK → Prop) (t : TA) : TE := fun σ H Q => t σ H fun vs H1 => r vs H1 Q
/-- f(e, ..), f a built-in function -/
theorem pe_callB (hc : CallR X (.builtin id) r) (hg : Gl X x) (hm : X.mg x = none) (hv : bootBuiltins x = some (.builtin id)) (ha : PA X (e :: es) t) (hn : x ≠ "__name__" := by decide) (hdb : (x == ("__debug__" : Str)) = false := by decide)
    (he : starEach (e :: es) X.env = (false, eval e X.env) :: starEach es X.env := by rfl) (hpl : (backTo pos (starEach es X.env)).any (·.1) = false := by rfl) : PE X (.Call (.Name x p) (e :: es) [] pos) (tCB r t) := by
  intro pins s σ H Q I h
  refine wpAny_Call_Name_kw (ld_blt I hg hm hv ?_ hn hdb)
  exact PyProof.Rows.callWith_builtin1 (thn (ha pos pins s σ H _ I h) fun us s1 ⟨vs, H1, I1, r1, q1⟩ => hc pins s1 σ H1 vs us Q I1 r1 q1) he hpl
/-- T(e, ..), T a built-in type -/
theorem pe_callTy (hc : CallR X (.type T) r) (hg : Gl X x) (hm : X.mg x = none) (hv : bootBuiltins x = some (.type T)) (ha : PA X (e :: es) t) (hn : x ≠ "__name__" := by decide) (hdb : (x == ("__debug__" : Str)) = false := by decide)
    (he : starEach (e :: es) X.env = (false, eval e X.env) :: starEach es X.env := by rfl) (hpl : (backTo pos (starEach es X.env)).any (·.1) = false := by rfl) : PE X (.Call (.Name x p) (e :: es) [] pos) (tCB r t) := by
  intro pins s σ H Q I h
  refine wpAny_Call_Name_kw (ld_blt I hg hm hv ?_ hn hdb)
  exact PyProof.Rows.callWith_type1 (thn (ha pos pins s σ H _ I h) fun us s1 ⟨vs, H1, I1, r1, q1⟩ => hc pins s1 σ H1 vs us Q I1 r1 q1) he hpl
end
end L2
namespace HT
open PySem PyProof.Rows
section
open PySem.SeqAt
open PySem.AutoSeq1 (wpAny_loadPart')
open PySem.MeetsSeq PySem.MeetsSeq2 PySem.MeetsSeq3
end
section
variable {prog : Program} {w : World} {A : Around} {E : Value → Shared → Prop} {s : Shared}
/-- t + u, t not empty -/
theorem cat_tup {t b : Addr} {vs ws : List Value} {Q : Value → Shared → Prop} (ht : IsTup s.heap t vs.toArray) (hb : IsTup s.heap b ws.toArray) (hv : vs ≠ [])
    (h1 : ws = [] → Q (.ref t) s) (h2 : ws ≠ [] → Q (.ref s.heap.objs.size) { s with heap := s.heap.push { cls := .type "tuple", data := .seq (vs ++ ws).toArray } })
    (hsz : vs.length + ws.length ≤ sizeLine) : wpAny (model prog w) A (binaryOp .Add (.ref t) (.ref b)) Q E s := by
  obtain ⟨⟨cls, dd, data, sl⟩, ho, hc, n, hd⟩ := id ht
  obtain ⟨⟨cls2, dd2, data2, sl2⟩, ho2, hc2, n2, hd2⟩ := id hb
  simp only at hc hd hc2 hd2
  subst hc hd hc2 hd2
  have e : vs.toArray ++ ws.toArray = (vs ++ ws).toArray := by simp
  by_cases hw : ws = []
  · exact concat_meets ⟨_, ho, rfl⟩ ⟨_, ho2, rfl⟩ noFill_tuple_add seq_tuple_add PySem.F.slot_tuple_add PySem.F.entry_tuple_add (PySem.F.args_tuple_add_2 _ _)
      (tuple_addW1 t b vs.toArray ws.toArray n n2 dd dd2 sl sl2 (by simpa using hv) (by simp [hw])) ⟨ho, ho2, h1 hw⟩
  · refine concat_meets ⟨_, ho, rfl⟩ ⟨_, ho2, rfl⟩ noFill_tuple_add seq_tuple_add PySem.F.slot_tuple_add PySem.F.entry_tuple_add (PySem.F.args_tuple_add_2 _ _)
      (tuple_addW2 t b vs.toArray ws.toArray n n2 dd dd2 sl sl2 (by simpa using hv) (by simpa using hw) (by rw [List.size_toArray, List.size_toArray]; exact hsz)) ⟨ho, ho2, ?_⟩
    rw [e]
    exact h2 hw
/-- a slice's bound as a place among n (d where it is left out) -/
def sIx (n d : Nat) : Option Int → Nat
  | none => d
  | some v => if v < 0 then (v + (n : Int)).toNat else min v.toNat n
theorem sIx_none (n d : Nat) : sIx n d none = d := rfl
theorem sIx_nat (n d k : Nat) : sIx n d (some (k : Int)) = min k n := by
  show (if (k : Int) < 0 then ((k : Int) + (n : Int)).toNat else min (k : Int).toNat n) = min k n
  rw [if_neg (by omega), Int.toNat_natCast]
theorem sIx_le (n d : Nat) (hd : d ≤ n) (o : Option Int) : sIx n d o ≤ n := by
  cases o with
  | none => exact hd
  | some v =>
    show (if v < 0 then (v + (n : Int)).toNat else min v.toNat n) ≤ n
    by_cases hv : v < 0
    · rw [if_pos hv]; omega
    · rw [if_neg hv]; exact Nat.min_le_right _ _
theorem clip_eq (v : Int) (n d : Nat) : (if v < 0 then max (v + (n : Int)) 0 else min v (n : Int)) = ((sIx n d (some v) : Nat) : Int) := by
  show (if v < 0 then max (v + (n : Int)) 0 else min v (n : Int)) = (((if v < 0 then (v + (n : Int)).toNat else min v.toNat n) : Nat) : Int)
  by_cases hv : v < 0
  · simp only [if_pos hv]; omega
  · simp only [if_neg hv]; omega
theorem adjust_gen (lo hi : Option Int) (n : Nat) : Builtin.Slice.sliceAdjust lo hi 1 (n : Int) = (((sIx n 0 lo : Nat) : Int), ((sIx n n hi : Nat) : Int)) := by
  have h1 : ¬ ((1 : Int) < 0) := by omega
  unfold Builtin.Slice.sliceAdjust
  simp only [h1, if_false]
  refine Prod.ext ?_ ?_
  · cases lo with
    | none => rfl
    | some v => exact clip_eq v n 0
  · cases hi with
    | none => rfl
    | some v => exact clip_eq v n n
theorem places_gen (i j : Nat) : Builtin.Slice.slicePlaces (i : Int) (j : Int) 1 = j - i := by
  unfold Builtin.Slice.slicePlaces
  have h1 : (1 : Int) > 0 := by omega
  simp only [h1, if_true, Int.ediv_one]
  split <;> omega
theorem slicePart_ {v : Value} {o : Option Int} {Q : Option Int → Shared → Prop} (p : IsPart v o) (h : Q o s) : wpAny (model prog w) A (Builtin.Slice.slicePartIndex v) Q E s := by
  cases p with
  | none => exact slicePart_none h
  | int i t => exact slicePart_int h
theorem sliceApplied_gen {sl : Addr} {vl vu : Value} {lo hi : Option Int} {n : Nat} {Q : Int × Int × Nat → Shared → Prop} (hs : s.heap.IsSliceOf sl vl vu .none) (pl : IsPart vl lo) (pu : IsPart vu hi)
    (h : Q (((sIx n 0 lo : Nat) : Int), 1, sIx n n hi - sIx n 0 lo) s) : wpAny (model prog w) A (Builtin.Slice.sliceApplied (.ref sl) (pure (n : Int))) Q E s := by
  obtain ⟨os, hos, hcs, hds⟩ := id hs
  unfold Builtin.Slice.sliceApplied Builtin.Slice.sliceFields
  refine wpAny_bind (wpAny_bind (wpAny_field hos hds (x := vl) rfl (wpAny_bind (wpAny_field hos hds (x := vu) rfl (wpAny_bind (wpAny_field hos hds (x := .none) rfl (wpAny_pure ?_)))))))
  refine wpAny_bind (slicePart_none ?_)
  show wpAny _ _ (if ((1 : Int) == 0) = true then _ else _) _ _ s
  rw [if_neg (by decide)]
  refine wpAny_bind (slicePart_ pl (wpAny_bind (slicePart_ pu (wpAny_bind (wpAny_pure ?_)))))
  show wpAny _ _ (match Builtin.Slice.sliceAdjust lo hi 1 (n : Int) with | (lo, hi) => pure (lo, (1 : Int), Builtin.Slice.slicePlaces lo hi 1)) _ _ s
  rw [adjust_gen lo hi n]
  show wpAny _ _ (pure (((sIx n 0 lo : Nat) : Int), (1 : Int), Builtin.Slice.slicePlaces ((sIx n 0 lo : Nat) : Int) ((sIx n n hi : Nat) : Int) 1)) _ _ s
  rw [places_gen]
  exact wpAny_pure h
theorem pick_gen (xs : Array Value) (i k : Nat) : ((List.range k).filterMap fun (m : Nat) => xs[((i : Int) + (m : Int) * 1).toNat]?).toArray = ((xs.toList.drop i).take k).toArray := by
  have e : (fun (m : Nat) => xs[((i : Int) + (m : Int) * 1).toNat]?) = fun m => xs[i + m]? := by
    funext m
    have : ((i : Int) + (m : Int) * 1).toNat = i + m := by omega
    rw [this]
  rw [e]
  have := pick_run xs i k
  rw [List.filterMap_map] at this
  have e2 : ((fun x => xs[x]?) ∘ fun x => i + x) = fun m => xs[i + m]? := rfl
  rw [e2] at this
  rw [this]
theorem getItem_tuple_cut {t sl : Addr} {items : Array Value} {vl vu : Value} {lo hi : Option Int} {Q : Value → Shared → Prop} (ht : IsTup s.heap t items) (hs : s.heap.IsSliceOf sl vl vu .none) (pl : IsPart vl lo) (pu : IsPart vu hi)
    (hw : ¬ (sIx items.size 0 lo = 0 ∧ sIx items.size items.size hi = items.size))
    (h : Q (.ref s.heap.objs.size) { s with heap := s.heap.push { cls := .type "tuple", data := .seq ((items.toList.drop (sIx items.size 0 lo)).take (sIx items.size items.size hi - sIx items.size 0 lo)).toArray } })
    (hsz : items.size ≤ sizeLine) : wpAny (model prog w) A (getItem (.ref t) (.ref sl)) Q E s := by
  have htake : sizeOk (.seq ((items.toList.drop (sIx items.size 0 lo)).take (sIx items.size items.size hi - sIx items.size 0 lo)).toArray) := by
    show ((items.toList.drop (sIx items.size 0 lo)).take (sIx items.size items.size hi - sIx items.size 0 lo)).toArray.size ≤ sizeLine
    rw [List.size_toArray, List.length_take, List.length_drop, Array.length_toList]
    omega
  have hj : sIx items.size items.size hi ≤ items.size := sIx_le _ _ (Nat.le_refl _) hi
  obtain ⟨os, hos, hcs, hds⟩ := id hs
  have hTs : s.TypeIs (.ref sl) "slice" := ⟨os, hos, hcs⟩
  unfold getItem
  try with_reducible refine wpAny_holding ?_
  first | refine wpAny_bind (wpAny_pure ?_) | skip
  refine wpAny_bind (wpAny_sequenceKey ht.typeIs (by decide) ?_)
  refine wpAny_bind (wpAny_callSpecial?_slot (name := Str.ofString "__getitem__") ht.typeIs PyProof.Rows.slot_tuple_getitem
    (wpAny_call_entry PyProof.Rows.slot_tuple_getitem ht.typeIs entry_tuple_getitem ?_ (args_tuple_getitem _ _)))
  show wpAny _ _ (Builtin.Tuple.tupleItemsOf (.ref t) >>= _) _ _ s
  refine wpAny_bind (tupleItemsOf_ ht ?_)
  refine wpAny_bind (wpAny_typeOf hTs ?_)
  rw [if_pos (by decide)]
  refine wpAny_bind (sliceApplied_gen hs pl pu ?_)
  have hno : ¬ ((((sIx items.size 0 lo : Nat) : Int) == 0 && (1 : Int) == 1 && (sIx items.size items.size hi - sIx items.size 0 lo) == items.size) = true) := by
    intro q
    rw [Bool.and_eq_true, Bool.and_eq_true] at q
    have q1 : ((sIx items.size 0 lo : Nat) : Int) = 0 := eq_of_beq q.1.1
    have q2 : sIx items.size items.size hi - sIx items.size 0 lo = items.size := eq_of_beq q.2
    exact hw ⟨by omega, by omega⟩
  show wpAny _ _ (if (((sIx items.size 0 lo : Nat) : Int) == 0 && (1 : Int) == 1 && (sIx items.size items.size hi - sIx items.size 0 lo) == items.size) = true then _ else _) _ _ s
  rw [if_neg hno, pick_gen]
  first
    | exact wpAny_bind (m := Builtin.Tuple.tupleExact _) (wpAny_newObj_type (wpAny_pure ⟨_, rfl, wpAny_pure h⟩) htake)
    | exact wpAny_bind (m := Builtin.Tuple.tupleExact _) (wpAny_newObj_type (wpAny_bind (wpAny_pure (wpAny_pure ⟨_, rfl, wpAny_pure h⟩))) htake)
    | exact wpAny_bind (wpAny_bind (m := Builtin.Tuple.tupleExact _) (wpAny_newObj_type (wpAny_pure (wpAny_pure ⟨_, rfl, wpAny_pure h⟩)) htake))
    | exact wpAny_bind (wpAny_bind (m := Builtin.Tuple.tupleExact _) (wpAny_newObj_type (wpAny_pure ⟨_, rfl, wpAny_pure h⟩) htake))
end
end HT
namespace L2
open PySem PySem.Spec PyProof.Rows
abbrev TO := St → Hp → (Option Int → Hp → Prop) → Prop
/-- a slice's part (left out, or an int) -/
def PO (X : Cx) (e : Option Expr) (t : TO) : Prop :=
  ∀ (pins : List (Addr × Obj)) (s : Shared) (σ : St) (H : Hp) (Q : Option Int → Hp → Prop), Inv X pins σ H s → t σ H Q →
    wpAny (model X.prog X.w) X.A (evalPart e X.env) (fun u s' => ∃ o H', Inv X pins σ H' s' ∧ IsPart u o ∧ Q o H') X.xe s
def tNoPart : TO := fun _ H Q => Q none H
def tPart (t : TE) : TO := fun σ H Q => t σ H fun x H1 => ∃ i, x = .int i ∧ Q (some i) H1
section
variable {X : Cx} {e : Expr} {te : TE} {lo hi : Option Expr} {tl th : TO} {pos p2 : Pos}
theorem po_none : PO X none tNoPart := by
  intro pins s σ H Q I h
  rw [evalPart_none]
  exact wpAny_pure ⟨none, H, I, .none, h⟩
theorem po_some (h : PE X e te) : PO X (some e) (tPart te) := by
  intro pins s σ H Q I hw
  rw [evalPart_some]
  refine thn (h pins s σ H _ I hw) fun u s1 ⟨x, H1, I1, r1, q1⟩ => ?_
  obtain ⟨i, rfl, q⟩ := q1
  obtain ⟨t, rfl⟩ := r1
  exact ⟨some i, H1, I1, .int i t, q⟩
/-- what a slice of a value is, by values: the slice object stands at sl -/
def SlR (X : Cx) (r : V → Option Int → Option Int → Hp → VK → Prop) : Prop :=
  ∀ (pins : List (Addr × Obj)) (s : Shared) (σ : St) (H : Hp) (x : V) (v vl vu : Value) (lo hi : Option Int) (sl : Addr) (Q : VK), Inv X pins σ H s → RelV x v → s.heap.IsSliceOf sl vl vu .none → IsPart vl lo → IsPart vu hi → r x lo hi H Q →
    ∃ T id, typeLookup (.type T) "__getitem__" = pure (some (.builtin id)) ∧ s.TypeIs v T ∧ wpAny (model X.prog X.w) X.A (getItem v (.ref sl)) (EP X pins σ Q) X.xe s
def tSl (r : V → Option Int → Option Int → Hp → VK → Prop) (te : TE) (tl th : TO) : TE := fun σ H Q => te σ H fun x H1 => tl σ H1 fun l H2 => th σ H2 fun u H3 => r x l u H3 Q
/-- a[lo:hi], any a -/
theorem pe_slice {r : V → Option Int → Option Int → Hp → VK → Prop} (hr : SlR X r) (he : PE X e te) (hl : PO X lo tl) (hu : PO X hi th) : PE X (.Subscript e (.Slice lo hi none p2) pos) (tSl r te tl th) := by
  intro pins s σ H Q I h
  refine Subscript_ (thn (he pins s σ H _ I h) fun v s1 ⟨x, H1, I1, r1, q1⟩ => ?_)
  refine wpAny_Slice (thn (hl pins s1 σ H1 _ I1 q1) fun vl s2 ⟨l, H2, I2, pl, q2⟩ => thn (hu pins s2 σ H2 _ I2 q2) fun vu s3 ⟨u, H3, I3, pu, q3⟩ => ?_)
  rw [evalPart_none]
  refine wpAny_pure ?_
  have I4 : Inv X pins σ H3 { s3 with heap := s3.heap.push { cls := .type "slice", data := .fields #[vl, vu, .none] } } := I3.kept (t' := s3.toks) fun b ob q => Heap.get?_push_of_some _ q
  obtain ⟨T, id, hT, ht, hg⟩ := hr pins { s3 with heap := s3.heap.push { cls := .type "slice", data := .fields #[vl, vu, .none] } } σ H3 x v vl vu l u s3.heap.objs.size Q I4 r1 (Heap.IsSliceOf.new ..) pl pu q3
  show wpAny (model X.prog X.w) X.A (subscriptTail e (.Slice lo hi none p2) v (.ref s3.heap.objs.size)) (EP X pins σ Q) X.xe { s3 with heap := s3.heap.push { cls := .type "slice", data := .fields #[vl, vu, .none] } }
  exact tail_any (ops := [.ref s3.heap.objs.size, v]) ht hT hg (by with_unfolding_all rfl)
/-- the items of xs[lo:hi] -/
def cutV (xs : List V) (lo hi : Option Int) : List V := (xs.drop (HT.sIx xs.length 0 lo)).take (HT.sIx xs.length xs.length hi - HT.sIx xs.length 0 lo)
theorem cutV_length (xs : List V) (lo hi : Option Int) : (cutV xs lo hi).length ≤ xs.length := by
  unfold cutV
  rw [List.length_take, List.length_drop]
  omega
/-- t[lo:hi], not the whole of it (the whole would be t itself) -/
def rSlT (K : PySem.W.Frag) : V → Option Int → Option Int → Hp → VK → Prop := fun x lo hi H Q => ∃ a xs, x = .ref a ∧ SqT K H a xs ∧
  ¬ (HT.sIx xs.length 0 lo = 0 ∧ HT.sIx xs.length xs.length hi = xs.length) ∧ ∀ p, H p = none → Q (.ref p) (upd H p (.tup (cutV xs lo hi)))
theorem sl_tup : SlR X (rSlT X.K) := by
  intro pins s σ H x v vl vu lo hi sl Q I rx hs pl pu h
  obtain ⟨a, xs, rfl, hx, hw, q⟩ := h
  cases rx
  obtain ⟨its, r, ht, hz⟩ := I.tuple hx
  have hlen : its.toArray.size = xs.length := by rw [List.size_toArray]; exact r.length.symm
  refine ⟨"tuple", _, PyProof.Rows.slot_tuple_getitem.lookup, ht.typeIs, ?_⟩
  refine HT.getItem_tuple_cut ht hs pl pu (by rw [hlen]; exact hw) ?_ (by rw [hlen]; exact hz)
  rw [hlen]
  refine ⟨.ref s.heap.objs.size, _, I.laid (t' := s.toks) (o := .tup (cutV xs lo hi)) (fun b ob q => Heap.get?_push_of_some _ q) (Nat.le_refl _) ?_, rfl, q _ (I.hok.fresh (Nat.le_refl _))⟩
  exact ⟨Nat.le_trans (cutV_length xs lo hi) hz, _, (r.drop (HT.sIx xs.length 0 lo)).take (HT.sIx xs.length xs.length hi - HT.sIx xs.length 0 lo), IsTup.new _ _⟩
/-- t + u, t not empty: u empty gives t itself -/
def rCatT (K : PySem.W.Frag) : R2 := fun x y H Q => ∃ a b xs ys, x = .ref a ∧ y = .ref b ∧ SqT K H a xs ∧ SqT K H b ys ∧ xs ≠ [] ∧ xs.length + ys.length ≤ sizeLine ∧
  (ys = [] → Q (.ref a) H) ∧ (ys ≠ [] → ∀ p, H p = none → Q (.ref p) (upd H p (.tup (xs ++ ys))))
theorem Vals.nil_iff {xs : List V} {us : List Value} (r : Vals xs us) : us = [] ↔ xs = [] := by
  cases r with
  | nil => simp
  | cons _ _ => simp
theorem op_catT : OpR X (binaryOp .Add) (rCatT X.K) := by
  intro pins s σ H x y v u Q I rx ry h
  obtain ⟨a, b, xs, ys, rfl, rfl, ha, hb, hx, hz, q1, q2⟩ := h
  cases rx
  cases ry
  obtain ⟨its, r1, p1, _⟩ := I.tuple ha
  obtain ⟨its2, r2, p2, _⟩ := I.tuple hb
  refine HT.cat_tup p1 p2 (fun z => hx (r1.nil_iff.mp z)) (fun z => ⟨.ref a, H, I, rfl, q1 (r2.nil_iff.mp z)⟩) (fun z => ?_) (by rw [← r1.length, ← r2.length]; exact hz)
  refine ⟨.ref s.heap.objs.size, _, I.laid (t' := s.toks) (o := .tup (xs ++ ys)) (fun b ob q => Heap.get?_push_of_some _ q) (Nat.le_refl _) ?_, rfl, q2 (fun w => z (r2.nil_iff.mpr w)) _ (I.hok.fresh (Nat.le_refl _))⟩
  exact ⟨by rw [List.length_append]; exact hz, _, r1.append r2, IsTup.new _ _⟩
end
end L2
namespace L2
open PySem PySem.Spec PyProof.Rows
/-- the place that an index of any sign means -/
def ixN (n : Nat) (i : Int) : Option Nat := if 0 ≤ i then (if i < n then some i.toNat else none) else if -(n : Int) ≤ i then some (i + n).toNat else none
def atI {α : Type} (xs : List α) (i : Int) : Option α := (ixN xs.length i).bind fun j => xs[j]?
theorem ixN_seq {n : Nat} {i : Int} {j : Nat} (h : ixN n i = some j) : seqIndex? i n = some j ∧ j < n ∧ -(n : Int) ≤ i ∧ i < n := by
  unfold ixN at h
  by_cases h0 : 0 ≤ i
  · rw [if_pos h0] at h
    by_cases h1 : i < n
    · rw [if_pos h1] at h
      have e : i.toNat = j := Option.some.inj h
      exact ⟨by rw [seqIndex_of h0 h1, e], by omega, by omega, h1⟩
    · rw [if_neg h1] at h; cases h
  · rw [if_neg h0] at h
    by_cases h1 : -(n : Int) ≤ i
    · rw [if_pos h1] at h
      have e : (i + n).toNat = j := Option.some.inj h
      exact ⟨by rw [seqIndex_neg (by omega) h1, e], by omega, h1, by omega⟩
    · rw [if_neg h1] at h; cases h
theorem atI_get {α : Type} {xs : List α} {i : Int} {v : α} (h : atI xs i = some v) : ∃ j, seqIndex? i xs.length = some j ∧ xs[j]? = some v ∧ j < xs.length ∧ -(xs.length : Int) ≤ i ∧ i < xs.length := by
  unfold atI at h
  cases e : ixN xs.length i with
  | none => rw [e] at h; cases h
  | some j =>
    rw [e] at h
    obtain ⟨h1, h2, h3, h4⟩ := ixN_seq e
    exact ⟨j, h1, h, h2, h3, h4⟩
theorem atI_nat {α : Type} {xs : List α} {j : Nat} {v : α} (h : xs[j]? = some v) : atI xs (j : Int) = some v := by
  have hj : j < xs.length := (List.getElem?_eq_some_iff.mp h).1
  have e : ixN xs.length (j : Int) = some j := by
    unfold ixN
    rw [if_pos (by omega), if_pos (by omega)]; simp
  unfold atI; rw [e]; exact h
/-- what stands as an index of a plain subscript -/
def PlainIx (b : Expr) : Prop := ∀ o i, subscripted b false o i = operate [o, i] (getItem o i)
/-- a subscript by values -/
def IxR (X : Cx) (r : R2) : Prop :=
  ∀ (value slice : Expr) (pins : List (Addr × Obj)) (s : Shared) (σ : St) (H : Hp) (x y : V) (v u : Value) (Q : VK), Inv X pins σ H s → RelV x v → RelV y u → r x y H Q →
    subscripted slice false v u = operate [v, u] (getItem v u) → wpAny (model X.prog X.w) X.A (subscriptTail value slice v u) (EP X pins σ Q) X.xe s
/-- a call of a builtin's method by values: the receiver, the arguments -/
def MtR (X : Cx) (id : String) (r : V → List V → Hp → VK → Prop) : Prop :=
  ∀ (pins : List (Addr × Obj)) (s : Shared) (σ : St) (H : Hp) (x : V) (xs : List V) (v : Value) (us : List Value) (Q : VK), Inv X pins σ H s → RelV x v → Vals xs us → r x xs H Q →
    wpAny (model X.prog X.w) X.A (call (.builtin id) (v :: us)) (EP X pins σ Q) X.xe s
section
variable {X : Cx} {a b : Expr} {ta tb : TE} {pos : Pos}
/-- a[b] -/
theorem pe_ix {r : R2} (hr : IxR X r) (ha : PE X a ta) (hb : PE X b tb) (hs : PlainIx b) : PE X (.Subscript a b pos) (tOp r ta tb) := by
  intro pins s σ H Q I h
  exact Subscript_ (binT ha hb I h fun v u s2 x y H2 I2 rx ry q => hr a b pins s2 σ H2 x y v u Q I2 rx ry q (hs _ _))
def rIxL (K : PySem.W.Frag) : R2 := fun x y H Q => ∃ p xs i v, x = .ref p ∧ y = .int i ∧ SqL K H p xs ∧ atI xs i = some v ∧ Q v H
def rIxT (K : PySem.W.Frag) : R2 := fun x y H Q => ∃ p xs i v, x = .ref p ∧ y = .int i ∧ SqT K H p xs ∧ atI xs i = some v ∧ Q v H
def rIxS : R2 := fun x y H Q => ∃ z i c, x = .str z ∧ y = .int i ∧ z.length ≤ sizeLine ∧ atI z.cps.toList i = some c ∧ Q (.str ⟨#[c]⟩) H
theorem ix_list : IxR X (rIxL X.K) := by
  intro value slice pins s σ H x y v u Q I rx ry h hs
  obtain ⟨p, xs, i, z, rfl, rfl, hq, he, q⟩ := h
  cases rx
  obtain ⟨t, rfl⟩ := ry
  obtain ⟨its, r, pl, hz⟩ := I.list hq
  obtain ⟨j, h1, h2, h3, h4, h5⟩ := atI_get he
  obtain ⟨w, ew, rw'⟩ := r.get h2
  have hl := r.length
  have hn := line63
  have fin : EP X pins σ Q w s := ⟨z, H, I, rw', q⟩
  by_cases h0 : 0 ≤ i
  · have hj : i.toNat = j := by
      rw [seqIndex_of h0 h5] at h1
      exact Option.some.inj h1
    exact item_listR pl.isList h0 (by omega) (by rw [hj]; simpa using ew) fin hs
  · have hj : (i + (its.toArray.size : Int)).toNat = j := by
      rw [seqIndex_neg (by omega) h4] at h1
      rw [List.size_toArray, ← hl]
      exact Option.some.inj h1
    exact subscriptTail_builtinR (x := w) pl.isList.typeIs slot_list_getitem.lookup
      (wpAny_getItem_list_neg (Q := fun r s' => r = w ∧ EP X pins σ Q r s') pl.isList (by omega) (by rw [List.size_toArray] <;> omega) (by omega) (by rw [hj]; simpa using ew) ⟨rfl, fin⟩) hs
theorem ix_tup : IxR X (rIxT X.K) := by
  intro value slice pins s σ H x y v u Q I rx ry h hs
  obtain ⟨p, xs, i, z, rfl, rfl, hq, he, q⟩ := h
  cases rx
  obtain ⟨t, rfl⟩ := ry
  obtain ⟨its, r, pl, hz⟩ := I.tuple hq
  obtain ⟨j, h1, h2, h3, h4, h5⟩ := atI_get he
  obtain ⟨w, ew, rw'⟩ := r.get h2
  have hl := r.length
  have hn := line63
  have fin : EP X pins σ Q w s := ⟨z, H, I, rw', q⟩
  exact subscriptTail_builtinR (x := w) pl.typeIs slot_tuple_getitem.lookup
    (getItem_tuple (j := j) (Q := fun r s' => r = w ∧ EP X pins σ Q r s') pl (by omega) (by omega) (by rw [List.size_toArray, ← hl]; exact h1) (by simpa using ew) ⟨rfl, fin⟩) hs
theorem ix_str : IxR X rIxS := by
  intro value slice pins s σ H x y v u Q I rx ry h hs
  obtain ⟨z, i, c, rfl, rfl, hz, he, q⟩ := h
  obtain ⟨t, rfl⟩ := rx
  obtain ⟨t', rfl⟩ := ry
  obtain ⟨j, h1, h2, h3, h4, h5⟩ := atI_get he
  have hl : z.cps.toList.length = z.length := by simp [Str.length]
  rw [hl] at h1 h4 h5
  have hn := line63
  exact tail_any (typeIs_str s z t) slot_str_getitem.lookup (getItem_str (c := c) (by
    have e1 : decide (i < -(2 ^ 63 : Int)) = false := decide_eq_false (by omega)
    have e2 : decide (i ≥ 2 ^ 63) = false := decide_eq_false (by omega)
    rw [e1, e2, Bool.or_false]) (by rw [h1]; simpa using h2) ⟨.str ⟨#[c]⟩, H, I.tok _, ⟨_, rfl⟩, q⟩) hs
theorem slice_bounds (lo hi : Option Int) (n : Nat) : (sliceBounds lo hi none n).1 = ((HT.sIx n 0 lo : Nat) : Int) ∧ (sliceBounds lo hi none n).2.1 = ((HT.sIx n n hi : Nat) : Int) ∧ (sliceBounds lo hi none n).2.2 = 1 := by
  refine ⟨?_, ?_, rfl⟩
  · cases lo with
    | none => simp [sliceBounds, HT.sIx]
    | some i =>
      simp only [sliceBounds, HT.sIx, Option.getD_none, show (1 : Int) > 0 by decide, if_true]
      by_cases h : i < 0
      · simp only [h, if_true] <;> omega
      · simp only [h, if_false] <;> omega
  · cases hi with
    | none => simp [sliceBounds, HT.sIx]
    | some i =>
      simp only [sliceBounds, HT.sIx, Option.getD_none, show (1 : Int) > 0 by decide, if_true]
      by_cases h : i < 0
      · simp only [h, if_true] <;> omega
      · simp only [h, if_false] <;> omega
theorem slicePick_cut (its : List Value) (lo hi : Option Int) : slicePick its.toArray lo hi none = ((its.drop (HT.sIx its.length 0 lo)).take (HT.sIx its.length its.length hi - HT.sIx its.length 0 lo)).toArray := by
  obtain ⟨h1, h2, h3⟩ := slice_bounds lo hi its.toArray.size
  unfold slicePick
  rw [h1, h2, h3]
  simp only [sliceRange_one, pick_run, List.size_toArray] <;> rfl
/-- xs[lo:hi] of a list: a new list -/
def rSlL (K : PySem.W.Frag) : V → Option Int → Option Int → Hp → VK → Prop := fun x lo hi H Q => ∃ a xs, x = .ref a ∧ SqL K H a xs ∧ ∀ p, H p = none → Q (.ref p) (upd H p (.lst (cutV xs lo hi)))
theorem sl_list : SlR X (rSlL X.K) := by
  intro pins s σ H x v vl vu lo hi sl Q I rx hs pl pu h
  obtain ⟨a, xs, rfl, hx, q⟩ := h
  cases rx
  obtain ⟨its, r, ht, hz⟩ := I.list hx
  have hlen := r.length
  refine ⟨"list", _, slot_list_getitem.lookup, ht.isList.typeIs, ?_⟩
  refine wpAny_getItem_list_slice ht.isList hs pl pu .none (by simp) ?_ (by rw [List.size_toArray] <;> omega)
  rw [slicePick_cut, ← hlen]
  refine ⟨.ref s.heap.objs.size, _, I.laid (t' := s.toks) (o := .lst (cutV xs lo hi)) (fun b ob q => Heap.get?_push_of_some _ q) (Nat.le_refl _) ?_, rfl, q _ (I.hok.fresh (Nat.le_refl _))⟩
  exact ⟨Nat.le_trans (cutV_length xs lo hi) hz, _, 0, (r.drop (HT.sIx xs.length 0 lo)).take (HT.sIx xs.length xs.length hi - HT.sIx xs.length 0 lo), Heap.get?_push_size _ rfl⟩
def flatV : V → Bool
  | .non => true
  | .bl _ => true
  | .int _ => true
  | .str _ => true
  | _ => false
/-- == of flat values -/
def eqV : V → V → Bool
  | .non, .non => true
  | .bl a, .bl b => a == b
  | .bl a, .int b => (if a then 1 else 0) == b
  | .int a, .bl b => a == (if b then 1 else 0)
  | .int a, .int b => a == b
  | .str a, .str b => a == b
  | _, _ => false
theorem eqAt_V {A : Around} {s : Shared} {y x : V} {u v : Value} (ry : RelV y u) (rx : RelV x v) (fy : flatV y = true) (fx : flatV x = true) : SeqAt.EqAt A s u v (eqV y x) := by
  cases y with
  | non =>
    cases ry
    cases x with
    | non => cases rx; exact SeqAt.EqAt.same _
    | bl b => cases rx; exact SeqAt.EqAt.none_bool b
    | int b => obtain ⟨t, rfl⟩ := rx; exact SeqAt.EqAt.none_int b t
    | str b => obtain ⟨t, rfl⟩ := rx; exact SeqAt.EqAt.none_str b t
    | _ => exact absurd (show false = true from fx) Bool.false_ne_true
  | bl a =>
    cases ry
    cases x with
    | non => cases rx; exact SeqAt.EqAt.bool_none a
    | bl b => cases rx; exact SeqAt.EqAt.bool_bool a b
    | int b => obtain ⟨t, rfl⟩ := rx; exact SeqAt.EqAt.bool_int a b t
    | str b => obtain ⟨t, rfl⟩ := rx; exact SeqAt.EqAt.bool_str a b t
    | _ => exact absurd (show false = true from fx) Bool.false_ne_true
  | int a =>
    obtain ⟨t', rfl⟩ := ry
    cases x with
    | non => cases rx; exact SeqAt.EqAt.int_none a t'
    | bl b => cases rx; exact SeqAt.EqAt.int_bool a t' b
    | int b => obtain ⟨t, rfl⟩ := rx; exact SeqAt.EqAt.int_int a t' b t
    | str b => obtain ⟨t, rfl⟩ := rx; exact SeqAt.EqAt.int_str a t' b t
    | _ => exact absurd (show false = true from fx) Bool.false_ne_true
  | str a =>
    obtain ⟨t', rfl⟩ := ry
    cases x with
    | non => cases rx; exact SeqAt.EqAt.str_none a t'
    | bl b => cases rx; exact SeqAt.EqAt.str_bool a t' b
    | int b => obtain ⟨t, rfl⟩ := rx; exact SeqAt.EqAt.str_int a t' b t
    | str b => obtain ⟨t, rfl⟩ := rx; exact SeqAt.EqAt.str_str a t' b t
    | _ => exact absurd (show false = true from fx) Bool.false_ne_true
  | _ => exact absurd (show false = true from fy) Bool.false_ne_true
/-- the items' answers, read off the values (a value's own answer does not lean on its token) -/
def eqU (x : V) (u : Value) : Bool := match u with
  | .none => eqV .non x
  | .bool b => eqV (.bl b) x
  | .int i _ => eqV (.int i) x
  | .str z _ => eqV (.str z) x
  | _ => false
theorem eqU_of {x y : V} {u : Value} (r : RelV y u) (f : flatV y = true) : eqU x u = eqV y x := by
  cases y with
  | non => cases r; rfl
  | bl b => cases r; rfl
  | int i => obtain ⟨t, rfl⟩ := r; rfl
  | str z => obtain ⟨t, rfl⟩ := r; rfl
  | _ => exact absurd (show false = true from f) Bool.false_ne_true
theorem any_eqU {x : V} : ∀ {xs : List V} {us : List Value}, Vals xs us → xs.all flatV = true → us.any (eqU x) = xs.any fun y => eqV y x
  | _, _, .nil, _ => rfl
  | y :: xs, u :: us, .cons r t, f => by
    rw [List.all_cons, Bool.and_eq_true] at f
    rw [List.any_cons, List.any_cons, eqU_of r f.1, any_eqU t f.2]
theorem mem_eqAt {A : Around} {s : Shared} {x : V} {v : Value} (rx : RelV x v) (fx : flatV x = true) : ∀ {xs : List V} {us : List Value}, Vals xs us → xs.all flatV = true → ∀ u ∈ us, SeqAt.EqAt A s u v (eqU x u)
  | _, _, .nil, _ => fun u hu => by cases hu
  | y :: xs, u :: us, .cons r t, f => fun u' hu => by
    rw [List.all_cons, Bool.and_eq_true] at f
    rcases List.mem_cons.mp hu with rfl | hu
    · rw [eqU_of r f.1]; exact eqAt_V r rx f.1 fx
    · exact mem_eqAt rx fx t f.2 u' hu
def inV (x : V) (xs : List V) : Bool := xs.any fun y => eqV y x
/-- x in a list or tuple of flat items -/
def rIn (K : PySem.W.Frag) (neg : Bool) : R2 := fun x y H Q => ∃ p xs, y = .ref p ∧ (SqL K H p xs ∨ SqT K H p xs) ∧ flatV x = true ∧ xs.all flatV = true ∧ Q (.bl (if neg then !inV x xs else inV x xs)) H
theorem op_in_seq : OpR X (compareOp .In) (rIn X.K false) := by
  intro pins s σ H x y v u Q I rx ry h
  obtain ⟨p, xs, rfl, hq, fx, fs, q⟩ := h
  cases ry
  rcases hq with hq | hq
  · obtain ⟨its, r, pl, hz⟩ := I.list hq
    refine SeqAt.in_listAt (eqU x) pl.isList (fun w hw => mem_eqAt rx fx r fs w (by simpa using hw)) ⟨.bl _, H, I, rfl, ?_⟩
    rw [show its.toArray.any (eqU x) = its.any (eqU x) by simp, any_eqU r fs]
    exact q
  · obtain ⟨its, r, pl, hz⟩ := I.tuple hq
    refine SeqAt.in_tupleAt (eqU x) pl (fun w hw => mem_eqAt rx fx r fs w (by simpa using hw)) ⟨.bl _, H, I, rfl, ?_⟩
    rw [show its.toArray.any (eqU x) = its.any (eqU x) by simp, any_eqU r fs]
    exact q
theorem op_notIn_seq : OpR X (compareOp .NotIn) (rIn X.K true) := by
  intro pins s σ H x y v u Q I rx ry h
  obtain ⟨p, xs, rfl, hq, fx, fs, q⟩ := h
  cases ry
  rcases hq with hq | hq
  · obtain ⟨its, r, pl, hz⟩ := I.list hq
    refine SeqAt.notIn_listAt (eqU x) pl.isList (fun w hw => mem_eqAt rx fx r fs w (by simpa using hw)) ⟨.bl _, H, I, rfl, ?_⟩
    rw [show its.toArray.any (eqU x) = its.any (eqU x) by simp, any_eqU r fs]
    exact q
  · obtain ⟨its, r, pl, hz⟩ := I.tuple hq
    refine SeqAt.notIn_tupleAt (eqU x) pl (fun w hw => mem_eqAt rx fx r fs w (by simpa using hw)) ⟨.bl _, H, I, rfl, ?_⟩
    rw [show its.toArray.any (eqU x) = its.any (eqU x) by simp, any_eqU r fs]
    exact q
theorem call_len_seq : CallR X (.builtin "len") (fun xs H Q => ∃ p ys, xs = [.ref p] ∧ (SqL X.K H p ys ∨ SqT X.K H p ys) ∧ Q (.int ys.length) H) := by
  intro pins s σ H xs us Q I r h
  obtain ⟨p, ys, rfl, hq, q⟩ := h
  obtain ⟨u, rfl, rx⟩ := vals1 r
  cases rx
  have hn := line63
  rcases hq with hq | hq
  · obtain ⟨its, r', pl, hz⟩ := I.list hq
    have hlen := r'.length
    exact Calls.call_len_list pl.isList (by simp only [List.size_toArray] <;> omega) ⟨.int ys.length, H, I.tok _, ⟨s.toks + 1, by rw [List.size_toArray, hlen]⟩, q⟩
  · obtain ⟨its, r', pl, hz⟩ := I.tuple hq
    have hlen := r'.length
    exact len_tuple pl (by simp only [List.size_toArray] <;> omega) ⟨.int ys.length, H, I.tok _, ⟨s.toks + 1, by rw [List.size_toArray, hlen]⟩, q⟩
theorem call_list_of : CallR X (.type "list") (fun xs H Q => ∃ p ys, xs = [.ref p] ∧ (SqL X.K H p ys ∨ SqT X.K H p ys) ∧ ∀ l, H l = none → Q (.ref l) (upd H l (.lst ys))) := by
  intro pins s σ H xs us Q I r h
  obtain ⟨p, ys, rfl, hq, q⟩ := h
  obtain ⟨u, rfl, rx⟩ := vals1 r
  cases rx
  have fin : ∀ (its : List Value), Vals ys its → ys.length ≤ sizeLine → ∀ (h' : Heap) (c' : Nat), (∀ b o', s.heap.get? b = some o' → h'.get? b = some o') →
      h'.get? s.heap.objs.size = some { cls := .type "list", dict := none, data := .seq its.toArray c', slots := #[] } → EP X pins σ Q (.ref s.heap.objs.size) { s with heap := h' } := fun its r' hz h' c' kp e =>
    ⟨.ref s.heap.objs.size, _, I.laid (t' := s.toks) kp (Nat.le_refl _) (show ObjOk X.prog X.w _ h' _ (.lst ys) from ⟨hz, its, c', r', e⟩), rfl, q _ (I.hok.fresh (Nat.le_refl _))⟩
  rcases hq with hq | hq
  · obtain ⟨its, r', pl, hz⟩ := I.list hq
    have hlen := r'.length
    obtain ⟨o, ho, hc, n, hd⟩ := pl.isList
    exact call_list_seq p (.inl rfl) ho hc hd (fun h' c' kp e => fin its r' hz h' c' kp e) (by simp only [List.size_toArray] <;> omega)
  · obtain ⟨its, r', pl, hz⟩ := I.tuple hq
    have hlen := r'.length
    obtain ⟨o, ho, hc, n, hd⟩ := pl
    exact call_list_seq p (.inr rfl) ho hc hd (fun h' c' kp e => fin its r' hz h' c' kp e) (by simp only [List.size_toArray] <;> omega)
theorem call_tuple_of : CallR X (.type "tuple") (fun xs H Q => ∃ p ys, xs = [.ref p] ∧ ((SqL X.K H p ys ∧ ∀ l, H l = none → Q (.ref l) (upd H l (.tup ys))) ∨ (SqT X.K H p ys ∧ Q (.ref p) H))) := by
  intro pins s σ H xs us Q I r h
  obtain ⟨p, ys, rfl, h⟩ := h
  obtain ⟨u, rfl, rx⟩ := vals1 r
  cases rx
  rcases h with ⟨hq, q⟩ | ⟨hq, q⟩
  · obtain ⟨its, r', pl, hz⟩ := I.list hq
    have hlen := r'.length
    refine call_tuple_list pl.isList (fun h' kp => ?_) (by simp only [List.size_toArray] <;> omega)
    have I1 : Inv X pins σ H { s with heap := h' } := I.kept (t' := s.toks) kp
    have I2 : Inv X pins σ (upd H h'.objs.size (.tup ys)) { s with heap := h'.push { cls := .type "tuple", data := .seq its.toArray } } :=
      I1.laid (t' := s.toks) (fun b o e => Heap.get?_push_of_some _ e) (Nat.le_refl _) (show ObjOk X.prog X.w _ _ _ (.tup ys) from ⟨hz, its, r', IsTup.new _ _⟩)
    exact ⟨.ref h'.objs.size, _, I2, rfl, q _ (I1.hok.fresh (Nat.le_refl _))⟩
  · obtain ⟨its, r', pl, hz⟩ := I.tuple hq
    exact call_tuple_same pl ⟨.ref p, H, I, rfl, q⟩
/-- the value is of that builtin type -/
def tyV (K : PySem.W.Frag) (T : String) (x : V) (H : Hp) : Prop := match x with
  | .str _ => T = "str"
  | .int _ => T = "int"
  | .ref p => (T = "list" ∧ ∃ xs, SqL K H p xs) ∨ (T = "tuple" ∧ ∃ o, K.lookup p = some o ∧ o.cls = .type "tuple" ∧ o.dict = none) ∨
      (T = "dict" ∧ ((∃ kvs, H p = some (.dK kvs)) ∨ ∃ kvs, H p = some (.dT kvs))) ∨ (T = "set" ∧ ∃ S n, H p = some (.set S n))
  | _ => False
theorem tyV_is {pins : List (Addr × Obj)} {σ : St} {H : Hp} {s : Shared} {T : String} {x : V} {v : Value} (I : Inv X pins σ H s) (r : RelV x v) (ty : tyV X.K T x H) :
    s.TypeIs v T ∧ ∀ a, v = .ref a → ∃ ob, s.heap.get? a = some ob ∧ ob.dict = none := by
  cases x with
  | str z =>
    obtain ⟨t, rfl⟩ := r
    cases (show T = "str" from ty)
    exact ⟨typeIs_str s z t, fun _ e => nomatch e⟩
  | int i =>
    obtain ⟨t, rfl⟩ := r
    cases (show T = "int" from ty)
    exact ⟨typeIs_int s i t, fun _ e => nomatch e⟩
  | ref p =>
    cases r
    rcases ty with ⟨rfl, xs, hq⟩ | ⟨rfl, o, hk, hc, hd⟩ | ⟨rfl, hk⟩ | ⟨rfl, S, n, hk⟩
    · obtain ⟨its, _, pl, _⟩ := I.list hq
      refine ⟨pl.isList.typeIs, fun a e => ?_⟩
      cases e
      obtain ⟨o, n, e, c, hd, _⟩ := pl
      exact ⟨o, e, hd⟩
    · refine ⟨⟨o, I.kIn p o hk, hc⟩, fun a e => ?_⟩
      cases e
      exact ⟨o, I.kIn _ o hk, hd⟩
    · have z : ∃ o, s.heap.get? p = some o ∧ o.ExactDict := by
        rcases hk with ⟨kvs, hk⟩ | ⟨kvs, hk⟩
        · obtain ⟨_, _, _, _, o, _, _, e, ex, _⟩ := I.hok p _ hk
          exact ⟨o, e, ex⟩
        · obtain ⟨_, _, _, _, o, _, _, e, ex, _⟩ := I.hok p _ hk
          exact ⟨o, e, ex⟩
      obtain ⟨o, e, ex⟩ := z
      refine ⟨⟨o, e, ex.1⟩, fun a e2 => ?_⟩
      cases e2
      exact ⟨o, e, ex.2.1⟩
    · obtain ⟨o, _, _, _, e, ex, _⟩ := I.hok p _ hk
      refine ⟨⟨o, e, ex.1⟩, fun a e2 => ?_⟩
      cases e2
      exact ⟨o, e, ex.2.1⟩
  | _ => exact False.elim ty
def tBM (K : PySem.W.Frag) (T : String) (r : V → List V → Hp → VK → Prop) (to : TE) (t : TA) : TE := fun σ H Q => to σ H fun x H1 => tyV K T x H1 ∧ t σ H1 fun xs H2 => r x xs H2 Q
variable {o e : Expr} {es : List Expr} {to : TE} {t : TA} {name : Str} {apos cpos : Pos} {T id : String} {r : V → List V → Hp → VK → Prop}
theorem pe_bm (pa : PlainAttrs T) (slot : Slot T name id) (hty : typeOf (.builtin id) = pure (.type "method_descriptor")) (hm : MtR X id r) (ho : PE X o to) (ha : PA X (e :: es) t)
    (hbase : attributeBase o name X.env (eval o X.env) = eval o X.env := by rfl)
    (hfew : ((backTo cpos (starEach (e :: es) X.env)).all (fun x => !x.1) && (backToKw cpos (keywordEach [] X.env)).all (fun x => x.1.isSome)
      && decide ((e :: es).length + ([] : List Keyword).length + (if ([] : List Keyword).isEmpty then 0 else 1) < 30)) = true := by rfl)
    (hline : (apos.endLine == cpos.line) = true := by rfl) (hs : starEach (e :: es) X.env = (false, eval e X.env) :: starEach es X.env := by rfl) (hplain : (backTo cpos (starEach es X.env)).any (·.1) = false := by rfl) :
    PE X (.Call (.Attribute o name apos) (e :: es) [] cpos) (tBM X.K T r to t) := by
  intro pins s σ H Q I h
  refine wpAny_Call_method_late hbase hfew hline rfl (thn (ho pins s σ H _ I h) fun v s1 ⟨x, H1, I1, r1, ty, q1⟩ => ?_)
  obtain ⟨h1, h2⟩ := tyV_is I1 r1 ty
  refine ⟨T, id, pa, slot, hty, h1, h2, ?_⟩
  have hA := ha cpos pins s1 σ H1 _ I1 q1
  rw [hs] at hA ⊢
  refine Calls.callWith_builtin (by show (false || (backTo cpos (starEach es X.env)).any (·.1)) = false; rw [hplain] <;> rfl) (Calls.evalArgs_plain ?_)
  exact thn hA fun us s2 ⟨vs, H2, I2, r2, q2⟩ => hm pins s2 σ H2 x vs v us Q I2 r1 r2 q2
/- xs.append(e), list.index on a module's tuple .. are MtR facts of 06m -/
end
end L2
namespace L2
open PySem PySem.Spec PyProof.Rows
def MtM (X : Cx) (id : String) (r : V → List V → Hp → VK → Prop) : Prop :=
  ∀ (pins : List (Addr × Obj)) (s : Shared) (σ : St) (H : Hp) (x : V) (xs : List V) (v : Value) (us : List Value) (Q : VK), Inv X pins σ H s → RelV x v → Vals xs us → r x xs H Q →
    wpAny (model X.prog X.w) X.A (call (.builtin id) (v :: us)) (EP X pins σ Q) X.xe s
theorem Vals.one : ∀ {x : V} {us : List Value}, Vals [x] us → ∃ u, us = [u] ∧ RelV x u
  | _, _, .cons r .nil => ⟨_, rfl, r⟩
theorem Vals.reverse {xs : List V} {us : List Value} (h : Vals xs us) : Vals xs.reverse us.reverse := by
  induction h with
  | nil => exact .nil
  | cons r t ih => rw [List.reverse_cons, List.reverse_cons]; exact Vals.append ih (.cons r .nil)
section
variable {X : Cx} {pins : List (Addr × Obj)} {σ : St} {H : Hp} {s : Shared} {l b : Addr} {xs ys zs : List V}
theorem Inv.lset {its its' : List Value} {n : Nat} {f : Array Value → Array Value} {t' : Nat} (I : Inv X pins σ H s) (hH : H l = some (.lst xs))
    (e : s.heap.get? l = some { cls := .type "list", data := .seq its.toArray n }) (hf : f its.toArray = its'.toArray) (hv : Vals ys its') (hz : ys.length ≤ sizeLine) :
    Inv X pins σ (upd H l (.lst ys)) { s with heap := s.heap.update l (Obj.mapSeq f), toks := t' } := by
  have q := PySem.IsL.update e f
  rw [hf] at q
  refine I.write (x := l) (e := l) (by rw [hH]; exact trivial) (.inl rfl) (fun b' u hb hu => (Heap.get?_update_other s.heap (Obj.mapSeq f) (Ne.symm hb)).trans hu) ⟨_, q⟩ ?_
  exact ⟨hz, its', _, hv, q⟩
theorem Inv.lnew {its : List Value} {t' : Nat} (I : Inv X pins σ H s) (hv : Vals ys its) (hz : ys.length ≤ sizeLine) :
    Inv X pins σ (upd H s.heap.objs.size (.lst ys)) { s with heap := s.heap.push { cls := .type "list", data := .seq its.toArray }, toks := t' } :=
  I.laid (fun _ _ q => Heap.get?_push_of_some _ q) (Nat.le_refl _) ⟨hz, its, 0, hv, Heap.get?_push_size _ rfl⟩
theorem Inv.fresh (I : Inv X pins σ H s) : H s.heap.objs.size = none := I.hok.fresh (Nat.le_refl _)
theorem Inv.lstM (I : Inv X pins σ H s) (hH : H l = some (.lst xs)) : xs.length ≤ sizeLine ∧ ∃ (its : List Value) (n : Nat), Vals xs its ∧ xs.length = its.length ∧ s.heap.get? l = some { cls := .type "list", data := .seq its.toArray n } := by
  obtain ⟨z, its, n, r, e⟩ := I.hok l _ hH
  exact ⟨z, its, n, r, r.length, e⟩
end
section
variable {X : Cx}
def rAppend : V → List V → Hp → VK → Prop := fun x vs H Q => ∃ l xs y, x = .ref l ∧ vs = [y] ∧ H l = some (.lst xs) ∧ xs.length < sizeLine ∧ Q .non (upd H l (.lst (xs ++ [y])))
theorem mt_append : MtM X "list.append" rAppend := by
  intro pins s σ H x vs v us Q I rx rv h
  obtain ⟨l, xs, y, rfl, rfl, hH, hz, q⟩ := h
  cases rx
  obtain ⟨u, rfl, ru⟩ := rv.one
  obtain ⟨z, its, n, r, hl, e⟩ := I.lstM hH
  refine call_meets F.slot_list_append ⟨_, e, rfl⟩ F.entry_list_append (F.args_list_append_2 _ _) (PySem.list_append l its.toArray n u (by rw [List.size_toArray]; omega)) ⟨e, ?_⟩
  refine ⟨.non, _, I.lset (its' := its ++ [u]) hH e (by simp) (r.append (.cons ru .nil)) ?_, rfl, q⟩
  rw [List.length_append, List.length_singleton]
  omega
end
section
variable {prog : Program} {w : World} {A : Around} {E : Value → Shared → Prop} {s : Shared}
set_option maxRecDepth 100000 in
end
end L2
namespace Att
open PySem PySem.W PySem.Calls PyProof.Rows
theorem ints_of_wellAll {P : Params} {h : Heap} : ∀ (ns : List Int) (vs : List Value), WellAll P h vs (ns.map WData.int) → IntsAre vs ns := by
  intro ns
  induction ns with
  | nil =>
    intro vs w
    rw [List.map_nil] at w
    cases w
    exact .nil
  | cons n ns ih =>
    intro vs w
    rw [List.map_cons] at w
    cases w with
    | cons a b =>
      cases a
      exact .cons _ _ (ih _ b)
theorem script_of {l : OpenLaw} {n : Nat} (hn : l.most = some n) {P : Params} {h : Heap} {args : List WData} {vals : List Value}
    (hpre : l.row.toRowW.claim.pre args = true) (hwl : WellAll P h vals args) :
    ∃ a vs ns, vals = [Value.ref a] ∧ args = [WData.list (ns.map WData.int)] ∧ h.get? a = some { cls := .type "list", data := .seq vs.toArray } ∧ IntsAre vs ns ∧ ns.length ≤ n := by
  have hsh : WShape.hasAll [] args [.list .int] = true := (pre_splitW hpre).1
  have hc : l.pre.holds [] { args := args } = true := (pre_splitW hpre).2
  obtain ⟨d, r, rfl, h1, h2⟩ := hasAllW_cons hsh
  obtain rfl := hasAllW_nil h2
  obtain ⟨xs, rfl, h3⟩ := hasW_list h1
  obtain ⟨ns, rfl⟩ := items_int h3
  have hlen : ns.length ≤ n := by
    unfold OpenLaw.pre at hc
    have h4 : (WTm.not (.lt (.lit (.int (n : Int))) (.len (.arg 0)))).holds [] { args := [.list (ns.map .int)] } = true := by
      have h4 := (holds_andW hc).1
      rw [hn] at h4
      exact h4
    have h5 := condW_of h4 (w_not (w_lt w_lit (w_len_list (w_arg rfl))))
    rw [List.length_map] at h5
    refine Nat.le_of_not_lt fun q => ?_
    have q' : (n : Int) < ((ns.length : Nat) : Int) := by omega
    first
      | (rw [decide_eq_true q'] at h5; exact absurd h5 (by decide))
      | (simp at h5; omega)
  cases hwl with
  | cons w1 w2 =>
    cases w2
    cases w1 with
    | list ho hall => exact ⟨_, _, ns, rfl, rfl, ho, ints_of_wellAll ns _ hall, hlen⟩
theorem post_true (l : OpenLaw) (args : List WData) : l.row.toRowW.claim.post args (.bool true) args = true :=
  postW_of (r := l.row.toRowW) (X := (true == true))
    (show WShape.has [] (.bool true) .bool = true by first | rfl | decide | simp [WShape.has, WShape.arms, WShape.armsAll])
    (show (WTm.eq .res (.lit (.bool true))).value [] { args := args, res := some (.bool true), after := args } = some (.bool (true == true)) from w_eq_bool (w_res rfl) w_lit) rfl
/-- the same from a codeAny of the CALL (for a layer whose function contracts speak of calls) -/
theorem attach_call {l : OpenLaw} {n : Nat} {q : Program} {loose : List Str} {XP : (Str → Option Value) → Heap → Prop} {YP : World → Heap → Prop} {d : DefRec}
    (hn : l.most = some n) (hdf : d.params.defaults = [])
    (call : ∀ (w : World) (s₀ s₁ : Shared) (mg mb : Str → Option Value) (fa : Addr) (o : Obj) (pm cd doc : Value) (a : Addr) (vs : List Value) (ns : List Int),
      Ground q loose [] XP w s₀ mg mb s₁.heap → YP w s₁.heap →
      s₁.heap.get? fa = some o → o.data = .func (docDef d.name d.params d.body d.scope pm cd doc) → s₁.heap.CodeRec cd d.name → mg d.name = some (.ref fa) →
      s₁.heap.get? a = some { cls := .type "list", data := .seq vs.toArray } → IntsAre vs ns → ns.length ≤ n → s₁.gens = #[] →
      codeAny (model l.prog w) callerA (.call (.ref fa) ⟨[.ref a], []⟩) (fun r s' => r = .ok (.ret (.bool true)) ∧ OldK s₁.heap s'.heap ∧ s'.os = s₁.os ∧ AllBare s'.gens) s₁) :
    WalkO q loose XP YP l.row.toRowW d [] (fun f vs => PySem.call f vs) := by
  intro w s₀ s₁ mg mb G Y fa o pm cd doc dV kV ho hd hcd hD hmg hg args vals as hpre hlay hrd hwl hlo
  obtain rfl : dV = .none := Dflts.none hD hdf
  obtain rfl : kV = .none := Dflts.noKw hD
  obtain ⟨a, vs, ns, rfl, rfl, hobj, hints, hlen⟩ := script_of hn hpre hwl
  refine enter_call (codeAny_mono (call w s₀ s₁ mg mb fa o pm cd doc a vs ns G Y ho (fd_plain hd) hcd hmg hobj hints hlen hg) fun r s' hq => ?_)
  obtain ⟨rfl, h2, h3, h4⟩ := hq
  exact ⟨.inl ⟨.bool true, .bool true, [], rfl, fun _ => rfl, .bool true, post_true l _, fun _ => ⟨List.Pairwise.nil, fun _ hm => (nomatch hm)⟩⟩, h2, h3, h4⟩
end Att
namespace L2
open PySem PySem.Spec PyProof.Rows
theorem vals_ints : ∀ {vs : List Value} {ns : List Int}, IntsAre vs ns → Vals (ns.map V.int) vs
  | _, _, .nil => .nil
  | _, _, .cons n t h => .cons ⟨t, rfl⟩ (vals_ints h)
/-- nothing is tracked but the script, known to the object (or it is an object of the module) -/
def Only (H : Hp) : Prop := ∀ b, H b = none ∨ ∃ o xs, H b = some (.frz o (.lst xs))
/-- THE HEAD: the law's promise, at the heap behind the top. F, the promise of the law's def, may use that base is part of the heap (so K.In base, base.Ns mainGlobals mg stand in Mod) -/
theorem law_call {P : Program} {w : World} {K : PySem.W.Frag} {mg mb : Str → Option Value} {CX : CXT} {k : Nat} {fa a : Addr} {fd : FuncData} {x : Str} {sp : Sp} {s₁ : Shared} {vs : List Value} {ns : List Int}
    (KX : K.In s₁.heap) (hns : s₁.heap.Ns mainGlobals mg) (hb : s₁.heap.Ns builtinsNs mb) (hbb : ∀ x : Str, x ≠ "__name__" → mb x = bootBuiltins x) (hlim : s₁.heap.NoLimit) (hg : s₁.gens = #[])
    (ha : s₁.heap.get? a = some { cls := .type "list", data := .seq vs.toArray }) (hi : IntsAre vs ns) (hl : ns.length ≤ sizeLine) (hr : Room k callerA)
    (F : ∀ base : Heap, K.In base → base.Ns mainGlobals mg → FnOk P w K mg base CX k fa fd [x] sp) (hbind : ∀ (s : Shared) (u : Value), BindsTo s fd ⟨[u], []⟩ [(x, u)])
    (hsp : ∀ H : Hp, Only H → SqL K H a (ns.map V.int) → sp [.ref a] H (fun v _ => v = .bl true) fun _ _ _ => False)
    (hCX : ∀ H e s', CX [] H s₁ (fun _ _ _ => False) e s' → False) :
    codeAny (model P w) callerA (.call (.ref fa) ⟨[.ref a], []⟩) (fun r s' => r = .ok (.ret (.bool true)) ∧ OldK s₁.heap s'.heap ∧ s'.os = s₁.os ∧ AllBare s'.gens) s₁ := by
  have rv := vals_ints hi
  have lenV := hi.length
  -- from an abstract heap in which nothing but the script may be tracked
  have core : ∀ H : Hp, Only H → SqL K H a (ns.map V.int) → HOk P w H s₁.heap → (∀ b, H b ≠ none → b = a) → (H a ≠ none → K.lookup a = none) →
      codeAny (model P w) callerA (.call (.ref fa) ⟨[.ref a], []⟩) (fun r s' => r = .ok (.ret (.bool true)) ∧ OldK s₁.heap s'.heap ∧ s'.os = s₁.os ∧ AllBare s'.gens) s₁ := by
    intro H hO hS hok hA hK
    have base_of : ∀ {b : Addr} {o : Obj}, s₁.heap.get? b = some o → H b = none → (hidT s₁.heap H).get? b = some o := fun e n => hidT_get e n
    have noA : ∀ {b : Addr} {o : Obj} {es : Array DictEntry} {ep : Nat}, s₁.heap.get? b = some o → o.data = .dict es ep → H b = none := fun {b o es ep} e d => by
      cases q : H b with
      | none => rfl
      | some u =>
        have e' : b = a := hA b (by rw [q]; simp)
        subst e'
        rw [ha] at e; cases e
        have d' : Data.seq vs.toArray _ = Data.dict es ep := d
        cases d'
    have nsK : ∀ {b : Addr} {m : Str → Option Value}, s₁.heap.Ns b m → (hidT s₁.heap H).Ns b m := fun {b m} ⟨o, es, ep, e, d, r⟩ => ⟨o, es, ep, base_of e (noA e d), d, r⟩
    have hKb : K.In (hidT s₁.heap H) := fun b o e => base_of (KX b o e) (by
      cases q : H b with
      | none => rfl
      | some u =>
        have e' : b = a := hA b (by rw [q]; simp)
        subst e'
        rw [hK (by rw [q]; simp)] at e; cases e)
    have hM : Mod K mg (hidT s₁.heap H) := ⟨hKb, nsK hns, ⟨mb, nsK hb, hbb⟩, let ⟨mc, h1, h2⟩ := hlim; ⟨mc, nsK h1, h2⟩⟩
    have e0 : Env0 P w K mg (hidT s₁.heap H) callerA [] s₁ H := ⟨rfl, hM, fun b o e => of_hidT e, Nat.le_of_eq (hidT_size _ _), trivial, fun b hb => absurd (show b ∈ ([] : List Addr) from hb) (by simp), hok, .of_eq hg⟩
    refine codeAny_mono ((F _ hKb (nsK hns)).run callerA [] s₁ H ⟨[.ref a], []⟩ [.ref a] [.ref a] _ _ hr e0 (hbind s₁ (.ref a)) (.cons rfl .nil) (hsp H hO hS)) fun r s' h => ?_
    cases r with
    | error e => exact (hCX H e s' h).elim
    | ok fl =>
      cases fl with
      | next => exact False.elim h
      | brk => exact False.elim h
      | cont => exact False.elim h
      | ret u =>
        obtain ⟨v, H', os, bare, un, hok', r', q⟩ := h
        have q' : v = .bl true := q
        subst q'
        obtain rfl : u = Value.bool true := r'
        refine ⟨rfl, OldK.of_keep fun b o e => ?_, os, bare⟩
        cases q : H b with
        | none => exact un.keep b o e q (by intro z; exact absurd (show b ∈ ([] : List Addr) from z) (by simp)) (by simp)
        | some u =>
          rcases hO b with z | ⟨ob, xs, z⟩
          · rw [q] at z; cases z
          · have z2 := un.frzs b ob _ z
            obtain ⟨e1, _⟩ := hok b _ z
            obtain ⟨e2, _⟩ := hok' b _ z2
            rw [e] at e1; cases e1
            exact e2
  cases hk : K.lookup a with
  | some o =>
    -- the script is one of the module's own objects
    have e := KX a o hk
    rw [ha] at e
    cases e
    refine core (fun _ => none) (fun _ => .inl rfl) (.inr ⟨_, vs.toArray, _, hk, rfl, rfl, rfl, by rw [List.size_toArray, lenV]; exact hl, by simpa using rv⟩) (fun b u z => by have z' : (none : Option HO) = some u := z; cases z') (fun b z => absurd rfl z) fun z => absurd rfl z
  | none =>
    refine core (fun b => if b = a then some (.frz { cls := .type "list", data := .seq vs.toArray } (.lst (ns.map V.int))) else none) (fun b => ?_) (.inl (.inr ⟨{ cls := .type "list", data := .seq vs.toArray }, if_pos rfl⟩)) (fun b u z => ?_) (fun b z => ?_) fun _ => hk
    · by_cases hb : b = a
      · exact .inr ⟨_, _, if_pos hb⟩
      · exact .inl (if_neg hb)
    · by_cases hb : b = a
      · have z' := (if_pos hb).symm.trans z
        cases z'
        subst hb
        exact ⟨ha, by rw [List.length_map]; exact hl, vs, _, rv, ha⟩
      · have z' := (if_neg hb).symm.trans z
        cases z'
    · by_cases hb : b = a
      · exact hb
      · exact absurd (if_neg hb) z
end L2
namespace L2
open PySem PySem.Spec PyProof.Rows
/-- the goal that k_head leaves (case hc), from the law's promise. F gives the function object fd (K's own) once, then the promise over every base -/
theorem walk_of {l : PySem.W.OpenLaw} {n k : Nat} {q : Program} {loose : List Str} {XP : (Str → Option Value) → Heap → Prop} {YP : World → Heap → Prop} {d : DefRec} {K : Params → PySem.W.Frag} {CX : World → CXT} {sp : World → Sp} {x : Str}
    (hn : l.most = some n) (hn2 : n ≤ sizeLine) (hdf : d.params.defaults = []) (hr : Room k callerA)
    (hY : ∀ (w : World) (h : Heap), YP w h → (K w.params).In h)
    (F : ∀ (w : World) (mg : Str → Option Value) (fa : Addr) (h : Heap), (K w.params).In h → h.Ns mainGlobals mg → mg d.name = some (.ref fa) →
      ∃ fd : FuncData, (∀ (s : Shared) (u : Value), BindsTo s fd ⟨[u], []⟩ [(x, u)]) ∧
        ∀ base : Heap, (K w.params).In base → base.Ns mainGlobals mg → FnOk l.prog w (K w.params) mg base (CX w) k fa fd [x] (sp w))
    (hsp : ∀ (w : World) (H : Hp) (a : Addr) (ns : List Int), ns.length ≤ n → Only H → SqL (K w.params) H a (ns.map V.int) → sp w [.ref a] H (fun v _ => v = .bl true) fun _ _ _ => False)
    (hCX : ∀ (w : World) (H : Hp) (s : Shared) (e : Value) (s' : Shared), CX w [] H s (fun _ _ _ => False) e s' → False) :
    PySem.W.WalkO q loose XP YP l.row.toRowW d [] (fun f vs => PySem.call f vs) := by
  refine Att.attach_call hn hdf fun w s₀ s₁ mg mb fa o pm cd doc a vs ns G Y ho hd hcd hmg hobj hints hlen hg => ?_
  have KX := hY w _ Y
  obtain ⟨fd, hb, hF⟩ := F w mg fa _ KX G.T.g hmg
  exact law_call KX G.T.g G.T.b G.T.builtins G.T.nolimit hg hobj hints (Nat.le_trans hlen hn2) hr hF hb (fun H hO hS => hsp w H a ns hlen hO hS) fun H e s' => hCX w H s₁ e s'
end L2
/- THE LAST THEOREM (shape; LID, My.* are yours):
   My.Adr: a structure of the addresses that your layer names (classes, functions); My.Txt K t: a structure (Prop) of the equations over K;
   My.txt_mk : {K} {implicit addresses ..} (e1 : nsIn K mainGlobals "law" = some (some (.ref f))) (e2 : K.lookup f = some ⟨oc, od, .func (fnOf "law" "law" params body scope dV kV doc pm an cdv ct), sl⟩) (e3 : codeIn K cdv "law" = true) .. : ∃ t, My.Txt K t
set_option maxRecDepth 100000 in
set_option maxHeartbeats 0 in
theorem PySem.Challenge.cw_LID_holds : PySem.Challenge.rw_LID.Holds := by
  w_on; o_law; k_head; (case hw => w_witness2)
  k_fill
  refine L2.walk_of (l := PySem.Challenge.rw_LID) (n := 63) (k := 40) (x := "script") (CX := fun w => ..) (sp := fun _ => My.sp_law) rfl (by decide) rfl ⟨rfl, by decide, by decide⟩ (fun w h Y => PySem.W.kIn_of Y) ?F ?S ?C
  case F =>
    intro w mg fa h KX G hmg
    have T : ∃ t, My.Txt (L2.KOf KX) t := by
      dsimp only [L2.KOf]                          -- K must stand as «<heap const> w.params» for k_is
      refine' My.txt_mk ?e1 ?e2 ?e3 ..
      (case e1 => PySem.W.k_is)                    -- in the order: a name -> its address -> its object -> its parts
      (case e2 => PySem.W.k_is)
      ..
    obtain ⟨t, T⟩ := T
    have e0 := hmg.symm.trans (PySem.W.mg_of KX G T.law)
    cases e0                                       -- fa is the law's own address
    exact ⟨_, fun s u => .of_eq rfl, fun base kb nb => My.law_fn T kb nb⟩     -- if «.of_eq rfl» comes too early: refine' ⟨_, ?b, fun base kb nb => My.law_fn T kb nb⟩; exact fun s u => .of_eq rfl
  case S => exact fun w H a ns hl hO hS => ..
  case C => exact ..
(the tactic k_is has no namespace: write k_is) -/
namespace L2
open PySem PySem.Spec PyProof.Rows
/-- the j-th statement of a class's body -/
def inClass (s : Stmt) (j : Nat) : Stmt := match s with
  | .ClassDef _ _ _ body _ _ _ _ _ _ _ => body.getD j (.Pass ⟨0, 0, 0, 0⟩)
  | _ => .Pass ⟨0, 0, 0, 0⟩
def defArgs (s : Stmt) : Arguments := match s with
  | .FunctionDef _ a _ _ _ _ _ _ _ _ => a
  | _ => { posonlyargs := [], args := [], vararg := none, kwonlyargs := [], kw_defaults := [], kwarg := none, defaults := [] }
def defBody (s : Stmt) : List Stmt := match s with
  | .FunctionDef _ _ b _ _ _ _ _ _ _ => b
  | _ => []
def defScope (s : Stmt) : Scope := match s with
  | .FunctionDef _ _ _ _ _ _ sc _ _ _ => sc
  | _ => { kind := .function, names := [], isGenerator := false, isCoroutine := false }
abbrev CX0 : CXT := fun _ _ _ _ _ _ => False
abbrev E0 : XK := fun _ _ _ => False
theorem pass0 {X : Cx} : Passes CX0 X E0 := fun _ _ _ _ _ _ _ h => h.elim
structure Fun (K : PySem.W.Frag) (x qual : Str) (st : Stmt) (f : Addr) (fd : FuncData) : Prop where
  ex : ∃ (oc : Value) (od : Option Addr) (kV doc pm : Value) (an : Option Addr) (cdv ct : Value) (osl : Array (Option Value)),
    fd = PySem.W.fnOf x qual (defArgs st) (defBody st) (defScope st) .none kV doc pm an cdv ct ∧ K.lookup f = some ⟨oc, od, .func fd, osl⟩ ∧ PySem.W.codeIn K cdv qual = true
  kp : PySem.W.keepIn K (.ref f) = true
section
variable {P : Program} {w : World} {K : PySem.W.Frag} {mg : Str → Option Value} {base : Heap}
/-- THE RULE for a def: its body as a term of rules, and the reading of that term -/
theorem Fun.ok {x qual : Str} {st : Stmt} {f : Addr} {fd : FuncData} {N ps : List Str} {k : Nat} {sp : Sp} (F : Fun K x qual st f fd) (S : FnScope N ps (defScope st)) (len : ∀ vs H Q E, sp vs H Q E → vs.length = ps.length)
    (hbody : ∀ (cdv : Value) (A : Around) (outer : List Env) (s : Shared) (H : Hp) (vs : List V) (Q : VK) (E : XK), Room k (A.deeper (envOfC qual (defScope st) s.heap.objs.size f cdv)) → sp vs H Q E →
      ∃ t, PSs (cxOf CX0 P w K mg base N qual (defScope st) f cdv A outer s H E).nox (defBody st) t ∧ t { nx := fun _ H' => Q .non H', rt := fun v _ H' => Q v H' } (start N vs) H) : FnOk P w K mg base CX0 (k + 1) f fd ps sp := by
  obtain ⟨oc, od, kV, doc, pm, an, cdv, ct, osl, rfl, lk, hcd⟩ := F.ex
  refine fn_of lk hcd S len fun A outer s H vs Q E hr hsp => ?_
  obtain ⟨t, h, q⟩ := hbody cdv A outer s H vs Q E hr hsp
  exact ⟨t, h.nox, q⟩
/-- how its arguments bind (no defaults): h is «fun _ _ _ _ _ _ us hl => match us, hl with | [_, _], _ => rfl», one _ a parameter -/
theorem Fun.binds {x qual : Str} {st : Stmt} {f : Addr} {fd : FuncData} {ps : List Str} (F : Fun K x qual st f fd)
    (h : ∀ (kV doc pm : Value) (an : Option Addr) (cdv ct : Value) (us : List Value), us.length = ps.length → bindArgs (PySem.W.fnOf x qual (defArgs st) (defBody st) (defScope st) .none kV doc pm an cdv ct) ⟨us, []⟩ = pure (ps.zip us)) : Binds K fd ps [] := by
  obtain ⟨oc, od, kV, doc, pm, an, cdv, ct, osl, rfl, lk, hcd⟩ := F.ex
  exact .all (h kV doc pm an cdv ct)
theorem fun_mk {x qual : Str} {st : Stmt} {f : Addr} {oc : Value} {od an : Option Addr} {osl : Array (Option Value)} {kV doc pm cdv ct : Value} (l : K.lookup f = some ⟨oc, od, .func (PySem.W.fnOf x qual (defArgs st) (defBody st) (defScope st) .none kV doc pm an cdv ct), osl⟩)
    (c : PySem.W.codeIn K cdv qual = true) (k : PySem.W.keepIn K (.ref f) = true) : Fun K x qual st f (PySem.W.fnOf x qual (defArgs st) (defBody st) (defScope st) .none kV doc pm an cdv ct) := ⟨⟨oc, od, kV, doc, pm, an, cdv, ct, osl, rfl, l, c⟩, k⟩
end
theorem hu_of {A : Around} {k : Nat} (hr : Room k A) : A.units + 1 < cLine := Nat.lt_of_le_of_lt (Nat.add_le_add_left (by decide : 1 ≤ 64) _) hr.units
theorem small1000 {n : Nat} (h : n ≤ 1000) : n < sizeLine := Nat.lt_of_le_of_lt h (by decide)
section
variable {X : Cx}
theorem pv (i : Nat) {x : Str} {pos : Pos} (hN : X.N[i]? = some x := by rfl) (hv : Vis X.env.scope x := by first | exact Or.inl rfl | exact Or.inr (Or.inl rfl) | exact Or.inr (Or.inr rfl)) (hd : (x == ("__debug__" : Str)) = false := by decide)
    (hcd : (x == ("__classdict__" : Str)) = false := by decide) : PE X (.Name x pos) (tVar i) := pe_var hN hv hd hcd
end
theorem iteF {A B : Prop} (h : B) : if false = true then A else B := by
  rw [if_neg Bool.false_ne_true]
  exact h
theorem iteT {A B : Prop} (h : A) : if true = true then A else B := by
  rw [if_pos rfl]
  exact h
theorem ite2 {c A B : Prop} [Decidable c] (h1 : c → A) (h2 : ¬ c → B) : if c then A else B := by
  by_cases h : c
  · rw [if_pos h]
    exact h1 h
  · rw [if_neg h]
    exact h2 h
/-- all that was tracked is as it was -/
def Same (H H' : Hp) : Prop := ∀ b o, H b = some o → H' b = some o
theorem Same.refl (H : Hp) : Same H H := fun _ _ h => h
theorem Same.trans {H H1 H2 : Hp} (a : Same H H1) (b : Same H1 H2) : Same H H2 := fun c o h => b c o (a c o h)
theorem Same.free {H H' : Hp} (e : Same H H') {l : Addr} (h : H' l = Option.none) : H l = Option.none := by
  cases q : H l with
  | none => rfl
  | some o =>
    rw [e l o q] at h
    cases h
theorem Same.seq {K : PySem.W.Frag} {H H' : Hp} {a : Addr} {xs : List V} (e : Same H H') (h : SqL K H a xs) : SqL K H' a xs := by
  rcases h with (h | ⟨o, h⟩) | h
  · exact .inl (.inl (e _ _ h))
  · exact .inl (.inr ⟨o, e _ _ h⟩)
  · exact .inr h
end L2
namespace L2
open PySem PySem.Spec PyProof.Rows
/-- the cells that a block takes from the frame around it -/
def clOf (cells : List (Str × Addr)) : List (Str × NameKind) → List (Str × Addr) → List (Str × Addr)
  | [], acc => acc
  | (n, k) :: r, acc => if k == .free then clOf cells r ((n, (cells.lookup n).getD 0) :: acc) else clOf cells r acc
theorem forIn_cl {cells : List (Str × Addr)} {f : Str × NameKind → List (Str × Addr) → Sem (ForInStep (List (Str × Addr)))} : ∀ (l : List (Str × NameKind)) (acc : List (Str × Addr)),
    (∀ y ∈ l, ∀ acc, f y acc = pure (.yield (if y.2 == .free then (y.1, (cells.lookup y.1).getD 0) :: acc else acc))) → forIn l acc f = pure (clOf cells l acc)
  | [], acc, _ => rfl
  | (n, k) :: r, acc, h => by
    rw [List.forIn_cons, h _ List.mem_cons_self, pure_bind]
    dsimp only
    rw [forIn_cl r _ fun y hy => h y (List.mem_cons_of_mem _ hy)]
    rw [clOf]
    split <;> rfl
theorem closure_clOf {scope : Scope} {env : Env} (h : ∀ y ∈ scope.names, y.2 = .free → ∃ c, env.cells.lookup y.1 = some c) : closureFor scope env = pure (clOf env.cells scope.names []) := by
  simp only [closureFor]
  rw [forIn_cl (cells := env.cells) scope.names [] (fun y hy acc => by
    obtain ⟨n, k⟩ := y
    by_cases hk : k = .free
    · obtain ⟨c, e⟩ := h _ hy hk
      subst hk
      simp [cellOf, e]
    · have hb : (k == NameKind.free) = false := by simpa using hk
      simp [hb])]
  rfl
theorem clOf_lookup {cells : List (Str × Addr)} {x : Str} {c : Addr} : ∀ (l : List (Str × NameKind)) (acc : List (Str × Addr)), (∀ y ∈ l, y.2 = .free → ∃ c, cells.lookup y.1 = some c) →
    (clOf cells l acc).lookup x = some c → acc.lookup x = some c ∨ cells.lookup x = some c
  | [], acc, _, e => .inl e
  | (n, k) :: r, acc, h, e => by
    rw [clOf] at e
    have h' : ∀ y ∈ r, y.2 = .free → ∃ c, cells.lookup y.1 = some c := fun y hy => h y (List.mem_cons_of_mem _ hy)
    by_cases hk : (k == NameKind.free) = true
    · rw [if_pos hk] at e
      rcases clOf_lookup r _ h' e with q | q
      · rw [List.lookup_cons] at q
        cases hx : x == n with
        | true =>
          rw [hx] at q
          have hxn : x = n := by simpa using hx
          subst hxn
          obtain ⟨c0, e0⟩ := h _ List.mem_cons_self (by simpa using hk)
          dsimp only at q e0
          rw [e0] at q
          refine .inr ?_
          rw [e0]
          simpa using q
        | false =>
          rw [hx] at q
          exact .inl q
      · exact .inr q
    · rw [if_neg hk] at e
      exact clOf_lookup r _ h' e
theorem clOf_has {cells : List (Str × Addr)} {x : Str} : ∀ (l : List (Str × NameKind)) (acc : List (Str × Addr)), ((x, NameKind.free) ∈ l ∨ ∃ c, acc.lookup x = some c) → ∃ c, (clOf cells l acc).lookup x = some c
  | [], acc, h => by
    rcases h with h | h
    · cases h
    · exact h
  | (n, k) :: r, acc, h => by
    rw [clOf]
    by_cases hk : (k == NameKind.free) = true
    · rw [if_pos hk]
      refine clOf_has r _ ?_
      by_cases hx : x = n
      · subst hx
        exact .inr ⟨(cells.lookup x).getD 0, by rw [List.lookup_cons]; simp⟩
      · rcases h with h | ⟨c, e⟩
        · rcases List.mem_cons.mp h with z | z
          · exact absurd (congrArg Prod.fst z) hx
          · exact .inl z
        · refine .inr ⟨c, ?_⟩
          rw [List.lookup_cons]
          have hb : (x == n) = false := by simpa using hx
          rw [hb]
          exact e
    · rw [if_neg hk]
      refine clOf_has r _ ?_
      rcases h with h | h
      · rcases List.mem_cons.mp h with z | z
        · cases z
          exact absurd rfl hk
        · exact .inl z
      · exact .inr h
theorem relabel_free {scope : Scope} {env : Env} {x : Str} (h : (relabel scope env).names.lookup x = some .cell ∨ (relabel scope env).names.lookup x = some .free) (hc : ∀ y ∈ scope.names, y.2 ≠ .cell) : (x, NameKind.free) ∈ scope.names := by
  have key : ∀ k, (x, k) ∈ (relabel scope env).names → (k = .cell ∨ k = .free) → (x, NameKind.free) ∈ scope.names := fun k hm hk => by
    obtain ⟨⟨n, j⟩, hy, e⟩ := List.mem_map.mp hm
    dsimp only at e
    split at e
    · rename_i hcond
      cases e
      have : j = .free := by
        have := (Bool.and_eq_true _ _).mp hcond
        have := ((Bool.and_eq_true _ _).mp this.1).1
        simpa using this
      subst this
      exact hy
    · cases e
      rcases hk with hk | hk
      · exact absurd hk (hc _ hy)
      · subst hk; exact hy
  rcases h with h | h
  · exact key _ (PySem.mem_of_lookup h) (.inl rfl)
  · exact key _ (PySem.mem_of_lookup h) (.inr rfl)
theorem lookup_relabel_free {env : Env} : ∀ {names : List (Str × NameKind)} {x : Str}, names.lookup x = some .free →
    (names.map fun (n, k) => if (k == NameKind.free && env.scope.kind == .function && env.kindOf n == some .cell) then (n, NameKind.cell) else (n, k)).lookup x = some .cell ∨
    (names.map fun (n, k) => if (k == NameKind.free && env.scope.kind == .function && env.kindOf n == some .cell) then (n, NameKind.cell) else (n, k)).lookup x = some .free
  | [], _, h => by simp at h
  | (n, k) :: r, x, h => by
    have ih := @lookup_relabel_free env r x
    rw [List.map_cons]
    rw [List.lookup_cons] at h
    by_cases hc : (k == NameKind.free && env.scope.kind == .function && env.kindOf n == some .cell) = true
    · dsimp only
      rw [if_pos hc, List.lookup_cons]
      cases hx : x == n with
      | true => exact .inl rfl
      | false => rw [hx] at h; exact ih h
    · dsimp only
      rw [if_neg hc, List.lookup_cons]
      cases hx : x == n with
      | true => rw [hx] at h; cases h; exact .inr rfl
      | false => rw [hx] at h; exact ih h
/-- one turn of the loop, the letting go of the iterator's own tuple within -/
theorem compLoop_any {prog : Program} {w : World} {A : Around} {R : Result → Shared → Prop} {s : Shared} {elt target iter : Expr} {scope : Scope} {pos : Pos} {it acc : Value} {env : Env} (I : Nat → Shared → Prop)
    (turn : ∀ n s, I n s → wpAny (model prog w) A (pyNext it) (fun r s₁ => match r with
      | none => R (.ok .next) s₁
      | some v => wpAny (model prog w) A (letOwnedTupleGo target it v) (fun _ s₂ => wpAny (model prog w) A (assign target env v) (fun _ s₃ => wpAny (model prog w) A (eval elt env) (fun x s₄ =>
          wpAny (model prog w) A (call (.builtin "list.append") [acc, x]) (fun _ s₅ => ∃ m, m < n ∧ I m s₅) (fun _ _ => False) s₄) (fun _ _ => False) s₃) (fun _ _ => False) s₂) (fun _ _ => False) s₁) (fun _ _ => False) s)
    (n : Nat) (h : I n s) : codeAny (model prog w) A (.compLoop (.ListComp elt [⟨target, iter, [], 0⟩] scope pos) 0 it acc env) R s := by
  have nv : ∀ {α : Type} {t : Sem α} {Q Q' : α → Shared → Prop} {E : Value → Shared → Prop} {s : Shared}, wpAny (model prog w) A t Q (fun _ _ => False) s → (∀ a s, Q a s → Q' a s) → wpAny (model prog w) A t Q' E s := fun h hq => wpAny_mono h hq fun _ _ f => f.elim
  refine codeAny_loop rfl I (fun n s hI => ?_) n h
  show wpAny _ _ ((compTurn (.ListComp elt [⟨target, iter, [], 0⟩] scope pos) 0 it acc env).onRaise (fun x => do noteFrame x env; theTreesLotGoes x)) _ _ s
  refine wpAny_noted ?_
  rw [compTurn_list1]
  refine wpAny_bind (wpAny_standAt (wpAny_bind (nv (turn n s hI) fun r s₁ h₁ => ?_)))
  cases r with
  | none => exact wpAny_pure h₁
  | some v =>
    exact wpAny_bind (nv h₁ fun _ s₂ h₂ => wpAny_bind (nv h₂ fun _ s₃ h₃ => wpAny_bind (wpAny_bind (nv h₃ fun x s₄ h₄ => wpAny_bind (nv h₄ fun _ s₅ h₅ => wpAny_pure (wpAny_pure ⟨rfl, h₅⟩))))))
/-- the names of a comprehension's block: sc, NX are the scope and the names of the frame around it; fr: the names it takes from there, each with its slot -/
structure CompSc (sc : Scope) (NX : List Str) (scope : Scope) (fr : List (Str × Nat)) : Prop where
  kind : scope.kind = .function
  cell : ∀ y ∈ scope.names, y.2 ≠ .cell
  loc : ∀ y ∈ scope.names, y.2 = .local → scope.names.lookup y.1 = some .local
  free : ∀ y ∈ scope.names, y.2 = .free → sc.names.lookup y.1 = some .cell ∨ sc.names.lookup y.1 = some .free
  frN : ∀ p ∈ fr, NX[p.2]? = some p.1 ∧ scope.names.lookup p.1 = some .free ∧ (sc.names.lookup p.1 = some .cell ∨ sc.names.lookup p.1 = some .free)
/-- the context of the block: s, H the state and the abstract heap when it is entered, fp the iterator's own objects -/
def cxComp (X : Cx) (scope : Scope) (N : List Str) (s : Shared) (H : Hp) (fp : List Addr) : Cx where
  prog := X.prog
  w := X.w
  K := X.K
  mg := X.mg
  base := X.base
  A := X.A
  N := N
  s₀ := s
  H₀ := H
  env := compEnvC scope (clOf X.env.cells scope.names []) s.heap.objs.size X.env
  outer := X.stack
  stack := X.stack
  ex := fp
  fn := fun _ => false
  calm := X.calm
  pn := []
  xe := fun _ _ => False
/-- the block's values at its begin -/
def compSt (k : Nat) (fr : List (Str × Nat)) (σ : St) : St := List.replicate k none ++ fr.map fun p => (σ[p.2]?).getD none
def tComp (k : Nat) (fr : List (Str × Nat)) (wi : TI) (g : TG) (te : TE) : TE := fun σ H Q => wi σ H fun J H1 => ∀ l, H1 l = none →
  ∃ W : Nat → Nat → St → Hp → Prop, (∃ m, W 0 m (compSt k fr σ) (upd H1 l (.lst []))) ∧ ∀ i m σ' H', W i m σ' H' →
    (J.stop i H' ∧ Q (.ref l) H') ∨ (J.go i H' ∧ ∃ N : St → Hp → Prop, (∀ σ2 H2, N σ2 H2 → ∃ m', m' < m ∧ W (i + 1) m' σ2 H2) ∧
      ∀ x H2, J.yld i H' x H2 → g x σ' H2 fun σ3 H3 => te σ3 H3 fun y H4 => ∃ ys, H4 l = some (.lst ys) ∧ ys.length < sizeLine ∧ N σ3 (upd H4 l (.lst (ys ++ [y]))))
section
variable {X : Cx} {tg iter elt : Expr} {scope : Scope} {pos : Pos} {wi : TI} {g : TG} {te : TE} {own : List Str} {fr : List (Str × Nat)} {sc : Scope} {NX : List Str}
theorem compInv {pins : List (Addr × Obj)} {σ : St} {H : Hp} {s : Shared} {h1 : Heap} {fp : List Addr} {tk : Nat} (hsc : X.env.scope = sc) (hNX : X.N = NX) (S : CompSc sc NX scope fr) (I : Inv X pins σ H s)
    (hfp : ∀ b ∈ fp, FpOk X pins H b ∧ b < s.heap.objs.size) (hns : h1.Ns s.heap.objs.size (fun _ => none)) (keep : ∀ b o, s.heap.get? b = some o → h1.get? b = some o) :
    Inv (cxComp X scope (own ++ fr.map (·.1)) s H fp) [] (compSt own.length fr σ) H { s with heap := h1, toks := tk } := by
  have hfree : ∀ y ∈ scope.names, y.2 = .free → ∃ c, X.env.cells.lookup y.1 = some c := fun y hy e => I.ok.has y.1 (by have z := S.free y hy e; rw [← hsc] at z; exact z)
  have hcl : ∀ x c, (clOf X.env.cells scope.names []).lookup x = some c → X.env.cells.lookup x = some c := fun x c e => by
    rcases clOf_lookup scope.names [] hfree e with z | z
    · simp at z
    · exact z
  have ok : (cxComp X scope (own ++ fr.map (·.1)) s H fp).Ok :=
    { mod := I.ok.mod
      kind := S.kind
      glob := I.ok.glob
      blt := I.ok.blt
      above := Nat.le_refl _
      inj := fun x y c h1 h2 => I.ok.inj x y c (hcl x c h1) (hcl y c h2)
      has := fun x hx => clOf_has scope.names [] (.inl (relabel_free hx S.cell))
      cab := fun x c hx => nomatch hx
      hd := I.ok.hd
      frames := I.ok.frames
      stk := .inl rfl
      exf := fun b hb => ⟨Nat.ne_of_lt (hfp b hb).2, fun x c e => (hfp b hb).1.2.2.2.2.1 x c (hcl x c e)⟩
      bs := I.bs
      bsz := Nat.le_trans I.ok.bsz I.sz
      noex := fun b o e hb => by
        rcases (hfp b hb).1.2.2.2.1 with z | z
        · exact I.ok.noex b o e z
        · exact absurd (Nat.lt_of_lt_of_le (Heap.lt_size (I.ok.bs b o e).1) z) (Nat.lt_irrefl _)
      exfs := fun b hb z => (List.mem_cons.mp (I.stkSub b z)).elim (hfp b hb).1.2.1 (hfp b hb).1.2.2.1
      funs := I.stack
      frf := I.stkFree }
  refine ⟨ok, rfl, I.bare, Un.kept keep, ⟨_, hns, fun i x v e1 e2 e3 => ?_⟩, fun x c e => ?_, I.hok.fresh (Nat.le_refl _), fun x c e => I.freeC x c (hcl x c e), fun p hp => absurd (show p ∈ ([] : List (Addr × Obj)) from hp) (by simp), I.hok.kept keep, ?_⟩
  · have e2' : (List.replicate own.length none ++ fr.map fun p => (σ[p.2]?).getD none)[i]? = some (some v) := e2
    have e1' : (own ++ fr.map (·.1))[i]? = some x := e1
    by_cases hi : i < own.length
    · rw [List.getElem?_append_left (by simpa using hi), List.getElem?_replicate, if_pos hi] at e2'
      cases e2'
    · rw [List.getElem?_append_right (by simpa using hi), List.length_replicate, List.getElem?_map] at e2'
      rw [List.getElem?_append_right (by omega), List.getElem?_map] at e1'
      cases ef : fr[i - own.length]? with
      | none => rw [ef] at e1'; cases e1'
      | some p =>
        rw [ef] at e1' e2'
        have hx : p.1 = x := Option.some.inj e1'
        have hv : (σ[p.2]?).getD none = some v := Option.some.inj e2'
        have hs : σ[p.2]? = some (some v) := by
          cases eo : σ[p.2]? with
          | none => rw [eo] at hv; cases hv
          | some o => rw [eo] at hv; exact congrArg some hv
        obtain ⟨f1, f2, f3⟩ := S.frN p (List.mem_of_getElem? ef)
        subst hx
        obtain ⟨m, hn, hl⟩ := I.loc
        have f3' : X.env.kindOf p.1 = some .cell ∨ X.env.kindOf p.1 = some .free := by rw [← hsc] at f3; exact f3
        obtain ⟨u, ru, lk⟩ := hl p.2 p.1 v (by rw [hNX]; exact f1) hs (.inr f3')
        refine ⟨u, ru, .inr ⟨lookup_relabel_free f2, ?_⟩⟩
        rcases lk with ⟨k, _⟩ | ⟨_, c, ec, ic⟩
        · rcases f3' with z | z <;> · rw [k] at z; cases z
        · obtain ⟨c', ec'⟩ := clOf_has (cells := X.env.cells) (x := p.1) scope.names [] (.inl (PySem.mem_of_lookup f2))
          have := hcl _ _ ec'
          rw [ec] at this
          cases this
          exact ⟨c, ec', ic.keeps keep⟩
  · obtain ⟨v, z⟩ := I.cell x c (hcl x c e)
    exact ⟨v, z.keeps keep⟩
  · show (List.replicate own.length none ++ fr.map fun (p : Str × Nat) => (σ[p.2]?).getD none).length = (own ++ fr.map (·.1)).length
    simp
/-- [elt for tg in iter] -/
theorem pe_comp (hsc : X.env.scope = sc) (hNX : X.N = NX) (S : CompSc sc NX scope fr) (hc : X.calm = true) (hi : PI X tg iter wi)
    (hg : ∀ (s : Shared) (H : Hp) (fp : List Addr), PG (cxComp X scope (own ++ fr.map (·.1)) s H fp) tg g)
    (he : ∀ (s : Shared) (H : Hp) (fp : List Addr), PE (cxComp X scope (own ++ fr.map (·.1)) s H fp) elt te)
    (hs : ∀ x, foldedSetIterable iter X.env x = pure x := by intro _; rfl) : PE X (.ListComp elt [⟨tg, iter, [], 0⟩] scope pos) (tComp own.length fr wi g te) := by
  intro pins s σ H Q I h
  have hfree : ∀ y ∈ scope.names, y.2 = .free → ∃ c, X.env.cells.lookup y.1 = some c := fun y hy e => I.ok.has y.1 (by have z := S.free y hy e; rw [← hsc] at z; exact z)
  rw [eval_ListComp]
  refine wpAny_comprehension_free (use := none) rfl hs (closure_clOf hfree) S.kind S.loc (thn (hi pins s σ H _ I h) fun v s1 h1 => thn h1 fun itv s2 h2 => ?_)
  obtain ⟨it, fp, tn, J, H2, e, I2, T, st2, f2, R⟩ := h2
  subst e
  have fpl : ∀ b ∈ fp, b < s2.heap.objs.size := fun b hb => by
    obtain ⟨o, e, _⟩ := T.obj _ _ st2 b hb
    exact Heap.lt_size e
  obtain ⟨W, ⟨m0, w0⟩, turn⟩ := R s2.heap.objs.size I2.fresh
  refine wpAny_newList ?_ (Nat.zero_le _)
  have I3 : Inv X pins σ (upd H2 s2.heap.objs.size (.lst [])) { s2 with heap := s2.heap.push { cls := .type "list", data := .seq ([] : List Value).toArray } } := I2.lnew (its := []) (t' := s2.toks) .nil (Nat.zero_le _)
  have k23 : ∀ b o, s2.heap.get? b = some o → (s2.heap.push { cls := .type "list", data := .seq ([] : List Value).toArray }).get? b = some o := fun b o q => Heap.get?_push_of_some _ q
  have sz23 : s2.heap.objs.size ≤ (s2.heap.push { cls := .type "list", data := .seq ([] : List Value).toArray }).objs.size := by rw [Heap.size_push]; exact Nat.le_succ _
  generalize hh3 : s2.heap.push { cls := .type "list", data := .seq ([] : List Value).toArray } = h3 at I3 k23 sz23 ⊢
  generalize hl : s2.heap.objs.size = l at *
  have f3 : ∀ b ∈ fp, FpOk X pins (upd H2 l (.lst [])) b ∧ b < h3.objs.size := fun b hb => by
    have hb' := fpl b hb
    refine ⟨⟨?_, (f2 b hb).2⟩, Nat.lt_of_lt_of_le hb' sz23⟩
    rw [upd_ne (Nat.ne_of_lt hb')]
    exact (f2 b hb).1
  refine wpAny_newFunctionEnv S.cell (by intro y hy; simp at hy) (fun h4 hns hsb => ?_) S.kind
  have k34 : ∀ b o, h3.get? b = some o → h4.get? b = some o := fun b o q => hsb.extBut b o (Nat.ne_of_lt (Heap.lt_size q)) (Heap.get?_push_of_some _ q)
  have I4 : Inv (cxComp X scope (own ++ fr.map (·.1)) { s2 with heap := h3 } (upd H2 l (.lst [])) fp) [] (compSt own.length fr σ) (upd H2 l (.lst [])) { s2 with heap := h4, toks := s2.toks + ([] : List (Str × Value)).length } :=
    compInv (s := { s2 with heap := h3 }) (h1 := h4) hsc hNX S I3 f3 hns k34
  have st4 : tn 0 h4 := T.keep _ _ _ st2 fun b _ o q => k34 b o (k23 b o q)
  have nofs : ∀ b ∈ fp, b ∉ frs X.stack := fun b hb z => (List.mem_cons.mp (I3.stkSub b z)).elim (f3 b hb).1.2.1 (f3 b hb).1.2.2.1
  have hfree' := hfree
  have hcl : ∀ x c, (clOf X.env.cells scope.names []).lookup x = some c → X.env.cells.lookup x = some c := fun x c e => by
    rcases clOf_lookup scope.names [] hfree e with z | z
    · simp at z
    · exact z
  have stat : ∀ {H' : Hp}, (∀ b ∈ fp, H' b = none) → ∀ b ∈ fp, FpOk (cxComp X scope (own ++ fr.map (·.1)) { s2 with heap := h3 } (upd H2 l (.lst [])) fp) [] H' b := fun hn b hb =>
    ⟨hn b hb, Nat.ne_of_lt (f3 b hb).2, nofs b hb, .inl hb, fun x c e => (f3 b hb).1.2.2.2.2.1 x c (hcl x c e), fun p hp => absurd (show p ∈ ([] : List (Addr × Obj)) from hp) (by simp)⟩
  have loop : codeAny (model X.prog X.w) X.A (.compLoop (.ListComp elt [⟨tg, iter, [], 0⟩] scope pos) 0 (.ref it) (.ref l) (compEnvC scope (clOf X.env.cells scope.names []) h3.objs.size X.env))
      (compPost (model X.prog X.w) X.A X.xe none (EP X pins σ Q) (.ref l) h3.objs.size) { s2 with heap := h4, toks := s2.toks + ([] : List (Str × Value)).length } := by
    refine compLoop_any (fun n s' => ∃ i σ' H', Inv (cxComp X scope (own ++ fr.map (·.1)) { s2 with heap := h3 } (upd H2 l (.lst [])) fp) [] σ' H' s' ∧ tn i s'.heap ∧ (∀ b ∈ fp, H' b = none) ∧ W i n σ' H') ?_ m0
      ⟨0, _, _, I4, st4, fun b hb => (f3 b hb).1.1, w0⟩
    rintro n s5 ⟨i, σ5, H5, I5, st5, fr5, w5⟩
    rcases turn i n σ5 H5 w5 with ⟨stop, q⟩ | ⟨go, N', hN', step⟩
    · refine thn (T.done (cxComp X scope (own ++ fr.map (·.1)) { s2 with heap := h3 } (upd H2 l (.lst [])) fp) rfl rfl rfl hc i [] s5 σ5 H5 _ I5 (stat fr5) st5 stop) fun r s6 ⟨hr, I6⟩ => ?_
      subst hr
      obtain ⟨m, hn, _⟩ := I6.loc
      refine ⟨m, hn, fun h' sb => ⟨.ref l, H5, ?_, rfl, q⟩⟩
      have hb6 : Un (frs X.stack) fp (upd H2 l (.lst [])) H5 h3 s6.heap := I6.base
      have hC : H5 h3.objs.size = none := I6.free
      have ne3 : ∀ b o, h3.get? b = some o → b ≠ h3.objs.size := fun b o e => Nat.ne_of_lt (Heap.lt_size e)
      refine I3.call' (s' := { s6 with heap := h' }) (ch := fp) I6.os ⟨fun b o e n hb hx => ?_, fun b o e n hb hx => ?_, fun b o e n hx => hb6.free b o e n hx, fun b o e hx => ?_, hb6.tups, hb6.frzs, hb6.tbls⟩ (fun a o e => ?_) I6.bare
        fun b hb => ⟨(f3 b hb).1.2.2.2.1, (f3 b hb).1.2.1, (f3 b hb).1.2.2.2.2.1, (f3 b hb).1.2.2.2.2.2⟩
      · exact sb.extBut b o (ne3 b o e) (hb6.keep b o e n hb hx)
      · obtain ⟨sl, z⟩ := hb6.slot b o e n hb hx
        exact ⟨sl, sb.extBut b _ (ne3 b o e) z⟩
      · obtain ⟨o', z⟩ := hb6.there b o e hx
        exact ⟨o', sb.extBut b _ (ne3 b o e) z⟩
      · refine (I6.hok a o e).stay (fun b u hb z => sb.extBut b u ?_ z) (fun _ z => z) fun _ _ z => z
        rintro rfl
        rcases hb with z | z
        · rw [← z, hC] at e; cases e
        · rw [hC] at z; cases z
    · refine thn (T.item (cxComp X scope (own ++ fr.map (·.1)) { s2 with heap := h3 } (upd H2 l (.lst [])) fp) rfl rfl rfl hc i [] s5 σ5 H5 _ I5 (stat fr5) st5 go) fun r s6 ⟨u, hr, h6⟩ => ?_
      subst hr
      refine thn h6 fun _ s7 ⟨x, H7, I7, r7, y7, st7, fr7⟩ => ?_
      have I7' := I7.pinned (stat fr7) (T.obj _ _ st7)
      refine thn (hg _ _ _ _ s7 σ5 H7 x u _ I7' r7 (step x H7 y7)) fun _ s8 ⟨σ8, H8, I8, q8⟩ => ?_
      refine thn (he _ _ _ _ s8 σ8 H8 _ I8 q8) fun v s9 ⟨y, H9, I9, r9, ys, hl9, hz9, n9⟩ => ?_
      refine thn (mt_append _ s9 σ8 H9 (.ref l) [y] (.ref l) [v] (fun _ H' => H' = upd H9 l (.lst (ys ++ [y]))) I9 rfl (.cons r9 .nil) ⟨l, ys, y, rfl, rfl, hl9, hz9, rfl⟩) fun _ s10 ⟨z, H10, I10, _, e10⟩ => ?_
      subst e10
      obtain ⟨m', hm, w10⟩ := hN' _ _ n9
      refine ⟨m', hm, i + 1, σ8, _, I10.unpinned, T.keep _ _ _ st7 fun b hb o e => (I10.pin (b, o) (List.mem_append_right _ (List.mem_append_right _ (mem_pinsAt hb e)))).1, fun b hb => ?_, w10⟩
      obtain ⟨o, e, d⟩ := T.obj _ _ st7 b hb
      exact (I10.pin (b, o) (List.mem_append_right _ (List.mem_append_right _ (mem_pinsAt hb e)))).2.1
  exact codeAny_compStart_list loop (T.self _ 0 _ _ _ st4 loop)
end
end L2
namespace L2
open PySem PySem.Spec PyProof.Rows
section
variable {X : Cx}
theorem kt {K : PySem.W.Frag} {T c : String} {b : Bool} (h : (if (Value.type T == Value.type c) = true then some true else if PySem.W.kitMeta c = true then (fastBuiltinMro T).map (·.contains (Value.type c)) else none) = some b) :
    PySem.W.kitOne K (.type T) (.type c) = some b := h
theorem pe_ty {x : Str} {T : String} {pos : Pos} (hg : Gl X x) (hm : X.mg x = none) (hv : bootBuiltins x = some (.type T)) (hn : x ≠ "__name__" := by decide) (hd : (x == ("__debug__" : Str)) = false := by decide) : PE X (.Name x pos) (tC (.ty T)) :=
  pe_bltn hg hm hv rfl hn hd
theorem call_isinst : CallR X (.builtin "isinstance") (fun xs H Q => ∃ (x : V) (T U : String) (b : Bool), xs = [x, .ty T] ∧ TyOf X.K H x (.type U) ∧ PySem.W.kitOne X.K (.type U) (.type T) = some b ∧ Q (.bl b) H) := by
  intro pins s σ H xs us Q I r h
  obtain ⟨x, T, U, b, rfl, ty, e, q⟩ := h
  obtain ⟨u, v, rfl, ru, rv⟩ := vals2 r
  cases rv
  exact isinst_ok I ru ty e fun tk => ⟨.bl b, H, I.tok tk, rfl, q⟩
/-- all([..]) of truths -/
theorem call_all (hc : X.calm = true) : CallR X (.builtin "all") (fun xs H Q => ∃ (l : Addr) (bs : List Bool), xs = [.ref l] ∧ SqL X.K H l (bs.map V.bl) ∧ Q (.bl (bs.all id)) H) := by
  intro pins s σ H xs us Q I r h
  obtain ⟨l, bs, rfl, hl, q⟩ := h
  obtain ⟨u, rfl, ru⟩ := vals1 r
  cases ru
  obtain ⟨its, rv, pl, hz⟩ := I.list hl
  have hb : ∀ {its : List Value} {bs : List Bool}, Vals (bs.map V.bl) its → LSm.BoolsAre its bs := by
    intro its bs
    induction bs generalizing its with
    | nil => intro r; rw [List.map_nil] at r; cases r; exact .nil
    | cons b bs ih =>
      intro r
      rw [List.map_cons] at r
      cases r with
      | cons r1 r2 => cases r1; exact .cons b (ih r2)
  have hb := hb rv
  have hl' : s.heap.IsList l its.toArray := pl.isList
  have hlt : l < s.heap.objs.size := by obtain ⟨_, e, _⟩ := hl'; exact Heap.lt_size e
  refine call_all_walk (wpAny_pyIter_list hl' ?_)
  refine ⟨s.heap.objs.size, [s.heap.objs.size, l], [s.heap.objs.size], its.toArray.size, _, _, fun i => (bs[i]?).getD true, rfl, Walks.list (A := X.A.in1) (I.ok.hd hc) _ l (Nat.ne_of_lt hlt) its.toArray,
    ⟨⟨_, Heap.get?_push_size _ rfl, rfl, rfl⟩, hl'.push _⟩, fun i v s' Q' E' hP hQ => ?_, fun h' tk hk => ?_⟩
  · obtain ⟨b, e, rfl⟩ := hb.get i v (by simpa using hP)
    simp only [e, Option.getD_some] at hQ
    exact wpAny_truthy_bool hQ
  · have e : ((List.range its.toArray.size).all fun i => (bs[i]?).getD true) = bs.all id := by
      rw [List.size_toArray, hb.length]; exact LSm.range_all bs
    rw [e]
    exact ⟨.bl (bs.all id), H, I.kept (t' := tk) (LSm.kept_iter hk), rfl, q⟩
end
theorem Same.upd {H H' : Hp} {l : Addr} {o : HO} (e : Same H H') (h : H' l = Option.none) : Same H (upd H' l o) := fun b u q => by
  have z := e b u q
  rw [upd_ne (ne_of_none z h)]
  exact z
end L2
namespace HT
open PySem PyProof.Rows
section
variable {prog : Program} {w : World} {A : Around} {E : Value → Shared → Prop} {s : Shared}
/-- () + u is u -/
theorem cat_tup0 {t b : Addr} {ws : List Value} {Q : Value → Shared → Prop} (ht : IsTup s.heap t ([] : List Value).toArray) (hb : IsTup s.heap b ws.toArray) (h : Q (.ref b) s) : wpAny (model prog w) A (binaryOp .Add (.ref t) (.ref b)) Q E s := by
  obtain ⟨⟨cls, dd, data, sl⟩, ho, hc, n, hd⟩ := id ht
  obtain ⟨⟨cls2, dd2, data2, sl2⟩, ho2, hc2, n2, hd2⟩ := id hb
  simp only at hc hd hc2 hd2
  subst hc hd hc2 hd2
  exact concat_meets ⟨_, ho, rfl⟩ ⟨_, ho2, rfl⟩ noFill_tuple_add seq_tuple_add PySem.F.slot_tuple_add PySem.F.entry_tuple_add (PySem.F.args_tuple_add_2 _ _)
    (tuple_addW0 t b ([] : List Value).toArray ws.toArray n n2 dd dd2 sl sl2 (by simp)) ⟨ho, ho2, h⟩
/-- the whole of a tuple is that tuple -/
theorem getItem_tuple_whole {t sl : Addr} {items : Array Value} {vl vu : Value} {lo hi : Option Int} {Q : Value → Shared → Prop} (ht : IsTup s.heap t items) (hs : s.heap.IsSliceOf sl vl vu .none) (pl : IsPart vl lo) (pu : IsPart vu hi)
    (h0 : sIx items.size 0 lo = 0) (h1 : sIx items.size items.size hi = items.size) (h : Q (.ref t) s) : wpAny (model prog w) A (getItem (.ref t) (.ref sl)) Q E s := by
  obtain ⟨os, hos, hcs, hds⟩ := id hs
  have hTs : s.TypeIs (.ref sl) "slice" := ⟨os, hos, hcs⟩
  unfold getItem
  try with_reducible refine wpAny_holding ?_
  first | refine wpAny_bind (wpAny_pure ?_) | skip
  refine wpAny_bind (wpAny_sequenceKey ht.typeIs (by decide) ?_)
  refine wpAny_bind (wpAny_callSpecial?_slot (name := Str.ofString "__getitem__") ht.typeIs PyProof.Rows.slot_tuple_getitem
    (wpAny_call_entry PyProof.Rows.slot_tuple_getitem ht.typeIs entry_tuple_getitem ?_ (args_tuple_getitem _ _)))
  show wpAny _ _ (Builtin.Tuple.tupleItemsOf (.ref t) >>= _) _ _ s
  refine wpAny_bind (tupleItemsOf_ ht ?_)
  refine wpAny_bind (wpAny_typeOf hTs ?_)
  rw [if_pos (by decide)]
  refine wpAny_bind (sliceApplied_gen hs pl pu ?_)
  rw [h0, h1]
  show wpAny _ _ (if ((((0 : Nat) : Int) == 0 && (1 : Int) == 1 && (items.size - 0) == items.size)) = true then _ else _) _ _ s
  rw [if_pos (by simp)]
  refine wpAny_bind (m := Builtin.Tuple.tupleIsExact _) (wpAny_bind (wpAny_typeOf ht.typeIs (wpAny_pure ?_)))
  show wpAny _ _ (if (Value.type "tuple" == Value.type "tuple") = true then _ else _) _ _ s
  rw [if_pos (by decide)]
  first
    | exact wpAny_bind (wpAny_rule (wpAny_bind (wpAny_pure (wpAny_pure ⟨_, rfl, wpAny_pure h⟩))))
    | exact wpAny_bind (wpAny_rule (wpAny_pure ⟨_, rfl, wpAny_pure h⟩))
    | exact wpAny_bind (wpAny_rule (wpAny_bind (wpAny_pure ⟨_, rfl, wpAny_pure h⟩)))
    | exact wpAny_bind (wpAny_bind (wpAny_rule (wpAny_pure (wpAny_pure ⟨_, rfl, wpAny_pure h⟩))))
    | exact wpAny_bind (wpAny_rule (wpAny_bind (wpAny_pure (wpAny_bind (wpAny_pure (wpAny_pure ⟨_, rfl, wpAny_pure h⟩))))))
end
end HT
namespace L2
open PySem PySem.Spec PyProof.Rows
section
variable {X : Cx} {pos : Pos}
theorem dk_empty {P : Program} {w : World} {H : Hp} (h : Heap) (hb : sysModules < h.objs.size) : ObjOk P w H (h.push { cls := .type "dict", data := .dict #[] }) h.objs.size (.dK []) :=
  ⟨Nat.zero_le _, beq_eq_false_iff_ne.mpr (Ne.symm (Nat.ne_of_lt hb)), [], .nil, Heap.DictOf.new h⟩
theorem Inv.big {pins : List (Addr × Obj)} {σ : St} {H : Hp} {s : Shared} (I : Inv X pins σ H s) : sysModules < s.heap.objs.size := by
  have h : mainGlobals < s.heap.objs.size := (I.mod.glob.keeps I.bk).lt
  exact Nat.lt_trans (by decide) h
def tDNewK : TE := fun _ H Q => ∀ p, H p = none → Q (.ref p) (upd H p (.dK []))
theorem pe_dnewK : PE X (.Dict [] [] pos) tDNewK := fun pins s σ H Q I h =>
  wpAny_Dict_empty ⟨.ref s.heap.objs.size, _, I.laid (a := s.heap.objs.size) (o := .dK []) (t' := s.toks) (fun _ _ q => Heap.get?_push_of_some _ q) (Nat.le_refl _) (dk_empty s.heap I.big), rfl, h _ (I.hok.fresh (Nat.le_refl _))⟩
/-- t + u of two tracked tuples, whichever object it is -/
def rCatH : R2 := fun x y H Q => ∃ a b xs ys, x = .ref a ∧ y = .ref b ∧ H a = some (.tup xs) ∧ H b = some (.tup ys) ∧ xs.length + ys.length ≤ sizeLine ∧ ∀ p H', Same H H' → H' p = some (.tup (xs ++ ys)) → Q (.ref p) H'
theorem op_catH : OpR X (binaryOp .Add) rCatH := by
  intro pins s σ H x y v u Q I rx ry h
  obtain ⟨a, b, xs, ys, rfl, rfl, ha, hb, hz, q⟩ := h
  by_cases hx : xs = []
  · subst hx
    cases rx
    cases ry
    obtain ⟨its, r1, p1, _⟩ := I.tuple (SqT.of (K := X.K) ha)
    obtain ⟨its2, r2, p2, _⟩ := I.tuple (SqT.of (K := X.K) hb)
    cases r1
    exact HT.cat_tup0 p1 p2 ⟨.ref b, H, I, rfl, q b H (Same.refl H) (by simpa using hb)⟩
  · refine op_catT pins s σ H _ _ v u Q I rx ry ⟨a, b, xs, ys, rfl, rfl, SqT.of ha, SqT.of hb, hx, hz, fun hy => ?_, fun hy p hp => ?_⟩
    · subst hy
      exact q a H (Same.refl H) (by simpa using ha)
    · exact q p _ ((Same.refl H).upd hp) upd_same
/-- t[lo:hi] of a tracked tuple, whichever object it is -/
def rSlH : V → Option Int → Option Int → Hp → VK → Prop := fun x lo hi H Q => ∃ a xs, x = .ref a ∧ H a = some (.tup xs) ∧ ∀ p H', Same H H' → H' p = some (.tup (cutV xs lo hi)) → Q (.ref p) H'
theorem sl_tupH : SlR X rSlH := by
  intro pins s σ H x v vl vu lo hi sl Q I rx hs pl pu h
  obtain ⟨a, xs, rfl, ha, q⟩ := h
  by_cases hw : HT.sIx xs.length 0 lo = 0 ∧ HT.sIx xs.length xs.length hi = xs.length
  · cases rx
    obtain ⟨its, r, ht, hz⟩ := I.tuple (SqT.of (K := X.K) ha)
    have hlen : its.toArray.size = xs.length := by rw [List.size_toArray]; exact r.length.symm
    refine ⟨"tuple", _, PyProof.Rows.slot_tuple_getitem.lookup, ht.typeIs, ?_⟩
    refine HT.getItem_tuple_whole ht hs pl pu (by rw [hlen]; exact hw.1) (by rw [hlen]; exact hw.2) ⟨.ref a, H, I, rfl, q a H (Same.refl H) ?_⟩
    rw [ha, cutV, hw.1, hw.2]
    simp
  · exact sl_tup pins s σ H _ v vl vu lo hi sl Q I rx hs pl pu ⟨a, xs, rfl, SqT.of ha, hw, fun p hp => q p _ ((Same.refl H).upd hp) upd_same⟩
end
theorem cutV_take (xs : List V) (k : Nat) : cutV xs none (some (k : Int)) = xs.take k := by
  rw [cutV, HT.sIx_none, HT.sIx_nat, List.drop_zero, Nat.sub_zero]
  by_cases h : k ≤ xs.length
  · rw [Nat.min_eq_left h]
  · rw [Nat.min_eq_right (by omega), List.take_length, List.take_of_length_le (by omega)]
end L2
namespace LtL
open PySem PyProof.Rows
open PySem.SeqAt
open PySem.AutoSeq1 (wpAny_loadPart')
open PySem.MeetsSeq PySem.MeetsSeq2 PySem.MeetsSeq3 PySem.SeqRoads2
end LtL
namespace L2
open PySem PySem.Spec PyProof.Rows
end L2
namespace L2
open PySem PySem.Spec PyProof.Rows
section
variable {X : Cx} {tg iter elt : Expr} {scope : Scope} {pos : Pos} {wi : TI} {g : TG} {te : TE} {own : List Str} {fr : List (Str × Nat)} {sc : Scope} {NX : List Str}
/-- y = [elt for tg in iter]: the store comes ahead of the block's end -/
theorem ps_comp {i : Nat} {y : Str} {py spos : Pos} (hN : X.N.Nodup) (hi' : X.N[i]? = some y) (hy : Loc X.env.scope y) (hsc : X.env.scope = sc) (hNX : X.N = NX) (S : CompSc sc NX scope fr) (hc : X.calm = true) (hi : PI X tg iter wi)
    (hg : ∀ (s : Shared) (H : Hp) (fp : List Addr), PG (cxComp X scope (own ++ fr.map (·.1)) s H fp) tg g)
    (he : ∀ (s : Shared) (H : Hp) (fp : List Addr), PE (cxComp X scope (own ++ fr.map (·.1)) s H fp) elt te)
    (hsw : swapsWith (.ListComp elt [⟨tg, iter, [], 0⟩] scope pos) (some (.Name y py)) spos.line X.env = pure true := by rfl)
    (hs : ∀ x, foldedSetIterable iter X.env x = pure x := by intro _; rfl) (hf : X.fn y = true ∨ X.env.scope.names.lookup y = some .local := by first | exact .inl rfl | exact .inr rfl | assumption) :
    PS X (.Assign [.Name y py] (.ListComp elt [⟨tg, iter, [], 0⟩] scope pos) spos) (tAsg (tComp own.length fr wi g te) (gName i)) := by
  intro pins s σ H D I h
  have hfree : ∀ y ∈ scope.names, y.2 = .free → ∃ c, X.env.cells.lookup y.1 = some c := fun y hy e => I.ok.has y.1 (by have z := S.free y hy e; rw [← hsc] at z; exact z)
  rw [exec_Assign_Name_used _ _ _ _ hsw]
  refine wpAny_bind (wpAny_standAt (wpAny_bind ?_))
  show wpAny _ X.A (do let _ ← comprehension (.ListComp elt [⟨tg, iter, [], 0⟩] scope pos) scope X.env _ (newList []) false (eval iter X.env) (some (assign (.Name y py) X.env))) _ _ s
  refine wpAny_bind (wpAny_mono (wpAny_comprehension_free (use := some (assign (.Name y py) X.env)) (Q := fun _ s' => SP X pins D .next s') rfl hs (closure_clOf hfree) S.kind S.loc (thn (hi pins s σ H _ I h) fun v s1 h1 => thn h1 fun itv s2 h2 => ?_)) (fun _ s' hq => wpAny_pure (wpAny_pure hq)) fun _ _ e => e)
  obtain ⟨it, fp, tn, J, H2, e, I2, T, st2, f2, R⟩ := h2
  subst e
  have fpl : ∀ b ∈ fp, b < s2.heap.objs.size := fun b hb => by
    obtain ⟨o, e, _⟩ := T.obj _ _ st2 b hb
    exact Heap.lt_size e
  obtain ⟨W, ⟨m0, w0⟩, turn⟩ := R s2.heap.objs.size I2.fresh
  refine wpAny_newList ?_ (Nat.zero_le _)
  have I3 : Inv X pins σ (upd H2 s2.heap.objs.size (.lst [])) { s2 with heap := s2.heap.push { cls := .type "list", data := .seq ([] : List Value).toArray } } := I2.lnew (its := []) (t' := s2.toks) .nil (Nat.zero_le _)
  have k23 : ∀ b o, s2.heap.get? b = some o → (s2.heap.push { cls := .type "list", data := .seq ([] : List Value).toArray }).get? b = some o := fun b o q => Heap.get?_push_of_some _ q
  have sz23 : s2.heap.objs.size ≤ (s2.heap.push { cls := .type "list", data := .seq ([] : List Value).toArray }).objs.size := by rw [Heap.size_push]; exact Nat.le_succ _
  generalize hh3 : s2.heap.push { cls := .type "list", data := .seq ([] : List Value).toArray } = h3 at I3 k23 sz23 ⊢
  generalize hl : s2.heap.objs.size = l at *
  have f3 : ∀ b ∈ fp, FpOk X pins (upd H2 l (.lst [])) b ∧ b < h3.objs.size := fun b hb => by
    have hb' := fpl b hb
    refine ⟨⟨?_, (f2 b hb).2⟩, Nat.lt_of_lt_of_le hb' sz23⟩
    rw [upd_ne (Nat.ne_of_lt hb')]
    exact (f2 b hb).1
  refine wpAny_newFunctionEnv S.cell (by intro y hy; simp at hy) (fun h4 hns hsb => ?_) S.kind
  have k34 : ∀ b o, h3.get? b = some o → h4.get? b = some o := fun b o q => hsb.extBut b o (Nat.ne_of_lt (Heap.lt_size q)) (Heap.get?_push_of_some _ q)
  have I4 : Inv (cxComp X scope (own ++ fr.map (·.1)) { s2 with heap := h3 } (upd H2 l (.lst [])) fp) [] (compSt own.length fr σ) (upd H2 l (.lst [])) { s2 with heap := h4, toks := s2.toks + ([] : List (Str × Value)).length } :=
    compInv (s := { s2 with heap := h3 }) (h1 := h4) hsc hNX S I3 f3 hns k34
  have st4 : tn 0 h4 := T.keep _ _ _ st2 fun b _ o q => k34 b o (k23 b o q)
  have nofs : ∀ b ∈ fp, b ∉ frs X.stack := fun b hb z => (List.mem_cons.mp (I3.stkSub b z)).elim (f3 b hb).1.2.1 (f3 b hb).1.2.2.1
  have hfree' := hfree
  have hcl : ∀ x c, (clOf X.env.cells scope.names []).lookup x = some c → X.env.cells.lookup x = some c := fun x c e => by
    rcases clOf_lookup scope.names [] hfree e with z | z
    · simp at z
    · exact z
  have stat : ∀ {H' : Hp}, (∀ b ∈ fp, H' b = none) → ∀ b ∈ fp, FpOk (cxComp X scope (own ++ fr.map (·.1)) { s2 with heap := h3 } (upd H2 l (.lst [])) fp) [] H' b := fun hn b hb =>
    ⟨hn b hb, Nat.ne_of_lt (f3 b hb).2, nofs b hb, .inl hb, fun x c e => (f3 b hb).1.2.2.2.2.1 x c (hcl x c e), fun p hp => absurd (show p ∈ ([] : List (Addr × Obj)) from hp) (by simp)⟩
  have loop : codeAny (model X.prog X.w) X.A (.compLoop (.ListComp elt [⟨tg, iter, [], 0⟩] scope pos) 0 (.ref it) (.ref l) (compEnvC scope (clOf X.env.cells scope.names []) h3.objs.size X.env))
      (compPost (model X.prog X.w) X.A X.xe (some (assign (.Name y py) X.env)) (fun _ s' => SP X pins D .next s') (.ref l) h3.objs.size) { s2 with heap := h4, toks := s2.toks + ([] : List (Str × Value)).length } := by
    refine compLoop_any (fun n s' => ∃ i σ' H', Inv (cxComp X scope (own ++ fr.map (·.1)) { s2 with heap := h3 } (upd H2 l (.lst [])) fp) [] σ' H' s' ∧ tn i s'.heap ∧ (∀ b ∈ fp, H' b = none) ∧ W i n σ' H') ?_ m0
      ⟨0, _, _, I4, st4, fun b hb => (f3 b hb).1.1, w0⟩
    rintro n s5 ⟨i, σ5, H5, I5, st5, fr5, w5⟩
    rcases turn i n σ5 H5 w5 with ⟨stop, q⟩ | ⟨go, N', hN', step⟩
    · refine thn (T.done (cxComp X scope (own ++ fr.map (·.1)) { s2 with heap := h3 } (upd H2 l (.lst [])) fp) rfl rfl rfl hc i [] s5 σ5 H5 _ I5 (stat fr5) st5 stop) fun r s6 ⟨hr, I6⟩ => ?_
      subst hr
      obtain ⟨m, ⟨oC, es, ep, eC, dC, rC⟩, _⟩ := I6.loc
      have hb6 : Un (frs X.stack) fp (upd H2 l (.lst [])) H5 h3 s6.heap := I6.base
      have hC : H5 h3.objs.size = none := I6.free
      have J6 : Inv X pins σ H5 s6 := I3.call' (s' := s6) (ch := fp) I6.os hb6 I6.hok I6.bare fun b hb => ⟨(f3 b hb).1.2.2.2.1, (f3 b hb).1.2.1, (f3 b hb).1.2.2.2.2.1, (f3 b hb).1.2.2.2.2.2⟩
      have fC : FpOk X pins H5 h3.objs.size := I3.fpOk (Nat.le_refl _) hC
      have J7 : Inv X (pins ++ [(h3.objs.size, oC)]) σ H5 s6 := J6.pins_of fun p hp => (List.mem_append.mp hp).elim (fun z => J6.pin p (List.mem_append_right _ z)) fun z => by
        rw [List.mem_singleton.mp z]
        exact ⟨eC, hC, fC.2.1, fC.2.2.1, fun v z => by rw [dC] at z; cases z⟩
      refine wpAny_assign_Name (store_ok (v := .ref l) J7 hN hi' hy rfl (fun s7 I7 => ?_) hf)
      have eC7 := (I7.pin (h3.objs.size, oC) (List.mem_append_right _ (List.mem_append_right _ (List.mem_singleton.mpr rfl)))).1
      exact ⟨m, ⟨oC, es, ep, eC7, dC, rC⟩, fun h' sb => ⟨_, H5, I7.unpinned.turned (t' := s7.toks) (fun b o hb e => sb.extBut b o hb e) hC fC.2.1 fC.2.2.2.1 fC.2.2.2.2.1 fC.2.2.2.2.2, q⟩⟩
    · refine thn (T.item (cxComp X scope (own ++ fr.map (·.1)) { s2 with heap := h3 } (upd H2 l (.lst [])) fp) rfl rfl rfl hc i [] s5 σ5 H5 _ I5 (stat fr5) st5 go) fun r s6 ⟨u, hr, h6⟩ => ?_
      subst hr
      refine thn h6 fun _ s7 ⟨x, H7, I7, r7, y7, st7, fr7⟩ => ?_
      have I7' := I7.pinned (stat fr7) (T.obj _ _ st7)
      refine thn (hg _ _ _ _ s7 σ5 H7 x u _ I7' r7 (step x H7 y7)) fun _ s8 ⟨σ8, H8, I8, q8⟩ => ?_
      refine thn (he _ _ _ _ s8 σ8 H8 _ I8 q8) fun v s9 ⟨y, H9, I9, r9, ys, hl9, hz9, n9⟩ => ?_
      refine thn (mt_append _ s9 σ8 H9 (.ref l) [y] (.ref l) [v] (fun _ H' => H' = upd H9 l (.lst (ys ++ [y]))) I9 rfl (.cons r9 .nil) ⟨l, ys, y, rfl, rfl, hl9, hz9, rfl⟩) fun _ s10 ⟨z, H10, I10, _, e10⟩ => ?_
      subst e10
      obtain ⟨m', hm, w10⟩ := hN' _ _ n9
      refine ⟨m', hm, i + 1, σ8, _, I10.unpinned, T.keep _ _ _ st7 fun b hb o e => (I10.pin (b, o) (List.mem_append_right _ (List.mem_append_right _ (mem_pinsAt hb e)))).1, fun b hb => ?_, w10⟩
      obtain ⟨o, e, d⟩ := T.obj _ _ st7 b hb
      exact (I10.pin (b, o) (List.mem_append_right _ (List.mem_append_right _ (mem_pinsAt hb e)))).2.1
  exact codeAny_compStart_list loop (T.self _ 0 _ _ _ st4 loop)
end
end L2
namespace L2
open PySem PySem.Spec PyProof.Rows
end L2
namespace L2
open PySem PySem.Spec PyProof.Rows
end L2
namespace L2
open PySem PySem.Spec PyProof.Rows
end L2
namespace L2
open PySem PySem.Spec PyProof.Rows
end L2
namespace L2
open PySem PySem.Spec PyProof.Rows
end L2
namespace Z3
open PySem PySem.Spec PyProof.Rows
theorem nq {a b : Nat} (h : a ≠ b) : a ≠ b := h
end Z3
namespace L2
open PySem PySem.Spec PyProof.Rows
section
variable {X : Cx} {pins : List (Addr × Obj)} {σ : St} {H : Hp} {s : Shared} {h' : Heap}
/-- the records at fp have turned, and a tuple was laid -/
theorem Inv.zipped {fp : List Addr} {vs : List V} {us : List Value} {t' : Nat} (I : Inv X pins σ H s) (hf : ∀ b ∈ fp, FpOk X pins H b) (k : ∀ b o, b ∉ fp → s.heap.get? b = some o → h'.get? b = some o)
    (r : Vals vs us) (hz : vs.length ≤ sizeLine) (hT : IsTup h' s.heap.objs.size us.toArray) : Inv X pins σ (upd H s.heap.objs.size (.tup vs)) { s with heap := h', toks := t' } := by
  have fr : H s.heap.objs.size = none := I.hok.fresh (Nat.le_refl _)
  have old : ∀ b o, s.heap.get? b = some o → b ≠ s.heap.objs.size := fun b o e => Nat.ne_of_lt (Heap.lt_size e)
  have at_ : ∀ b o, H b = some o → (upd H s.heap.objs.size (.tup vs)) b = some o := fun b o e => by rw [upd_ne (Nat.ne_of_lt (I.hok.lt e))]; exact e
  have nfp : ∀ b o, H b = some o → b ∉ fp := fun b o e z => by rw [(hf b z).1] at e; cases e
  refine I.call' (s' := { s with heap := h', toks := t' }) (ch := fp) rfl ⟨fun b o e n _ hx => k b o hx e, fun b o e n _ hx => ⟨o.slots, k b o hx e⟩, fun b o e n _ => by rw [upd_ne (old b o e)]; exact n, fun b o e hx => ⟨o, k b o hx e⟩, fun b xs e => at_ b _ e, fun b o u e => at_ b _ e, fun b ps e => ⟨#[], by rw [at_ b _ e]; simp⟩⟩
    (fun b o e => ?_) I.bare fun b hb => ⟨(hf b hb).2.2.2.1, (hf b hb).2.1, (hf b hb).2.2.2.2.1, (hf b hb).2.2.2.2.2⟩
  by_cases q : b = s.heap.objs.size
  · subst q
    rw [upd_same] at e; cases e
    exact ⟨hz, us, r, hT⟩
  · rw [upd_ne q] at e
    refine (I.hok b o e).stay (fun c u hc g => k c u ?_ g) (fun c g => at_ c _ g) fun c xs g => at_ c _ g
    rcases hc with z | z
    · rw [z]; exact nfp b o e
    · exact nfp c _ z
/-- the records at fp have turned -/
theorem Inv.turnedL {fp : List Addr} {t' : Nat} (I : Inv X pins σ H s) (hf : ∀ b ∈ fp, FpOk X pins H b) (k : ∀ b o, b ∉ fp → s.heap.get? b = some o → h'.get? b = some o) : Inv X pins σ H { s with heap := h', toks := t' } := by
  have nfp : ∀ b o, H b = some o → b ∉ fp := fun b o e z => by rw [(hf b z).1] at e; cases e
  refine I.call' (s' := { s with heap := h', toks := t' }) (ch := fp) rfl ⟨fun b o e n _ hx => k b o hx e, fun b o e n _ hx => ⟨o.slots, k b o hx e⟩, fun b o e n _ => n, fun b o e hx => ⟨o, k b o hx e⟩, fun b xs e => e, fun b o u e => e, fun b ps e => ⟨#[], by rw [e]; simp⟩⟩
    (fun b o e => ?_) I.bare fun b hb => ⟨(hf b hb).2.2.2.1, (hf b hb).2.1, (hf b hb).2.2.2.2.1, (hf b hb).2.2.2.2.2⟩
  refine (I.hok b o e).stay (fun c u hc g => k c u ?_ g) (fun c g => g) fun c xs g => g
  rcases hc with z | z
  · rw [z]; exact nfp b o e
  · exact nfp c _ z
end
end L2
namespace L2
open PySem PySem.Spec PyProof.Rows
section
variable {X : Cx} {st : Stmt} {rest : List Stmt} {t u : TS} {e : Expr} {te : TE} {pos : Pos} {es : List Expr} {ta : TA}
/-- a statement, a word of what stands behind it, the rest -/
def tSeqM (t u : TS) : TS := fun D σ H => ∃ M : St → Hp → Prop, t { D with nx := M } σ H ∧ ∀ σ' H', M σ' H' → u D σ' H'
theorem pss_consM (h1 : PS X st t) (h2 : PSs X rest u) : PSs X (st :: rest) (tSeqM t u) := by
  intro pins s σ H D I h
  obtain ⟨M, h, hM⟩ := h
  refine wpAny_execs_cons (thn (h1 pins s σ H { D with nx := M } I h) fun f s1 q => ?_)
  cases f with
  | next =>
    obtain ⟨σ', H', I', q⟩ := q
    exact h2 pins s1 σ' H' D I' (hM _ _ q)
  | ret v => exact q
  | brk => exact q
  | cont => exact q
/-- a tuple, a list, two lists together: by what is tracked behind -/
def tTupS (t : TA) : TE := fun σ H Q => t σ H fun xs H1 => xs.length ≤ sizeLine ∧ ∀ p H', Same H1 H' → H' p = some (.tup xs) → Q (.ref p) H'
def tLstS (t : TA) : TE := fun σ H Q => t σ H fun xs H1 => xs.length ≤ sizeLine ∧ ∀ p H', Same H1 H' → H' p = some (.lst xs) → Q (.ref p) H'
theorem pe_tupS {x1} (h : PA X es ta) : PE X (.Tuple es x1 pos) (tTupS ta) := by
  intro pins s σ H Q I hq
  refine wpAny_Tuple_spliced (thn (h pos pins s σ H _ I hq) fun us s1 ⟨xs, H1, I1, r, z, q⟩ => ⟨by rw [← r.length]; exact z, ?_⟩)
  have hf : H1 s1.heap.objs.size = none := I1.hok.fresh (Nat.le_refl _)
  refine ⟨.ref s1.heap.objs.size, upd H1 s1.heap.objs.size (.tup xs), I1.laid (t' := s1.toks) (fun b u e => Heap.get?_push_of_some _ e) (Nat.le_refl _) ?_, rfl, q _ _ ((Same.refl H1).upd hf) upd_same⟩
  exact ⟨z, us, r, ⟨_, Heap.get?_push_size _ rfl, rfl, _, rfl⟩⟩
theorem pe_lstS (h : PA X es ta) : PE X (.List es pos) (tLstS ta) := by
  intro pins s σ H Q I hq
  refine wpAny_List_spliced (thn (h pos pins s σ H _ I hq) fun us s1 ⟨xs, H1, I1, r, z, q⟩ => ⟨by rw [← r.length]; exact z, ?_⟩)
  have hf : H1 s1.heap.objs.size = none := I1.hok.fresh (Nat.le_refl _)
  refine ⟨.ref s1.heap.objs.size, upd H1 s1.heap.objs.size (.lst xs), I1.laid (t' := s1.toks) (fun b u e => Heap.get?_push_of_some _ e) (Nat.le_refl _) ?_, rfl, q _ _ ((Same.refl H1).upd hf) upd_same⟩
  exact ⟨z, us, 0, r, Heap.get?_push_size _ rfl⟩
end
end L2
namespace Z3
open PySem PySem.Spec PyProof.Rows
section
variable {prog : Program} {w : World} {A : Around} {E : Value → Shared → Prop} {s : Shared}
/-- a zip of two, begun at the place n -/
structure At2 (h : Heap) (n l1 l2 : Addr) (f0 : Value) (k : Nat) : Prop where
  z : IsZip h (n + 4) (n + 2) (n + 3) f0
  ti : IsPair h (n + 2) (.ref n) (.ref (n + 1))
  to : ∃ a b, IsPair h (n + 3) a b
  i1 : h.IsListIter n l1 k
  i2 : h.IsListIter (n + 1) l2 k
def Off2 (n l : Addr) : Prop := l ≠ n ∧ l ≠ n + 1 ∧ l ≠ n + 3 ∧ l ≠ n + 4
theorem off2 {h : Heap} {n l l1 l2 : Addr} {f0 : Value} {k : Nat} {xs : Array Value} (z : At2 h n l1 l2 f0 k) (p : h.IsList l xs) : Off2 n l := by
  obtain ⟨o, e, c, _⟩ := p
  obtain ⟨z0, ti, ⟨a, b, to⟩, ⟨o1, e1, c1, _⟩, ⟨o2, e2, c2, _⟩⟩ := z
  refine ⟨fun q => ?_, fun q => ?_, fun q => ?_, fun q => ?_⟩
  · subst q; rw [e] at e1; cases e1; rw [c] at c1; simp at c1
  · subst q; rw [e] at e2; cases e2; rw [c] at c2; simp at c2
  · subst q; have q := e.symm.trans to; cases q; simp at c
  · subst q; have q := e.symm.trans z0; cases q; simp at c
theorem apart2 {n l1 l2 : Nat} (a : Off2 n l1) (b : Off2 n l2) : ZipApart (n + 4) (n + 2) (n + 3) n (n + 1) l1 l2 := by
  obtain ⟨a0, a1, a3, a4⟩ := a
  obtain ⟨b0, b1, b3, b4⟩ := b
  constructor <;> first | assumption | exact nq (by omega)
theorem call_zip2 {l1 l2 : Addr} {xs ys : Array Value} {Q : Value → Shared → Prop} (p1 : s.heap.IsList l1 xs) (p2 : s.heap.IsList l2 ys)
    (h : ∀ h', At2 h' s.heap.objs.size l1 l2 .none 0 → (∀ c o, s.heap.get? c = some o → h'.get? c = some o) → Q (.ref (s.heap.objs.size + 4)) { s with heap := h' }) : wpAny (model prog w) A (call (.type "zip") [.ref l1, .ref l2]) Q E s :=
  call_zip_2 p1 p2 fun h' a1 a2 a3 a4 a5 _ a7 => h h' ⟨a1, a2, ⟨_, _, a3⟩, a4, a5⟩ a7
end
end Z3
namespace L2
open PySem PySem.Spec PyProof.Rows
theorem in5 {b n m : Nat} (hb : b = n ∨ b = n + 1 ∨ b = n + 2 ∨ b = n + 3 ∨ b = n + 4) (lt : n + 4 < m) : b < m := by omega
theorem ge5 {b n : Nat} (hb : b = n ∨ b = n + 1 ∨ b = n + 2 ∨ b = n + 3 ∨ b = n + 4) : n ≤ b := by omega
def Itz2 (K : PySem.W.Frag) (a b : Addr) : It :=
  ⟨fun i H => ∃ xs ys x y, SqL K H a xs ∧ SqL K H b ys ∧ xs[i]? = some x ∧ ys[i]? = some y,
   fun i H v H' => ∃ t x y, v = .ref t ∧ H t = none ∧ H' = upd H t (.tup [x, y]) ∧ (∀ xs, SqL K H a xs → xs[i]? = some x) ∧ ∀ ys, SqL K H b ys → ys[i]? = some y,
   fun i H => ∃ xs ys, SqL K H a xs ∧ SqL K H b ys ∧ (xs.length ≤ i ∨ ys.length ≤ i)⟩
theorem turn_zip2 {P : Program} {w : World} {K : PySem.W.Frag} {elts : List Expr} {x1} {pos : Pos} (a b n : Addr) : Turn P w K (.Tuple elts x1 pos) (Itz2 K a b) [n, n + 1, n + 2, n + 3, n + 4] (n + 4) (fun i h => Z3.At2 h n a b .none i) where
  mem := by simp
  obj := fun i h st b hb => by
    obtain ⟨z0, ti, ⟨a, b', to⟩, ⟨o1, e1, c1, d1⟩, ⟨o2, e2, c2, d2⟩⟩ := st
    simp only [List.mem_cons, List.not_mem_nil, or_false] at hb
    rcases hb with rfl | rfl | rfl | rfl | rfl
    · exact ⟨_, e1, fun v q => by rw [d1] at q; cases q⟩
    · exact ⟨_, e2, fun v q => by rw [d2] at q; cases q⟩
    · exact ⟨_, ti, fun v q => by have q' : Data.seq _ _ = Data.cell v := q; cases q'⟩
    · exact ⟨_, to, fun v q => by have q' : Data.seq _ _ = Data.cell v := q; cases q'⟩
    · exact ⟨_, z0, fun v q => by have q' : Data.fields _ = Data.cell v := q; cases q'⟩
  keep := fun i h h' st k => by
    obtain ⟨z0, ti, ⟨a, b', to⟩, i1, i2⟩ := st
    exact ⟨k _ (by simp) _ z0, k _ (by simp) _ ti, ⟨a, b', k _ (by simp) _ to⟩, i1.at fun o e => k _ (by simp) o e, i2.at fun o e => k _ (by simp) o e⟩
  item := by
    intro X hP hw hK hc i pins s σ H E I hf st hg
    subst hP hw hK
    obtain ⟨xs, ys, x, y, q1, q2, e1, e2⟩ := hg
    obtain ⟨is1, r1, p1, _⟩ := I.list q1
    obtain ⟨is2, r2, p2, _⟩ := I.list q2
    obtain ⟨u, hu, ru⟩ := r1.get e1
    obtain ⟨v, hv, rv⟩ := r2.get e2
    have D := Z3.apart2 (Z3.off2 st p1.isList) (Z3.off2 st p2.isList)
    obtain ⟨w0, wi, ⟨wa, wb, wo⟩, w1, w2⟩ := id st
    refine wpAny_pyNext_zip_item D w0 wi wo w1 w2 p1.isList p2.isList (x := u) (y := v) (by simpa using hu) (by simpa using hv) fun h1 z0 to i1 i2 tri sz kp => ⟨_, rfl, ?_⟩
    refine wpAny_letOwnedTupleGo_zip z0 fun h2 z2 sb => ?_
    have fr : H s.heap.objs.size = none := I.hok.fresh (Nat.le_refl _)
    have lt : n + 4 < s.heap.objs.size := Heap.lt_size w0
    refine ⟨.ref s.heap.objs.size, upd H s.heap.objs.size (.tup [x, y]), I.zipped (us := [u, v]) (t' := s.toks) hf (fun b o hb e => ?_) (.cons ru (.cons rv .nil)) (by show 2 ≤ sizeLine; decide) ⟨_, sb.extBut _ _ (Nat.ne_of_gt lt) tri, rfl, _, rfl⟩, rfl,
      ⟨_, x, y, rfl, fr, rfl, fun zs hz => by rw [I.list_inj hz q1]; exact e1, fun zs hz => by rw [I.list_inj hz q2]; exact e2⟩, ⟨z2, sb.extBut _ _ D.TIz (kp _ _ D.TIz D.TITO D.TIi1 D.TIi2 wi), ⟨_, _, sb.extBut _ _ D.TOz to⟩, i1.extBut sb.extBut D.i1z, i2.extBut sb.extBut D.i2z⟩, fun b hb => ?_⟩
    · simp only [List.mem_cons, List.not_mem_nil, or_false, not_or] at hb
      exact sb.extBut _ _ hb.2.2.2.2 (kp b o hb.2.2.2.2 hb.2.2.2.1 hb.1 hb.2.1 e)
    · have hlt : b < s.heap.objs.size := by
        simp only [List.mem_cons, List.not_mem_nil, or_false] at hb
        exact in5 hb lt
      rw [upd_ne (Nat.ne_of_lt hlt)]
      exact (hf b hb).1
  done := by
    intro X hP hw hK hc i pins s σ H E I hf st hg
    subst hP hw hK
    obtain ⟨xs, ys, q1, q2, hx⟩ := hg
    obtain ⟨is1, r1, p1, _⟩ := I.list q1
    obtain ⟨is2, r2, p2, _⟩ := I.list q2
    have hl1 := r1.length
    have hl2 := r2.length
    have D := Z3.apart2 (Z3.off2 st p1.isList) (Z3.off2 st p2.isList)
    obtain ⟨w0, wi, ⟨wa, wb, wo⟩, w1, w2⟩ := id st
    refine wpAny_pyNext_zip_end (I.ok.hd hc) D w0 wi wo w1 w2 p1.isList p2.isList (by rcases hx with hx | hx; exact .inl (by simp; omega); exact .inr (by simp; omega)) fun h' k => ⟨rfl, I.turnedL (t' := s.toks) hf fun b o hb e => ?_⟩
    simp only [List.mem_cons, List.not_mem_nil, or_false, not_or] at hb
    exact k b o hb.2.2.2.2 hb.2.2.2.1 hb.1 hb.2.1 e
  self := fun _ _ _ _ _ st h => wpAny_pyIter_zip st.z h
/-- what a comprehension's walk comes to, by the walk's own form -/
theorem comp_by {J : It} {n : Nat} {l : Addr} {g : TG} {te : TE} {σ0 : St} {H0 : Hp} {Q : Hp → Prop} (Pv : Nat → St → Hp → Prop) (h0 : Pv 0 σ0 H0) (hgo : ∀ i σ H, i < n → Pv i σ H → J.go i H) (hst : ∀ σ H, Pv n σ H → J.stop n H)
    (hs : ∀ i σ H x H', i < n → Pv i σ H → J.yld i H x H' → g x σ H' fun σ3 H3 => te σ3 H3 fun y H4 => ∃ ys, H4 l = some (.lst ys) ∧ ys.length < sizeLine ∧ Pv (i + 1) σ3 (upd H4 l (.lst (ys ++ [y])))) (hd : ∀ σ H, Pv n σ H → Q H) :
    ∃ W : Nat → Nat → St → Hp → Prop, (∃ m, W 0 m σ0 H0) ∧ ∀ i m σ' H', W i m σ' H' →
    (J.stop i H' ∧ Q H') ∨ (J.go i H' ∧ ∃ N : St → Hp → Prop, (∀ σ2 H2, N σ2 H2 → ∃ m', m' < m ∧ W (i + 1) m' σ2 H2) ∧
      ∀ x H2, J.yld i H' x H2 → g x σ' H2 fun σ3 H3 => te σ3 H3 fun y H4 => ∃ ys, H4 l = some (.lst ys) ∧ ys.length < sizeLine ∧ N σ3 (upd H4 l (.lst (ys ++ [y])))) := by
  refine ⟨fun i m σ H => m = n - i ∧ i ≤ n ∧ Pv i σ H, ⟨n, by simp, Nat.zero_le _, h0⟩, ?_⟩
  rintro i m σ H ⟨rfl, hi, p⟩
  by_cases hlt : i < n
  · exact .inr ⟨hgo i σ H hlt p, Pv (i + 1), fun σ' H' p' => ⟨n - (i + 1), by omega, rfl, hlt, p'⟩, fun x H' y => hs i σ H x H' hlt p y⟩
  · have e : i = n := by omega
    subst e
    exact .inl ⟨hst σ H p, hd σ H p⟩
end L2
namespace L2
open PySem PySem.Spec PyProof.Rows
end L2
namespace ZT
open PySem PySem.Spec PyProof.Rows
section
variable {prog : Program} {w : World} {A : Around} {E : Value → Shared → Prop} {s : Shared}
theorem nx_item {j t : Addr} {i : Nat} {its : Array Value} {x : Value} {Q : Value → Shared → Prop} (q : s.heap.IsTupleIter j t i) (p : s.heap.IsTuple t its) (ex : its[i]? = some x)
    (hQ : ∀ h', h'.IsTupleIter j t (i + 1) → Heap.SameBut j s.heap h' → Q x { s with heap := h' }) : wpAny (model prog w) A (Builtin.SmallTypes.nextOf (.ref j)) Q E s := by
  obtain ⟨u, hu, cu, du⟩ := id q
  obtain ⟨v, hv, _, nv, dv⟩ := p
  unfold Builtin.SmallTypes.nextOf; refine wpAny_bind (wpAny_callSpecial?_slot (name := Str.ofString "__next__") q.typeIs F.slot_tuple_iterator_next (wpAny_call_entry F.slot_tuple_iterator_next q.typeIs F.entry_tuple_iterator_next ?_ (F.args_tuple_iterator_next_1 _)))
  show wpAny _ _ (field (.ref j) 0 >>= _) _ _ s
  refine wpAny_bind (wpAny_field hu du (x := .ref t) rfl ?_); show wpAny _ _ (if (Value.ref t == Value.none) = true then _ else _) _ _ s; rw [if_neg (show ¬ ((Value.ref t == Value.none) = true) from Bool.false_ne_true)]
  show wpAny _ _ (field (.ref j) 1 >>= _) _ _ s
  refine wpAny_bind (wpAny_field hu du (x := .int i 0) rfl ?_); show wpAny _ _ (seqItems? (.ref t) >>= _) _ _ s
  refine wpAny_bind (wpAny_seqItems hv dv ?_)
  simp only [ex, Int.toNat_natCast]
  refine wpAny_bind (wpAny_setField hu du (by simp) (wpAny_pure ⟨x, rfl, wpAny_pure (hQ _ ⟨_, Heap.get?_update_self _ hu (Obj.isFreed_of_fields (Obj.data_mapFields du _)), (Obj.cls_mapFields ..).trans cu, by rw [Obj.data_mapFields du]; simp [rawInt]⟩ (Heap.SameBut.update ..))⟩))
theorem nx_end {j t : Addr} {i : Nat} {its : Array Value} {Q : Value → Shared → Prop} (hh : A.handled = none) (q : s.heap.IsTupleIter j t i) (p : s.heap.IsTuple t its) (ex : its[i]? = none)
    (hE : ∀ h' e, Heap.ExtBut j s.heap h' → (∃ o, h'.get? e = some o ∧ o.cls = .type "StopIteration") → E (.ref e) { s with heap := h' }) : wpAny (model prog w) A (Builtin.SmallTypes.nextOf (.ref j)) Q E s := by
  obtain ⟨u, hu, cu, du⟩ := id q
  obtain ⟨v, hv, _, nv, dv⟩ := p
  unfold Builtin.SmallTypes.nextOf; refine wpAny_bind (wpAny_callSpecial?_slot (name := Str.ofString "__next__") q.typeIs F.slot_tuple_iterator_next (wpAny_call_entry F.slot_tuple_iterator_next q.typeIs F.entry_tuple_iterator_next ?_ (F.args_tuple_iterator_next_1 _)))
  show wpAny _ _ (field (.ref j) 0 >>= _) _ _ s
  refine wpAny_bind (wpAny_field hu du (x := .ref t) rfl ?_); show wpAny _ _ (if (Value.ref t == Value.none) = true then _ else _) _ _ s; rw [if_neg (show ¬ ((Value.ref t == Value.none) = true) from Bool.false_ne_true)]
  show wpAny _ _ (field (.ref j) 1 >>= _) _ _ s
  refine wpAny_bind (wpAny_field hu du (x := .int i 0) rfl ?_); show wpAny _ _ (seqItems? (.ref t) >>= _) _ _ s
  refine wpAny_bind (wpAny_seqItems hv dv ?_)
  simp only [ex, Int.toNat_natCast]
  refine wpAny_bind (wpAny_rule (wpAny_bind (wpAny_setField hu du (by simp) ?_))); show wpAny _ _ (newExc (.type "StopIteration") [] >>= _) _ _ _
  refine wpAny_bind ?_
  simp only [newTuple, newExc]
  refine wpAny_bind (wpAny_newObj_type (wpAny_bind (m := firstArgMember _ _) (wpAny_of_eq (a := Value.none) (by first | rfl | (simp only [firstArgMember]; rfl)) (wpAny_newObj_type ?_ (by size_fits)))) (by size_fits))
  simp only [raiseNew]; refine wpAny_bind (wpAny_handled ?_)
  first | rw [hh] | rw [show A.in1.handled = none from hh]
  refine wpAny_bind (wpAny_pure (wpAny_throw (hE _ _ (((Heap.SameBut.update ..).extBut.push _).push _) ⟨_, Heap.get?_push_size _ rfl, rfl⟩)))
/-- a zip of two tuples, begun at the place n -/
structure At2 (h : Heap) (n l1 l2 : Addr) (f0 : Value) (k : Nat) : Prop where
  z : IsZip h (n + 4) (n + 2) (n + 3) f0
  ti : IsPair h (n + 2) (.ref n) (.ref (n + 1))
  to : ∃ a b, IsPair h (n + 3) a b
  i1 : h.IsTupleIter n l1 k
  i2 : h.IsTupleIter (n + 1) l2 k
abbrev g1 (h : Heap) (l1 : Addr) : Heap := h.push { cls := .type "tuple_iterator", data := .fields #[.ref l1, .int 0 0] }
abbrev g2 (h : Heap) (l1 l2 : Addr) : Heap := (g1 h l1).push { cls := .type "tuple_iterator", data := .fields #[.ref l2, .int 0 0] }
abbrev g3 (h : Heap) (l1 l2 : Addr) : Heap := (g2 h l1 l2).push { cls := .type "tuple", data := .seq #[.ref h.objs.size, .ref (g1 h l1).objs.size] }
abbrev g4 (h : Heap) (l1 l2 : Addr) : Heap := (g3 h l1 l2).push { cls := .type "tuple", data := .seq #[.none, .none] }
abbrev g5 (h : Heap) (l1 l2 : Addr) : Heap := (g4 h l1 l2).push { cls := .type "zip", data := .fields #[.none, .bool false, .bool false, .ref (g2 h l1 l2).objs.size, .ref (g3 h l1 l2).objs.size] }
end
theorem new2 (l1 l2 : Addr) (xs ys : Array Value) :
    Meets (Builtin.«zip.__new__» ⟨[.type "zip", .ref l1, .ref l2], []⟩) (fun _ R s => s.heap.IsTuple l1 xs ∧ s.heap.IsTuple l2 ys ∧ R (.ok (.ret (.ref (g4 s.heap l1 l2).objs.size))) { s with heap := g5 s.heap l1 l2 }) :=
  .of_wp fun prog w A R s h => by
    obtain ⟨hp, g, d, tk, os⟩ := s; obtain ⟨p1, p2, h⟩ := h
    have hsub := sub_zip
    have q1 : Heap.IsTuple (Shared.heap ⟨hp, g, d, tk, os⟩) l1 xs := p1
    have q2 : Heap.IsTuple (Shared.heap ⟨hp.push { cls := .type "tuple_iterator", data := .fields #[.ref l1, .int 0 0] }, g, d, tk, os⟩) l2 ys := Heap.IsTuple.push p2 _
    wp_walk using wpAny_pyIter_tuple q1, wpAny_pyIter_tuple q2
    exact ⟨_, rfl, h⟩
section
variable {prog : Program} {w : World} {A : Around} {E : Value → Shared → Prop} {s : Shared}
theorem call_zip2 {l1 l2 : Addr} {xs ys : Array Value} {Q : Value → Shared → Prop} (p1 : s.heap.IsTuple l1 xs) (p2 : s.heap.IsTuple l2 ys)
    (h : ∀ h', At2 h' s.heap.objs.size l1 l2 .none 0 → (∀ c o, s.heap.get? c = some o → h'.get? c = some o) → Q (.ref (s.heap.objs.size + 4)) { s with heap := h' }) : wpAny (model prog w) A (call (.type "zip") [.ref l1, .ref l2]) Q E s := by
  refine callType_new F.called_zip (by decide) (F.typeCall_zip_2 _ _) (F.newCall_zip_2 _ _) (fun obj => F.args_object_init_3 obj _ _) F.entry_zip_new (new2 l1 l2 xs ys) ⟨p1, p2, ?_⟩
  have e1 : (g1 s.heap l1).objs.size = s.heap.objs.size + 1 := Heap.size_push ..
  have e2 : (g2 s.heap l1 l2).objs.size = s.heap.objs.size + 2 := by rw [Heap.size_push, e1]
  have e3 : (g3 s.heap l1 l2).objs.size = s.heap.objs.size + 3 := by rw [Heap.size_push, e2]
  have e4 : (g4 s.heap l1 l2).objs.size = s.heap.objs.size + 4 := by rw [Heap.size_push, e3]
  have up := fun (h : Heap) (o : Obj) (c : Addr) (u : Obj) (e : h.get? c = some u) => Heap.get?_push_of_some (h := h) (o := o) (a := c) e
  have t5 : (g5 s.heap l1 l2).get? (g4 s.heap l1 l2).objs.size = some _ := Heap.get?_push_size _ rfl
  have t4 : (g5 s.heap l1 l2).get? (g3 s.heap l1 l2).objs.size = some _ := up _ _ _ _ (Heap.get?_push_size _ rfl)
  have t3 : (g5 s.heap l1 l2).get? (g2 s.heap l1 l2).objs.size = some _ := up _ _ _ _ (up _ _ _ _ (Heap.get?_push_size _ rfl))
  have t2 : (g5 s.heap l1 l2).get? (g1 s.heap l1).objs.size = some _ := up _ _ _ _ (up _ _ _ _ (up _ _ _ _ (Heap.get?_push_size _ rfl)))
  have t1 : (g5 s.heap l1 l2).get? s.heap.objs.size = some _ := up _ _ _ _ (up _ _ _ _ (up _ _ _ _ (up _ _ _ _ (Heap.get?_push_size _ rfl))))
  show _ ∧ _
  rw [e2, e3, e4] at t5
  rw [e3] at t4
  rw [e1, e2] at t3
  rw [e1] at t2
  rw [e4]
  exact ⟨⟨_, t5, rfl⟩, h _ ⟨t5, t3, ⟨_, _, t4⟩, ⟨_, t1, rfl, rfl⟩, ⟨_, t2, rfl, rfl⟩⟩ fun c o x => up _ _ _ _ (up _ _ _ _ (up _ _ _ _ (up _ _ _ _ (up _ _ _ _ x))))⟩
theorem item2 {n l1 l2 : Nat} {k : Nat} {xs ys : Array Value} {x y : Value} {Q : Option Value → Shared → Prop} (zz : At2 s.heap n l1 l2 .none k) (o1 : l1 < n) (o2 : l2 < n)
    (p1 : s.heap.IsTuple l1 xs) (p2 : s.heap.IsTuple l2 ys) (ex : xs[k]? = some x) (ey : ys[k]? = some y)
    (hQ : ∀ h', At2 h' n l1 l2 (rawInt s.heap.objs.size) (k + 1) → IsPair h' s.heap.objs.size x y →
      (∀ c o, c ≠ n → c ≠ n + 1 → c ≠ n + 3 → c ≠ n + 4 → s.heap.get? c = some o → h'.get? c = some o) → Q (some (.ref s.heap.objs.size)) { s with heap := h' }) :
    wpAny (model prog w) A (pyNext (.ref (n + 4))) Q E s := by
  have hT : s.TypeIs (.ref (n + 4)) "zip" := ⟨_, zz.z, rfl⟩
  obtain ⟨z0, ti, ⟨a, b, to⟩, i1, i2⟩ := zz
  have o10 : l1 ≠ n := Z3.nq (by omega)
  have o13 : l1 ≠ n + 3 := Z3.nq (by omega)
  have o14 : l1 ≠ n + 4 := Z3.nq (by omega)
  have o20 : l2 ≠ n := Z3.nq (by omega)
  have o23 : l2 ≠ n + 3 := Z3.nq (by omega)
  have o24 : l2 ≠ n + 4 := Z3.nq (by omega)
  have d04 : n ≠ n + 4 := Z3.nq (by omega)
  have d14 : n + 1 ≠ n + 4 := Z3.nq (by omega)
  have d24 : n + 2 ≠ n + 4 := Z3.nq (by omega)
  have d34 : n + 3 ≠ n + 4 := Z3.nq (by omega)
  have d03 : n ≠ n + 3 := Z3.nq (by omega)
  have d13 : n + 1 ≠ n + 3 := Z3.nq (by omega)
  have d23 : n + 2 ≠ n + 3 := Z3.nq (by omega)
  have d20 : n + 2 ≠ n := Z3.nq (by omega)
  have d21 : n + 2 ≠ n + 1 := Z3.nq (by omega)
  have d01 : n ≠ n + 1 := Z3.nq (by omega)
  unfold pyNext
  refine wpAny_bind (wpAny_attempt (wpAny_callSpecial?_slot (name := Str.ofString "__next__") hT F.slot_zip_next (wpAny_call_entry F.slot_zip_next hT F.entry_zip_next ?_ (F.args_zip_next_1 _))))
  show wpAny _ _ (field (.ref (n + 4)) 2 >>= _) _ _ _
  refine wpAny_bind (wpAny_field z0 rfl (x := .bool false) rfl ?_)
  show wpAny _ _ (field (.ref (n + 4)) 3 >>= _) _ _ _
  refine wpAny_bind (wpAny_field z0 rfl (x := .ref (n + 2)) rfl (wpAny_bind (wpAny_seqItems ti rfl ?_)))
  show wpAny _ _ (Builtin.SmallTypes.ownedTupleIsFree (.ref (n + 4)) >>= _) _ _ _
  refine wpAny_bind ?_
  unfold Builtin.SmallTypes.ownedTupleIsFree; refine wpAny_bind (wpAny_field z0 rfl (x := .none) rfl (wpAny_pure ?_))
  simp only [if_true]
  refine wpAny_bind (wpAny_rule (wpAny_bind (wpAny_field z0 rfl (x := .ref (n + 3)) rfl (wpAny_bind (wpAny_setField_rec z0 (by simp) fun j1 y1 r1 => ?_)))))
  replace y1 : IsZip j1 (n + 4) (n + 2) (n + 3) .ellipsis := y1
  refine wpAny_bind ?_
  simp only [List.forIn_cons, List.forIn_nil, List.zipIdx_cons, List.zipIdx_nil]
  refine wpAny_bind (wpAny_bind (wpAny_onRaise ?_))
  show wpAny _ _ (Builtin.SmallTypes.nextOf (.ref n) >>= _) _ _ _
  refine wpAny_bind (nx_item (i1.extBut r1.extBut d04) (p1.extBut r1.extBut o14) ex fun j2 y2 r2 => wpAny_pure ?_)
  have to2 : IsPair j2 (n + 3) a b := r2.extBut _ _ d03.symm (r1.extBut _ _ d34 to)
  refine wpAny_bind (wpAny_seqItems to2 rfl (wpAny_bind (wpAny_updateSeq_pair to2 fun j3 to3 r3 => wpAny_bind (wpAny_letGo (wpAny_pure ?_)))))
  replace to3 : IsPair j3 (n + 3) x b := to3
  refine wpAny_bind (wpAny_bind (wpAny_onRaise ?_))
  show wpAny _ _ (Builtin.SmallTypes.nextOf (.ref (n + 1)) >>= _) _ _ _
  refine wpAny_bind (nx_item (((i2.extBut r1.extBut d14).extBut r2.extBut d01.symm).extBut r3.extBut d13) (((p2.extBut r1.extBut o24).extBut r2.extBut o20).extBut r3.extBut o23) ey fun j4 y4 r4 => wpAny_pure ?_)
  have to4 : IsPair j4 (n + 3) x b := r4.extBut _ _ d13.symm to3
  refine wpAny_bind (wpAny_seqItems to4 rfl (wpAny_bind (wpAny_updateSeq_pair to4 fun j5 to5 r5 => wpAny_bind (wpAny_letGo (wpAny_pure (wpAny_pure ?_))))))
  replace to5 : IsPair j5 (n + 3) x y := to5
  refine wpAny_bind (wpAny_seqItems to5 rfl (wpAny_bind (wpAny_newTuple ?_)))
  have sz : j5.objs.size = s.heap.objs.size := by rw [r5.1, r4.1, r3.1, r2.1, r1.1]
  have all5 : ∀ c o, c ≠ n → c ≠ n + 1 → c ≠ n + 3 → j1.get? c = some o → j5.get? c = some o := fun c o c0 c1 c3 e => r5.extBut _ _ c3 (r4.extBut _ _ c1 (r3.extBut _ _ c3 (r2.extBut _ _ c0 e)))
  have z5 : IsZip j5 (n + 4) (n + 2) (n + 3) .ellipsis := all5 _ _ d04.symm d14.symm d34.symm y1
  have k1 : j5.IsTupleIter n l1 (k + 1) := ((y2.extBut r3.extBut d03).extBut r4.extBut d01).extBut r5.extBut d03
  have k2 : j5.IsTupleIter (n + 1) l2 (k + 1) := y4.extBut r5.extBut d13
  have lt4 : n + 4 < j5.objs.size := Heap.lt_size z5
  show wpAny _ _ (Builtin.SmallTypes.ownedTupleHandOut (.ref (n + 4)) (.ref j5.objs.size) >>= _) _ _ _
  refine wpAny_bind ?_
  unfold Builtin.SmallTypes.ownedTupleHandOut; have z8 : IsZip (j5.push { cls := .type "tuple", data := .seq #[x, y] }) (n + 4) (n + 2) (n + 3) .ellipsis := Heap.get?_push_of_some _ z5
  refine wpAny_bind (wpAny_setField_rec z8 (by simp) fun j9 z9 r9 => ?_)
  replace z9 : IsZip j9 (n + 4) (n + 2) (n + 3) (rawInt j5.objs.size) := z9
  refine wpAny_setField_rec z9 (by simp) fun jA zA rA => ?_
  replace zA : IsZip jA (n + 4) (n + 2) (n + 3) (rawInt j5.objs.size) := zA
  have up : ∀ c o, c ≠ n + 4 → j5.get? c = some o → jA.get? c = some o := fun c o c1 e => rA.extBut _ _ c1 (r9.extBut _ _ c1 (Heap.get?_push_of_some _ e))
  have tA : IsPair jA j5.objs.size x y := rA.extBut _ _ (Nat.ne_of_gt lt4) (r9.extBut _ _ (Nat.ne_of_gt lt4) (Heap.get?_push_size _ rfl))
  rw [sz] at zA tA
  refine wpAny_pure ⟨_, rfl, ?_⟩
  show wpAny _ _ _ _ _ _
  refine wpAny_pure ?_
  show Q (some (.ref j5.objs.size)) _
  rw [sz]
  exact hQ jA ⟨zA, up _ _ d24 (all5 _ _ d20 d21 d23 (r1.extBut _ _ d24 ti)), ⟨_, _, up _ _ d34 to5⟩, k1.at fun o e => up _ o d04 e, k2.at fun o e => up _ o d14 e⟩ tA fun c o c0 c1 c3 c4 e => up c o c4 (all5 c o c0 c1 c3 (r1.extBut _ _ c4 e))
theorem end2 {n l1 l2 : Nat} {k : Nat} {xs : Array Value} {Q : Option Value → Shared → Prop} (hh : A.handled = none) (zz : At2 s.heap n l1 l2 .none k) (o1 : l1 < n) (p1 : s.heap.IsTuple l1 xs) (ex : xs[k]? = none)
    (hQ : ∀ h', (∀ c o, c ≠ n → c ≠ n + 4 → s.heap.get? c = some o → h'.get? c = some o) → Q none { s with heap := h' }) : wpAny (model prog w) A (pyNext (.ref (n + 4))) Q E s := by
  have hT : s.TypeIs (.ref (n + 4)) "zip" := ⟨_, zz.z, rfl⟩
  obtain ⟨z0, ti, ⟨a, b, to⟩, i1, i2⟩ := zz
  have o14 : l1 ≠ n + 4 := Z3.nq (by omega)
  have d04 : n ≠ n + 4 := Z3.nq (by omega)
  have fin : ∀ h' e, (∀ c o, c ≠ n → c ≠ n + 4 → s.heap.get? c = some o → h'.get? c = some o) → (∃ o, h'.get? e = some o ∧ o.cls = .type "StopIteration") →
      wpAny (model prog w) A (do if ← isInstance (.ref e) (.type "StopIteration") then pure none else throw (.ref e) : Sem (Option Value)) Q E { s with heap := h' } := fun h' e k1 ⟨o, ho, hc⟩ => wpAny_bind (wpAny_isInstance (T := "StopIteration") (b := true) ⟨o, ho, hc⟩ isSubtype_stop (wpAny_pure (hQ _ k1)))
  unfold pyNext
  refine wpAny_bind (wpAny_attempt (wpAny_callSpecial?_slot (name := Str.ofString "__next__") hT F.slot_zip_next (wpAny_call_entry F.slot_zip_next hT F.entry_zip_next ?_ (F.args_zip_next_1 _))))
  show wpAny _ _ (field (.ref (n + 4)) 2 >>= _) _ _ _
  refine wpAny_bind (wpAny_field z0 rfl (x := .bool false) rfl ?_)
  show wpAny _ _ (field (.ref (n + 4)) 3 >>= _) _ _ _
  refine wpAny_bind (wpAny_field z0 rfl (x := .ref (n + 2)) rfl (wpAny_bind (wpAny_seqItems ti rfl ?_)))
  show wpAny _ _ (Builtin.SmallTypes.ownedTupleIsFree (.ref (n + 4)) >>= _) _ _ _
  refine wpAny_bind ?_
  unfold Builtin.SmallTypes.ownedTupleIsFree; refine wpAny_bind (wpAny_field z0 rfl (x := .none) rfl (wpAny_pure ?_))
  simp only [if_true]
  refine wpAny_bind (wpAny_rule (wpAny_bind (wpAny_field z0 rfl (x := .ref (n + 3)) rfl (wpAny_bind (wpAny_setField_rec z0 (by simp) fun j1 y1 r1 => ?_)))))
  replace y1 : IsZip j1 (n + 4) (n + 2) (n + 3) .ellipsis := y1
  refine wpAny_bind ?_
  simp only [List.forIn_cons, List.forIn_nil, List.zipIdx_cons, List.zipIdx_nil]
  refine wpAny_bind (wpAny_bind (wpAny_onRaise ?_))
  show wpAny _ _ (Builtin.SmallTypes.nextOf (.ref n) >>= _) _ _ _
  refine wpAny_bind (nx_end hh (i1.extBut r1.extBut d04) (p1.extBut r1.extBut o14) ex fun j2 e r2 he => ?_)
  obtain ⟨oe, hoe, hce⟩ := he
  have z2 : IsZip j2 (n + 4) (n + 2) (n + 3) .ellipsis := r2 _ _ d04.symm y1
  have ne : e ≠ n + 4 := fun q => by subst q; rw [z2] at hoe; cases hoe; simp at hce
  refine wpAny_setField_rec z2 (by simp) fun j3 _ r3 => ?_
  exact fin j3 e (fun c o c0 c4 q => r3.extBut _ _ c4 (r2 _ _ c0 (r1.extBut _ _ c4 q))) ⟨oe, r3.extBut _ _ ne hoe, hce⟩
end
end ZT
namespace ZT
open PySem PySem.Spec PyProof.Rows
open AutoSeq1 (wpAny_loadPart')
end ZT
namespace L2
open PySem PySem.Spec PyProof.Rows
def Itt2 (K : PySem.W.Frag) (a b : Addr) : It :=
  ⟨fun i H => ∃ xs ys x y, SqT K H a xs ∧ SqT K H b ys ∧ xs[i]? = some x ∧ ys[i]? = some y,
   fun i H v H' => ∃ t x y, v = .ref t ∧ H t = none ∧ H' = upd H t (.tup [x, y]) ∧ (∀ xs, SqT K H a xs → xs[i]? = some x) ∧ ∀ ys, SqT K H b ys → ys[i]? = some y,
   fun i H => ∃ xs, SqT K H a xs ∧ xs.length ≤ i⟩
theorem turn_ztup {P : Program} {w : World} {K : PySem.W.Frag} {elts : List Expr} {x1} {pos : Pos} (a b n : Nat) (ha : a < n) (hb : b < n) : Turn P w K (.Tuple elts x1 pos) (Itt2 K a b) [n, n + 1, n + 2, n + 3, n + 4] (n + 4) (fun i h => ZT.At2 h n a b .none i) where
  mem := by simp
  obj := fun i h st b hb => by
    obtain ⟨z0, ti, ⟨a, b', to⟩, ⟨o1, e1, c1, d1⟩, ⟨o2, e2, c2, d2⟩⟩ := st
    simp only [List.mem_cons, List.not_mem_nil, or_false] at hb
    rcases hb with rfl | rfl | rfl | rfl | rfl
    · exact ⟨_, e1, fun v q => by rw [d1] at q; cases q⟩
    · exact ⟨_, e2, fun v q => by rw [d2] at q; cases q⟩
    · exact ⟨_, ti, fun v q => by have q' : Data.seq _ _ = Data.cell v := q; cases q'⟩
    · exact ⟨_, to, fun v q => by have q' : Data.seq _ _ = Data.cell v := q; cases q'⟩
    · exact ⟨_, z0, fun v q => by have q' : Data.fields _ = Data.cell v := q; cases q'⟩
  keep := fun i h h' st k => by
    obtain ⟨z0, ti, ⟨a, b', to⟩, i1, i2⟩ := st
    exact ⟨k _ (by simp) _ z0, k _ (by simp) _ ti, ⟨a, b', k _ (by simp) _ to⟩, i1.at fun o e => k _ (by simp) o e, i2.at fun o e => k _ (by simp) o e⟩
  item := by
    intro X hP hw hK hc i pins s σ H E I hf st hg
    subst hP hw hK
    obtain ⟨xs, ys, x, y, q1, q2, e1, e2⟩ := hg
    obtain ⟨is1, r1, p1, _⟩ := I.tuple q1
    obtain ⟨is2, r2, p2, _⟩ := I.tuple q2
    obtain ⟨u, hu, ru⟩ := r1.get e1
    obtain ⟨v, hv, rv⟩ := r2.get e2
    refine ZT.item2 st ha hb (show s.heap.IsTuple a is1.toArray from p1) (show s.heap.IsTuple b is2.toArray from p2) (x := u) (y := v) (by simpa using hu) (by simpa using hv) fun h1 z1 tri kp => ⟨_, rfl, ?_⟩
    obtain ⟨z0, ti, ⟨a', b', to⟩, i1, i2⟩ := z1
    refine wpAny_letOwnedTupleGo_zip z0 fun h2 z2 sb => ?_
    have fr : H s.heap.objs.size = none := I.hok.fresh (Nat.le_refl _)
    have lt : n + 4 < s.heap.objs.size := Heap.lt_size st.z
    have d04 : n ≠ n + 4 := Z3.nq (by omega)
    have d14 : n + 1 ≠ n + 4 := Z3.nq (by omega)
    have d24 : n + 2 ≠ n + 4 := Z3.nq (by omega)
    have d34 : n + 3 ≠ n + 4 := Z3.nq (by omega)
    refine ⟨.ref s.heap.objs.size, upd H s.heap.objs.size (.tup [x, y]), I.zipped (us := [u, v]) (t' := s.toks) hf (fun b o hb e => ?_) (.cons ru (.cons rv .nil)) (by show 2 ≤ sizeLine; decide) ⟨_, sb.extBut _ _ (Nat.ne_of_gt lt) tri, rfl, _, rfl⟩, rfl,
      ⟨_, x, y, rfl, fr, rfl, fun zs hz => by rw [I.tuple_inj hz q1]; exact e1, fun zs hz => by rw [I.tuple_inj hz q2]; exact e2⟩, ⟨z2, sb.extBut _ _ d24 ti, ⟨_, _, sb.extBut _ _ d34 to⟩, i1.extBut sb.extBut d04, i2.extBut sb.extBut d14⟩, fun b hb => ?_⟩
    · simp only [List.mem_cons, List.not_mem_nil, or_false, not_or] at hb
      exact sb.extBut _ _ hb.2.2.2.2 (kp b o hb.1 hb.2.1 hb.2.2.2.1 hb.2.2.2.2 e)
    · have hlt : b < s.heap.objs.size := by
        simp only [List.mem_cons, List.not_mem_nil, or_false] at hb
        exact in5 hb lt
      rw [upd_ne (Nat.ne_of_lt hlt)]
      exact (hf b hb).1
  done := by
    intro X hP hw hK hc i pins s σ H E I hf st hg
    subst hP hw hK
    obtain ⟨xs, q1, hx⟩ := hg
    obtain ⟨is1, r1, p1, _⟩ := I.tuple q1
    have hl1 := r1.length
    refine ZT.end2 (I.ok.hd hc) st ha (show s.heap.IsTuple a is1.toArray from p1) (by simp; omega) fun h' k => ⟨rfl, I.turnedL (t' := s.toks) hf fun b o hb e => ?_⟩
    simp only [List.mem_cons, List.not_mem_nil, or_false, not_or] at hb
    exact k b o hb.1 hb.2.2.2.2 e
  self := fun _ _ _ _ _ st h => wpAny_pyIter_zip st.z h
section
variable {X : Cx} {elts : List Expr} {x1} {tpos : Pos}
/-- two lists or two tuples -/
def iZipS (K : PySem.W.Frag) (ta : TA) : TI := fun σ H R => ta σ H fun vs H1 => ∃ a b, vs = [.ref a, .ref b] ∧ (((∃ xs, SqL K H1 a xs) ∧ (∃ xs, SqL K H1 b xs) ∧ R (Itz2 K a b) H1) ∨ ((∃ xs, SqT K H1 a xs) ∧ (∃ xs, SqT K H1 b xs) ∧ R (Itt2 K a b) H1))
theorem pi_zipS {a b : Expr} {ta : TA} {p pos : Pos} (hg : Gl X "zip") (hm : X.mg "zip" = none) (ha : PA X [a, b] ta) (hs : starEach [a, b] X.env = [(false, eval a X.env), (false, eval b X.env)] := by rfl)
    (hs2 : starEach [b] X.env = [(false, eval b X.env)] := by rfl) : PI X (.Tuple elts x1 tpos) (.Call (.Name "zip" p) [a, b] [] pos) (iZipS X.K ta) := by
  intro pins s σ H R I h
  refine Call_ (ld_blt I hg hm boot_zip (PyProof.Rows.callWith_type1 (thn (ha pos pins s σ H _ I h) fun us s1 ⟨vs, H1, I1, r1, q1⟩ => ?_) (by rw [hs, hs2]) (by rw [hs2]; rfl)))
  obtain ⟨l1, l2, e, hq⟩ := q1
  subst e
  cases r1 with
  | cons r rr =>
    cases rr with
    | cons r' rr =>
      cases rr
      cases r
      cases r'
      rcases hq with ⟨⟨xs, q1⟩, ⟨ys, q2⟩, q⟩ | ⟨⟨xs, q1⟩, ⟨ys, q2⟩, q⟩
      · obtain ⟨is1, _, p1, _⟩ := I1.list q1
        obtain ⟨is2, _, p2, _⟩ := I1.list q2
        refine Z3.call_zip2 p1.isList p2.isList fun h2 z2 k2 => wpAny_pyIter_zip z2.z ?_
        refine ⟨_, _, _, _, H1, rfl, I1.kept (t' := s1.toks) k2, turn_zip2 l1 l2 s1.heap.objs.size, z2, fun b hb => ?_, q⟩
        have hb' : s1.heap.objs.size ≤ b := by
          simp only [List.mem_cons, List.not_mem_nil, or_false] at hb
          exact ge5 hb
        exact I1.fpOk hb' (I1.hok.fresh hb')
      · obtain ⟨is1, _, p1, _⟩ := I1.tuple q1
        obtain ⟨is2, _, p2, _⟩ := I1.tuple q2
        refine ZT.call_zip2 (show s1.heap.IsTuple l1 is1.toArray from p1) (show s1.heap.IsTuple l2 is2.toArray from p2) fun h2 z2 k2 => wpAny_pyIter_zip z2.z ?_
        refine ⟨_, _, _, _, H1, rfl, I1.kept (t' := s1.toks) k2, turn_ztup l1 l2 s1.heap.objs.size p1.lt p2.lt, z2, fun b hb => ?_, q⟩
        have hb' : s1.heap.objs.size ≤ b := by
          simp only [List.mem_cons, List.not_mem_nil, or_false] at hb
          exact ge5 hb
        exact I1.fpOk hb' (I1.hok.fresh hb')
end
end L2
namespace ZT
open PySem PySem.Spec PyProof.Rows HT
theorem fm_congr {f g : Nat → Option Value} : ∀ {l : List Nat}, (∀ k ∈ l, f k = g k) → l.filterMap f = l.filterMap g
  | [], _ => rfl
  | k :: l, h => by rw [List.filterMap_cons, List.filterMap_cons, h k (.head _), fm_congr (fun x hx => h x (.tail _ hx))]
theorem rev_pick (xs : Array Value) : ((List.range xs.size).filterMap fun (k : Nat) => xs[(((xs.size : Nat) : Int) - 1 + (k : Int) * (-1)).toNat]?).toArray = xs.toList.reverse.toArray := by
  have e : ((List.range xs.size).filterMap fun (k : Nat) => xs[(((xs.size : Nat) : Int) - 1 + (k : Int) * (-1)).toNat]?) = ((List.range xs.size).filterMap fun (k : Nat) => xs.toList.reverse.toArray[(((0 : Nat) : Int) + (k : Int) * 1).toNat]?) := by
    refine fm_congr fun k hk => ?_
    have hk' : k < xs.size := List.mem_range.mp hk
    have e1 : (((xs.size : Nat) : Int) - 1 + (k : Int) * (-1)).toNat = xs.size - 1 - k := by omega
    have e2 : (((0 : Nat) : Int) + (k : Int) * 1).toNat = k := by omega
    rw [e1, e2]
    have z1 : xs.toList.reverse.toArray[k]? = xs.toList.reverse[k]? := by simp
    have z2 : xs[xs.size - 1 - k]? = xs.toList[xs.size - 1 - k]? := by simp
    rw [z1, z2, List.getElem?_reverse (by rw [Array.length_toList]; exact hk'), Array.length_toList]
  rw [e]
  have z := pick_gen xs.toList.reverse.toArray 0 xs.size
  rw [z]
  rw [List.drop_zero, List.take_of_length_le (by simp)]
section
variable {prog : Program} {w : World} {A : Around} {E : Value → Shared → Prop} {s : Shared}
theorem getItem_rev {t sl : Addr} {its : Array Value} {tk : Tok} {Q : Value → Shared → Prop} (ht : IsTup s.heap t its) (hs : s.heap.IsSliceOf sl .none .none (.int (-1) tk)) (hsz : its.size ≤ sizeLine)
    (h : Q (.ref s.heap.objs.size) { s with heap := s.heap.push { cls := .type "tuple", data := .seq its.toList.reverse.toArray } }) : wpAny (model prog w) A (getItem (.ref t) (.ref sl)) Q E s := by
  have hok : sizeOk (.seq its.toList.reverse.toArray) := by
    show its.toList.reverse.toArray.size ≤ sizeLine
    simpa using hsz
  obtain ⟨os, hos, hcs, hds⟩ := id hs
  have hTs : s.TypeIs (.ref sl) "slice" := ⟨os, hos, hcs⟩
  unfold getItem; try with_reducible refine wpAny_holding ?_
  first | refine wpAny_bind (wpAny_pure ?_) | skip
  refine wpAny_bind (wpAny_sequenceKey ht.typeIs (by decide) (wpAny_bind (wpAny_callSpecial?_slot (name := Str.ofString "__getitem__") ht.typeIs PyProof.Rows.slot_tuple_getitem (wpAny_call_entry PyProof.Rows.slot_tuple_getitem ht.typeIs entry_tuple_getitem ?_ (args_tuple_getitem _ _)))))
  show wpAny _ _ (Builtin.Tuple.tupleItemsOf (.ref t) >>= _) _ _ s
  refine wpAny_bind (tupleItemsOf_ ht (wpAny_bind (wpAny_typeOf hTs ?_)))
  rw [if_pos (by decide)]; refine wpAny_bind ?_
  unfold Builtin.Slice.sliceApplied Builtin.Slice.sliceFields; refine wpAny_bind (wpAny_bind (wpAny_field hos hds (x := .none) rfl (wpAny_bind (wpAny_field hos hds (x := .none) rfl (wpAny_bind (wpAny_field hos hds (x := .int (-1) tk) rfl (wpAny_pure ?_)))))))
  refine wpAny_bind (slicePart_int ?_)
  show wpAny _ _ (if ((-1 : Int) == 0) = true then _ else _) _ _ s
  rw [if_neg (by decide)]
  refine wpAny_bind (slicePart_none (wpAny_bind (slicePart_none (wpAny_bind (wpAny_pure ?_)))))
  have ea : Builtin.Slice.sliceAdjust none none (-1) (its.size : Int) = (((its.size : Nat) : Int) - 1, -1) := rfl
  have ep : Builtin.Slice.slicePlaces (((its.size : Nat) : Int) - 1) (-1) (-1) = its.size := by
    unfold Builtin.Slice.slicePlaces
    rw [if_neg (by decide)]
    by_cases z : ((its.size : Nat) : Int) - 1 > -1
    · rw [if_pos z]
      have e2 : (((its.size : Nat) : Int) - 1 - -1 - 1) / (- -1) = ((its.size : Nat) : Int) - 1 := by
        show (((its.size : Nat) : Int) - 1 - -1 - 1) / 1 = _
        rw [Int.ediv_one]; omega
      rw [e2]; omega
    · rw [if_neg z]; omega
  show wpAny _ _ (match Builtin.Slice.sliceAdjust none none (-1) (its.size : Int) with | (lo, hi) => pure (lo, (-1 : Int), Builtin.Slice.slicePlaces lo hi (-1))) _ _ s
  rw [ea]
  show wpAny _ _ (pure ((((its.size : Nat) : Int) - 1), (-1 : Int), Builtin.Slice.slicePlaces (((its.size : Nat) : Int) - 1) (-1) (-1))) _ _ s
  rw [ep]; refine wpAny_pure ?_
  show wpAny _ _ (if (((((its.size : Nat) : Int) - 1) == 0) && ((-1 : Int) == 1) && (its.size == its.size)) = true then _ else _) _ _ s
  rw [if_neg (by simp), rev_pick]
  first
    | exact wpAny_bind (m := Builtin.Tuple.tupleExact _) (wpAny_newObj_type (wpAny_pure ⟨_, rfl, wpAny_pure h⟩) hok)
    | exact wpAny_bind (m := Builtin.Tuple.tupleExact _) (wpAny_newObj_type (wpAny_bind (wpAny_pure (wpAny_pure ⟨_, rfl, wpAny_pure h⟩))) hok)
    | exact wpAny_bind (wpAny_bind (m := Builtin.Tuple.tupleExact _) (wpAny_newObj_type (wpAny_pure (wpAny_pure ⟨_, rfl, wpAny_pure h⟩)) hok))
    | exact wpAny_bind (wpAny_bind (m := Builtin.Tuple.tupleExact _) (wpAny_newObj_type (wpAny_pure ⟨_, rfl, wpAny_pure h⟩) hok))
end
end ZT
namespace L2
open PySem PySem.Spec PyProof.Rows
section
variable {X : Cx} {e : Expr} {te : TE} {p0 p1 p2 pos : Pos} {k0 : Nat}
/-- t[::-1] -/
def tRev (K : PySem.W.Frag) (te : TE) : TE := fun σ H Q => te σ H fun x H1 => ∃ a xs, x = .ref a ∧ SqT K H1 a xs ∧ ∀ p H', Same H1 H' → H' p = some (.tup xs.reverse) → Q (.ref p) H'
theorem pe_rev (he : PE X e te) : PE X (.Subscript e (.Slice none none (some (.UnaryOp .USub (.Constant (.int 1) k0 p0) p1)) p2) pos) (tRev X.K te) := by
  intro pins s σ H Q I h
  refine Subscript_ (thn (he pins s σ H _ I h) fun v s1 ⟨x, H1, I1, r1, a, xs, ex, hq, q⟩ => ?_)
  subst ex
  cases r1
  refine wpAny_Slice ?_
  rw [evalPart_none]
  refine wpAny_pure (wpAny_pure ?_)
  rw [evalPart_some]
  refine thn (pe_un un_neg pe_int pins s1 σ H1 (fun y H2 => y = .int (-1) ∧ H2 = H1) I1 ⟨1, rfl, rfl, rfl⟩) fun vs s2 ⟨y, H2, I2, r2, ey, eH⟩ => ?_
  subst ey eH
  obtain ⟨tk, rfl⟩ := r2
  have I3 : Inv X pins σ H2 { s2 with heap := s2.heap.push { cls := .type "slice", data := .fields #[.none, .none, .int (-1) tk] } } := I2.kept (t' := s2.toks) fun b ob q => Heap.get?_push_of_some _ q
  obtain ⟨its, rv, p, hz⟩ := I3.tuple hq
  have hl := rv.length
  show wpAny (model X.prog X.w) X.A (subscriptTail e (.Slice none none (some (.UnaryOp .USub (.Constant (.int 1) k0 p0) p1)) p2) (.ref a) (.ref s2.heap.objs.size)) (EP X pins σ Q) X.xe { s2 with heap := s2.heap.push { cls := .type "slice", data := .fields #[.none, .none, .int (-1) tk] } }
  refine tail_any (ops := [.ref a, .ref s2.heap.objs.size]) p.typeIs PyProof.Rows.slot_tuple_getitem.lookup ?_ (by with_unfolding_all rfl)
  have fr : H2 (s2.heap.push { cls := .type "slice", data := .fields #[.none, .none, .int (-1) tk] }).objs.size = none := I3.hok.fresh (Nat.le_refl _)
  refine ZT.getItem_rev p (Heap.IsSliceOf.new ..) (by simpa using (hl ▸ hz)) ⟨.ref _, _, I3.laid (t' := s2.toks) (o := .tup xs.reverse) (fun b ob q => Heap.get?_push_of_some _ q) (Nat.le_refl _) ⟨by simpa using hz, its.reverse, rv.reverse, ?_⟩, rfl, q _ _ ((Same.refl H2).upd fr) upd_same⟩
  exact IsTup.new _ _
end
end L2
namespace L2
open PySem PySem.Spec PyProof.Rows
section
variable {κ : Type} [DecidableEq κ]
def valV (kvs : List (κ × V)) (k : κ) : Option V := (kvs.find? fun kv => decide (kv.1 = k)).map (·.2)
/-- in its place, or at the end -/
def putK (kvs : List (κ × V)) (k : κ) (v : V) : List (κ × V) :=
  if (kvs.any fun kv => decide (kv.1 = k)) = true then kvs.map (fun kv => if kv.1 = k then (kv.1, v) else kv) else kvs ++ [(k, v)]
theorem valV_pos {p : κ × V} {r : List (κ × V)} {k : κ} (e : p.1 = k) : valV (p :: r) k = some p.2 := by simp [valV, List.find?_cons, e]
theorem valV_neg {p : κ × V} {r : List (κ × V)} {k : κ} (e : ¬ p.1 = k) : valV (p :: r) k = valV r k := by simp [valV, List.find?_cons, e]
theorem valV_any (k : κ) : ∀ kvs : List (κ × V), (kvs.any fun kv => decide (kv.1 = k)) = (valV kvs k).isSome
  | [] => rfl
  | p :: r => by
    rw [List.any_cons]
    by_cases e : p.1 = k
    · simp only [valV_pos e, decide_eq_true e, Bool.true_or, Option.isSome_some]
    · rw [valV_neg e, decide_eq_false e, Bool.false_or]; exact valV_any k r
theorem valV_map (k j : κ) (y : V) : ∀ kvs : List (κ × V), valV (kvs.map fun kv => if kv.1 = k then (kv.1, y) else kv) j = (valV kvs j).map fun x => if j = k then y else x
  | [] => rfl
  | p :: r => by
    have ih := valV_map k j y r
    rw [List.map_cons]
    by_cases h : p.1 = k
    · rw [if_pos h]
      by_cases e : p.1 = j
      · rw [valV_pos (p := (p.1, y)) e, valV_pos e, Option.map_some, if_pos (e.symm.trans h)]
      · rw [valV_neg (p := (p.1, y)) e, valV_neg e, ih]
    · rw [if_neg h]
      by_cases e : p.1 = j
      · rw [valV_pos (p := p) e, valV_pos e, Option.map_some, if_neg (fun z => h (e.trans z))]
      · rw [valV_neg (p := p) e, valV_neg e, ih]
theorem valV_snoc (k j : κ) (y : V) : ∀ kvs : List (κ × V), valV kvs k = none → valV (kvs ++ [(k, y)]) j = if j = k then some y else valV kvs j
  | [], _ => by
    by_cases e : k = j
    · rw [if_pos e.symm]; exact valV_pos (p := (k, y)) e
    · rw [if_neg (fun z => e z.symm)]; exact valV_neg (p := (k, y)) e
  | p :: r, hn => by
    rw [List.cons_append]
    have hk : ¬ p.1 = k := fun z => by rw [valV_pos z] at hn; cases hn
    rw [valV_neg hk] at hn
    have ih := valV_snoc k j y r hn
    by_cases e : p.1 = j
    · rw [valV_pos e, valV_pos e, if_neg (fun z => hk (e.trans z))]
    · rw [valV_neg e, valV_neg e, ih]
theorem valV_put (kvs : List (κ × V)) (k j : κ) (y : V) : valV (putK kvs k y) j = if j = k then some y else valV kvs j := by
  unfold putK
  by_cases a : (kvs.any fun kv => decide (kv.1 = k)) = true
  · rw [if_pos a, valV_map]
    rw [valV_any] at a
    by_cases e : j = k
    · obtain ⟨x, hx⟩ := Option.isSome_iff_exists.mp a
      rw [if_pos e, e, hx, Option.map_some, if_pos rfl]
    · rw [if_neg e]
      cases valV kvs j with
      | none => rfl
      | some x => rw [Option.map_some, if_neg e]
  · rw [if_neg a]
    refine valV_snoc k j y kvs ?_
    rw [valV_any] at a
    cases q : valV kvs k with
    | none => rfl
    | some x => rw [q] at a; exact (a rfl).elim
theorem length_putK (kvs : List (κ × V)) (k : κ) (v : V) : (putK kvs k v).length ≤ kvs.length + 1 := by
  unfold putK
  split
  · rw [List.length_map]; omega
  · rw [List.length_append, List.length_cons, List.length_nil]; omega
theorem RelO.isSome_eq {o : Option V} {u : Option Value} (r : RelO o u) : o.isSome = u.isSome := by
  cases o with
  | none => cases u with
    | none => rfl
    | some _ => exact (show False from r).elim
  | some _ => cases u with
    | none => exact (show False from r).elim
    | some _ => rfl
/-- raw tables of the same keys -/
theorem KV.val {kvs : List (κ × V)} {vs : List (κ × Value)} (r : KV kvs vs) (k : κ) : RelO (valV kvs k) (valueAt vs k) := by
  unfold KV at r
  induction r with
  | nil => exact True.intro
  | @cons p q ps qs h t ih =>
    obtain ⟨h1, h2⟩ := h
    by_cases e : p.1 = k
    · have e' : q.1 = k := h1.symm.trans e
      have b : valueAt (q :: qs) k = some q.2 := by simp [valueAt, List.find?_cons, e']
      rw [valV_pos e, b]; exact h2
    · have e' : ¬ q.1 = k := fun z => e (h1.trans z)
      have b : valueAt (q :: qs) k = valueAt qs k := by simp [valueAt, List.find?_cons, e']
      rw [valV_neg e, b]; exact ih
theorem KV.any {kvs : List (κ × V)} {vs : List (κ × Value)} (r : KV kvs vs) (k : κ) : (kvs.any fun kv => decide (kv.1 = k)) = vs.any fun kv => decide (kv.1 = k) := by
  unfold KV at r
  induction r with
  | nil => rfl
  | cons h t ih => rw [List.any_cons, List.any_cons, ih, h.1]
theorem KV.repl {kvs : List (κ × V)} {vs : List (κ × Value)} (r : KV kvs vs) (k : κ) {y : V} {u : Value} (ry : RelV y u) :
    KV (kvs.map fun kv => if kv.1 = k then (kv.1, y) else kv) (vs.map fun kv => if kv.1 = k then (kv.1, u) else kv) := by
  unfold KV at r ⊢
  induction r with
  | nil => exact .nil
  | @cons p q ps qs h t ih =>
    rw [List.map_cons, List.map_cons]
    refine .cons ?_ ih
    obtain ⟨h1, h2⟩ := h
    by_cases e : p.1 = k
    · rw [if_pos e, if_pos (h1.symm.trans e)]; exact ⟨h1, ry⟩
    · rw [if_neg e, if_neg (fun z => e (h1.trans z))]; exact ⟨h1, h2⟩
theorem KV.put {kvs : List (κ × V)} {vs : List (κ × Value)} (r : KV kvs vs) (k : κ) {y : V} {u : Value} (ry : RelV y u) : KV (putK kvs k y) (stored vs k u) := by
  unfold putK stored
  rw [r.any k]
  by_cases e : (vs.any fun kv => decide (kv.1 = k)) = true
  · rw [if_pos e, if_pos e]; exact r.repl k ry
  · rw [if_neg e, if_neg e]; exact Paired.snoc r ⟨rfl, ry⟩
theorem KV.length {kvs : List (κ × V)} {vs : List (κ × Value)} (r : KV kvs vs) : kvs.length = vs.length := Paired.length r
end
theorem kV_is {P : Program} {w : World} {k : Key} {u : Value} (r : RelV (kV k) u) : (mixKind P w).is k u = true := by
  cases k with
  | inl i => obtain ⟨t, e⟩ := (show ∃ t, u = Value.int i t from r); subst e; exact mixKind_int P w i t
  | inr x => obtain ⟨t, e⟩ := (show ∃ t, u = Value.str x t from r); subst e; exact mixKind_str P w x t
theorem items_are {P : Program} {w : World} : ∀ {ks : List Key} {us : List Value}, Vals (ks.map kV) us → ItemsAre (mixKind P w) ks us
  | [], _, r => by rw [List.map_nil] at r; cases r; exact .nil
  | k :: ks, _, r => by
    rw [List.map_cons] at r
    cases r with
    | cons h t => exact .cons (kV_is h) (items_are t)
/-- raw entries of a dict with tuple keys -/
abbrev KT (H : Hp) : List (List Key × V) → List (List Key × Addr × Value) → Prop := Paired fun p q => p.1 = q.1 ∧ H q.2.1 = some (.tup (p.1.map kV)) ∧ RelV p.2 q.2.2
theorem KT.val {H : Hp} {kvs : List (List Key × V)} {xs : List (List Key × Addr × Value)} (r : KT H kvs xs) (k : List Key) : RelO (valV kvs k) ((atKey xs k).map (·.2)) := by
  induction r with
  | nil => exact True.intro
  | @cons p q ps qs h t ih =>
    obtain ⟨h1, _, h2⟩ := h
    by_cases e : p.1 = k
    · have e' : q.1 = k := h1.symm.trans e
      have b : atKey (q :: qs) k = some q.2 := by simp [atKey, List.find?_cons, e']
      rw [valV_pos e, b]; exact h2
    · have e' : ¬ q.1 = k := fun z => e (h1.trans z)
      have b : atKey (q :: qs) k = atKey qs k := by simp [atKey, List.find?_cons, e']
      rw [valV_neg e, b]; exact ih
theorem KT.repl {H : Hp} {kvs : List (List Key × V)} {xs : List (List Key × Addr × Value)} (r : KT H kvs xs) (k : List Key) {y : V} {u : Value} (ry : RelV y u) :
    KT H (kvs.map fun kv => if kv.1 = k then (kv.1, y) else kv) (xs.map (putAt k u)) := by
  induction r with
  | nil => exact .nil
  | @cons p q ps qs h t ih =>
    rw [List.map_cons, List.map_cons]
    refine .cons ?_ ih
    obtain ⟨h1, h2, h3⟩ := h
    unfold putAt
    by_cases e : p.1 = k
    · rw [if_pos e, if_pos (h1.symm.trans e)]; exact ⟨h1, h2, ry⟩
    · rw [if_neg e, if_neg (fun z => e (h1.trans z))]; exact ⟨h1, h2, h3⟩
theorem KT.put {H : Hp} {kvs : List (List Key × V)} {xs : List (List Key × Addr × Value)} (r : KT H kvs xs) (k : List Key) {b : Addr} {y : V} {u : Value} (hb : H b = some (.tup (k.map kV))) (ry : RelV y u) :
    KT H (putK kvs k y) (storedH xs k b u) := by
  have e : (kvs.any fun kv => decide (kv.1 = k)) = (atKey xs k).isSome := by
    rw [valV_any, (r.val k).isSome_eq, Option.isSome_map]
  unfold putK storedH
  rw [e]
  by_cases q : (atKey xs k).isSome = true
  · rw [if_pos q, if_pos q]; exact r.repl k ry
  · rw [if_neg q, if_neg q]; exact Paired.snoc r ⟨rfl, hb, ry⟩
theorem KT.keeps {H H' : Hp} {kvs : List (List Key × V)} {xs : List (List Key × Addr × Value)} (r : KT H kvs xs) (ht : ∀ b ys, H b = some (.tup ys) → H' b = some (.tup ys)) : KT H' kvs xs :=
  Paired.mapP r fun _ _ z => ⟨z.1, ht _ _ z.2.1, z.2.2⟩
section
variable {P : Program} {w : World} {H : Hp} {h : Heap} {a : Addr}
theorem rd_of {u : HO} (ok : HOk P w H h) (e : Rd H a u) : ObjOk P w H h a u := e.ok ok
theorem dk_rd {kvs : List (Key × V)} (ok : HOk P w H h) (e : Rd H a (.dK kvs)) : kvs.length ≤ sizeLine ∧ (a == sysModules) = false ∧ ∃ vs, KV kvs vs ∧ h.DictOf (mixKind P w) a vs :=
  show ObjOk P w H h a (.dK kvs) from rd_of ok e
theorem dk_of {kvs : List (Key × V)} (ok : HOk P w H h) (e : H a = some (.dK kvs)) : kvs.length ≤ sizeLine ∧ (a == sysModules) = false ∧ ∃ vs, KV kvs vs ∧ h.DictOf (mixKind P w) a vs := dk_rd ok (.inl e)
/-- a tracked tuple of ints and texts is a key -/
theorem key_of {ks : List Key} (ok : HOk P w H h) (e : H a = some (.tup (ks.map kV))) : (tupleKind (mixKind P w)).is h ks a := by
  obtain ⟨_, its, r, o, h1, h2, n, h3⟩ := (show ObjOk P w H h a (.tup (ks.map kV)) from ok a _ e)
  exact ⟨o, its.toArray, n, h1, h2, h3, by simpa using items_are r⟩
theorem dt_rd {kvs : List (List Key × V)} (ok : HOk P w H h) (e : Rd H a (.dT kvs)) : kvs.length ≤ sizeLine ∧ (a == sysModules) = false ∧
    ∃ xs, KT H kvs xs ∧ h.DictOfH (tupleKind (mixKind P w)) a xs := by
  obtain ⟨z, y, xs, r, o, es, ep, h1, h2, h3, h4, h5⟩ := (show ObjOk P w H h a (.dT kvs) from rd_of ok e)
  refine ⟨z, y, xs, r, o, es, ep, h1, h2, h3, h4, fun x hx => ?_, h5⟩
  have all : ∀ {l : List (List Key × V)} {m : List (List Key × Addr × Value)}, KT H l m → ∀ x ∈ m, (tupleKind (mixKind P w)).is h x.1 x.2.1 := by
    intro l m q
    induction q with
    | nil => intro x hx; exact nomatch hx
    | @cons p q ps qs hq t ih =>
      intro x hx
      rcases List.mem_cons.mp hx with e | hx
      · subst e
        exact key_of ok (by rw [← hq.1]; exact hq.2.1)
      · exact ih x hx
  exact all r x hx
theorem dt_of {kvs : List (List Key × V)} (ok : HOk P w H h) (e : H a = some (.dT kvs)) : kvs.length ≤ sizeLine ∧ (a == sysModules) = false ∧
    ∃ xs, KT H kvs xs ∧ h.DictOfH (tupleKind (mixKind P w)) a xs := dt_rd ok (.inl e)
end
/-- what the dict at a holds at the key y -/
def DGet (H : Hp) (a : Addr) (y : V) (r : Option V) : Prop :=
  (∃ kvs k, Rd H a (.dK kvs) ∧ y = kV k ∧ r = valV kvs k) ∨ ∃ kvs k b, Rd H a (.dT kvs) ∧ y = .ref b ∧ H b = some (.tup (k.map kV)) ∧ r = valV kvs k
/-- the heap behind a[y] = v -/
def DPut (H : Hp) (a : Addr) (y v : V) (H' : Hp) : Prop :=
  (∃ kvs k, H a = some (.dK kvs) ∧ y = kV k ∧ kvs.length < sizeLine ∧ H' = upd H a (.dK (putK kvs k v))) ∨
  ∃ kvs k b, H a = some (.dT kvs) ∧ y = .ref b ∧ H b = some (.tup (k.map kV)) ∧ kvs.length < sizeLine ∧ H' = upd H a (.dT (putK kvs k v))
theorem DGet.k {H : Hp} {a : Addr} {kvs : List (Key × V)} {k : Key} (e : H a = some (.dK kvs)) : DGet H a (kV k) (valV kvs k) := .inl ⟨kvs, k, .inl e, rfl, rfl⟩
theorem DPut.k {H : Hp} {a : Addr} {kvs : List (Key × V)} {k : Key} {v : V} (e : H a = some (.dK kvs)) (hl : kvs.length < sizeLine) : DPut H a (kV k) v (upd H a (.dK (putK kvs k v))) := .inl ⟨kvs, k, e, rfl, hl, rfl⟩
section
variable {X : Cx} {pins : List (Addr × Obj)} {σ : St} {H : Hp} {s : Shared} {a : Addr} {y v : V} {u r : Value} {o : Option V} {A : Around} {E : Value → Shared → Prop}
/-- d[y], there -/
theorem d_getItem {Q : Value → Shared → Prop} (hu : A.units + 1 < cLine) (I : Inv X pins σ H s) (g : DGet H a y (some v)) (ry : RelV y u) (h : ∀ w' s', Inv X pins σ H s' → RelV v w' → Q w' s') :
    wpAny (model X.prog X.w) A (getItem (.ref a) u) Q E s := by
  rcases g with ⟨kvs, k, e, ey, l⟩ | ⟨kvs, k, b, e, ey, eb, l⟩
  · subst ey
    obtain ⟨z, hd, vs, rel, dd⟩ := dk_rd I.hok e
    obtain ⟨w', hw, rw'⟩ := RelO.some_of (v := v) (o := valueAt vs k) (by rw [l]; exact rel.val k)
    exact wpAny_getItem_of (kV_is ry) dd.mapOf hw (h w' _ (I.tok _) rw')
  · subst ey
    cases (show u = Value.ref b from ry)
    obtain ⟨z, hd, xs, rel, dd⟩ := dt_rd I.hok e
    obtain ⟨w', hw, rw'⟩ := RelO.some_of (v := v) (o := (atKey xs k).map (·.2)) (by rw [l]; exact rel.val k)
    obtain ⟨p, hp, hp2⟩ := Option.map_eq_some_iff.mp hw
    refine wpAny_getItem_heap (tupleKind_room_in1 hu) (key_of I.hok eb) dd hp ?_
    rw [hp2]
    exact h w' _ (I.tok _) rw'
/-- a dict's object is replaced -/
theorem d_write {h' : Heap} {t' : Nat} {ob : HO} (I : Inv X pins σ H s) (mu : Mut (H a)) (hs : Heap.SameBut a s.heap h') (he : ∃ q, h'.get? a = some q) (new : ObjOk X.prog X.w (upd H a ob) h' a ob) :
    Inv X pins σ (upd H a ob) { s with heap := h', toks := t' } :=
  I.write (x := a) (e := a) mu (.inl rfl) (fun b q hb z => (hs.2 b hb).trans z) he new
theorem dk_new {P : Program} {w : World} {H' : Hp} {h' : Heap} {kvs : List (Key × V)} {vs : List (Key × Value)} (z : kvs.length ≤ sizeLine) (hd : (a == sysModules) = false) (rel : KV kvs vs) (dd : h'.DictOf (mixKind P w) a vs) :
    ObjOk P w H' h' a (.dK kvs) := ⟨z, hd, vs, rel, dd⟩
/-- d[y] = v -/
theorem d_setItem {H' : Hp} {Q : Unit → Shared → Prop} (hu : A.units + 1 < cLine) (I : Inv X pins σ H s) (g : DPut H a y v H') (ry : RelV y u) (rv : RelV v r) (h : ∀ s', Inv X pins σ H' s' → Q () s') :
    wpAny (model X.prog X.w) A (setItem (.ref a) u r) Q E s := by
  rcases g with ⟨kvs, k, e, ey, l, eH⟩ | ⟨kvs, k, b, e, ey, eb, l, eH⟩
  · subst ey eH
    obtain ⟨z, hd, vs, rel, dd⟩ := dk_of I.hok e
    have hz : vs.length ≤ sizeLine := by rw [← rel.length]; exact z
    have hl : (putK kvs k v).length ≤ sizeLine := by have := length_putK kvs k v; omega
    refine wpAny_setItem_pairs (hsz := hz) (kV_is ry) dd fun h' dd' hs => h _ ?_
    have he : ∃ q, h'.get? a = some q := let ⟨q, _, _, hq, _⟩ := dd'; ⟨q, hq⟩
    exact d_write I (by rw [e]; exact True.intro) hs he (dk_new hl hd (rel.put k rv) dd')
  · subst ey eH
    cases (show u = Value.ref b from ry)
    obtain ⟨z, hd, xs, rel, dd⟩ := dt_of I.hok e
    have hz : xs.length ≤ sizeLine := by rw [← Paired.length rel]; exact z
    have hl : (putK kvs k v).length ≤ sizeLine := by have := length_putK kvs k v; omega
    refine wpAny_setItem_heap (hsz := hz) (tupleKind_room_in1 hu) (key_of I.hok eb) dd fun h' dd' hs => h _ ?_
    obtain ⟨q, es, ep, hq, h2, h3, h4, _, h5⟩ := dd'
    refine d_write I (by rw [e]; exact True.intro) hs ⟨q, hq⟩ ⟨hl, hd, _, (rel.put k eb rv).keeps fun c ys ec => ?_, q, es, ep, hq, h2, h3, h4, h5⟩
    rw [upd_ne (ne_of ec e (fun z => nomatch z))]
    exact ec
end
/-- the element of a subscription, not a slice -/
def NoSl (i : Expr) : Prop := ∀ ov iv, subscripted i false ov iv = operate [ov, iv] (getItem ov iv)
theorem subD_of {prog : Program} {w : World} {A : Around} {E : Value → Shared → Prop} {s : Shared} {env : Env} {value slice : Expr} {pos : Pos} {T id : String} {Q : Value → Shared → Prop}
    (hl : typeLookup (.type T) "__getitem__" = pure (some (.builtin id))) (hs : NoSl slice)
    (h : wpAny (model prog w) A (eval value env) (fun o s₁ => wpAny (model prog w) A (eval slice env) (fun i s₂ => s₂.TypeIs o T ∧ wpAny (model prog w) A (getItem o i) Q E s₂) E s₁) E s) :
    wpAny (model prog w) A (eval (.Subscript value slice pos) env) Q E s := by
  refine Subscript_ (wpAny_mono h (fun o s₁ h₁ => wpAny_mono h₁ (fun i s₂ h₂ => ?_) fun _ _ x => x) fun _ _ x => x)
  obtain ⟨hT, h₂⟩ := h₂
  unfold subscriptTail
  refine wpAny_bind ?_
  rw [getitemInPython_of_ne hT.not_modules]
  refine wpAny_bind (wpAny_specialOf hT hl ?_)
  have fin : wpAny (model prog w) A (subscripted slice false o i) (fun r s₃ => wpAny (model prog w) A (letTemporaryGo value o r >>= fun _ => pure r) Q E s₃) E s₂ := by
    rw [hs o i]
    exact wpAny_operating (wpAny_mono h₂ (fun r s₃ h₃ => wpAny_bind (wpAny_letTemporaryGo (wpAny_pure h₃))) fun _ _ x => x)
  first
    | exact wpAny_pure (wpAny_bind fin)
    | exact wpAny_bind (wpAny_pure (wpAny_bind fin))
    | exact wpAny_bind fin
theorem dict_typeIs {X : Cx} {pins : List (Addr × Obj)} {σ : St} {H : Hp} {s : Shared} {a : Addr} {y : V} {o : Option V} (I : Inv X pins σ H s) (g : DGet H a y o) : s.TypeIs (.ref a) "dict" := by
  rcases g with ⟨kvs, k, e, _, _⟩ | ⟨kvs, k, b, e, _, _, _⟩
  · obtain ⟨_, _, vs, _, dd⟩ := dk_rd I.hok e
    exact dd.typeIs
  · obtain ⟨_, _, xs, _, dd⟩ := dt_rd I.hok e
    exact dd.typeIs
/-- d[y] -/
def tDGet (td ty : TE) : TE := fun σ H Q => td σ H fun x H1 => ty σ H1 fun y H2 => ∃ a v, x = .ref a ∧ DGet H2 a y (some v) ∧ Q v H2
/-- d[y] = v -/
def sDPut (td ty tv : TE) : TS := fun D σ H => tv σ H fun v H1 => td σ H1 fun x H2 => ty σ H2 fun y H3 => ∃ a H4, x = .ref a ∧ DPut H3 a y v H4 ∧ D.nx σ H4
section
variable {X : Cx} {o i e value : Expr} {pos pos' tpos : Pos} {td ty tv : TE}
theorem pe_dget (hu : X.A.units + 1 < cLine) (ho : PE X o td) (hi : PE X i ty) (hs : NoSl i) : PE X (.Subscript o i pos) (tDGet td ty) := by
  intro pins s σ H Q I h
  refine subD_of PySem.F.slot_dict_getitem.lookup hs (thn (ho pins s σ H _ I h) fun u s1 ⟨x, H1, I1, rx, q1⟩ => thn (hi pins s1 σ H1 _ I1 q1) fun iv s2 ⟨y, H2, I2, ry, a, v, ex, g, q2⟩ => ?_)
  subst ex
  obtain rfl : u = Value.ref a := rx
  exact ⟨dict_typeIs I2 g, d_getItem hu I2 g ry fun w' s3 I3 rw' => ⟨v, H2, I3, rw', q2⟩⟩
theorem ps_dput (hu : X.A.units + 1 < cLine) (ho : PE X o td) (hi : PE X i ty) (hv : PE X value tv) (hs : swapsWith value (some (.Subscript o i pos')) pos.line X.env = pure false) :
    PS X (.Assign [.Subscript o i pos'] value pos) (sDPut td ty tv) := by
  intro pins s σ H D I h
  refine wpAny_Assign_Subscript (thn (hv pins s σ H _ I h) fun r s1 ⟨v, H1, I1, rv, q1⟩ => thn (ho pins s1 σ H1 _ I1 q1) fun u s2 ⟨x, H2, I2, rx, q2⟩ => thn (hi pins s2 σ H2 _ I2 q2) fun iv s3 ⟨y, H3, I3, ry, a, H4, ex, g, q3⟩ => ?_) hs
  subst ex
  obtain rfl : u = Value.ref a := rx
  exact d_setItem hu I3 g ry rv fun s4 I4 => ⟨σ, H4, I4, q3⟩
end
section
variable {X : Cx} {pins : List (Addr × Obj)} {σ : St} {H : Hp} {s : Shared} {a : Addr} {kvs : List (Key × V)} {A : Around} {E : Value → Shared → Prop}
theorem d_copyOf {Q : Value → Shared → Prop} (I : Inv X pins σ H s) (e : Rd H a (.dK kvs)) (h : ∀ p s', H p = none → Inv X pins σ (upd H p (.dK kvs)) s' → Q (.ref p) s') : wpAny (model X.prog X.w) A (call (.type "dict") [.ref a]) Q E s := by
  obtain ⟨z, hd, vs, rel, dd⟩ := dk_rd I.hok e
  refine kt_call_dict hd dd (by rw [← rel.length]; exact z) fun h' dd' hs => ?_
  refine h _ _ (I.hok.fresh (Nat.le_refl _)) (I.laid (a := s.heap.objs.size) (o := .dK kvs) (t' := s.toks) (fun b q hq => ?_) (Nat.le_refl _) (dk_new z (beq_eq_false_iff_ne.mpr (Ne.symm (Nat.ne_of_lt I.big))) rel dd'))
  exact (hs.2 b (Nat.ne_of_lt (Heap.lt_size hq))).trans (Heap.get?_push_of_some _ hq)
end
end L2
namespace L2
open PySem PySem.Spec PyProof.Rows
end L2
namespace L2
open PySem PySem.Spec PyProof.Rows
section
variable {X : Cx}
theorem vals_intT : ∀ {ns : List Int} {us : List Value}, Vals (ns.map V.int) us → ∃ xs : List (Int × Tok), us = xs.map (fun p => Value.int p.1 p.2) ∧ xs.map (·.1) = ns
  | [], _, .nil => ⟨[], rfl, rfl⟩
  | n :: ns, _, .cons r t => by
    obtain ⟨tk, rfl⟩ := r
    obtain ⟨xs, h1, h2⟩ := vals_intT t
    exact ⟨(n, tk) :: xs, by rw [h1]; rfl, by rw [← h2]; rfl⟩
theorem vals_strs : ∀ {ns : List Str} {us : List Value}, Vals (ns.map V.str) us → ∃ xs : List (Str × Tok), us = strValues xs ∧ xs.map (·.1) = ns
  | [], _, .nil => ⟨[], rfl, rfl⟩
  | n :: ns, _, .cons r t => by
    obtain ⟨tk, rfl⟩ := r
    obtain ⟨xs, h1, h2⟩ := vals_strs t
    exact ⟨(n, tk) :: xs, by rw [h1]; rfl, by rw [← h2]; rfl⟩
theorem call_sum (hc : X.calm = true) : CallR X (.builtin "sum") (fun xs H Q => ∃ (a : Addr) (ns : List Int), xs = [.ref a] ∧ SqL X.K H a (ns.map V.int) ∧ Q (.int ns.sum) H) := by
  intro pins s σ H xs us Q I r h
  obtain ⟨a, ns, rfl, hq, q⟩ := h
  obtain ⟨u, rfl, rx⟩ := vals1 r
  cases rx
  obtain ⟨its, rv, pl, hz⟩ := I.list hq
  obtain ⟨ps, e1, e2⟩ := vals_intT rv
  have hl : s.heap.IsList a (intItems ps.toArray) := by
    have e : intItems ps.toArray = its.toArray := by rw [e1, intItems]; simp
    rw [e]; exact pl.isList
  refine sum_intListG (I.ok.hd hc) hl fun h' tk t' hk => ⟨.int ns.sum, H, I.kept hk, ⟨t', ?_⟩, q⟩
  rw [preSum_eq, List.take_of_length_le (by simp)]
  congr 1
  rw [← e2]
theorem mt_join : MtR X "str.join" (fun x vs H Q => ∃ (z : Str) (a : Addr) (ts : List Str), x = .str z ∧ vs = [.ref a] ∧ SqL X.K H a (ts.map V.str) ∧ JoinOk z ts = true ∧ Q (.str (Txt.join z ts)) H) := by
  intro pins s σ H x xs v us Q I rx rs h
  obtain ⟨z, a, ts, rfl, rfl, hq, ok, q⟩ := h
  obtain ⟨t, rfl⟩ := rx
  obtain ⟨u, rfl, ru⟩ := vals1 rs
  cases ru
  obtain ⟨its, rv, pl, hz⟩ := I.list hq
  obtain ⟨ps, e1, e2⟩ := vals_strs rv
  refine SC.join (l := ps) (by rw [← e1]; exact pl.isList) e2 ok fun t' k => ⟨.str (Txt.join z ts), H, I.kept (t' := k) fun b o e => e, ⟨t', rfl⟩, q⟩
theorem call_dcopy : CallR X (.type "dict") (fun xs H Q => ∃ a kvs, xs = [V.ref a] ∧ H a = some (.dK kvs) ∧ ∀ p, H p = none → Q (.ref p) (upd H p (.dK kvs))) := by
  intro pins s σ H xs us Q I r h
  obtain ⟨a, kvs, rfl, ha, q⟩ := h
  obtain ⟨u, rfl, ru⟩ := vals1 r
  cases ru
  exact d_copyOf I (.inl ha) fun p s' hp I' => ⟨.ref p, _, I', rfl, q p hp⟩
end
end L2
namespace L2
open PySem PySem.Spec PyProof.Rows
section
variable {X : Cx} {tg : Expr}
/-- two names, by a pair written there: stored from the last to the first -/
def tSwap (i j : Nat) (t : TA) : TS := fun D σ H => tTupS t σ H fun v H1 => ∃ p x y, v = .ref p ∧ H1 p = some (.tup [x, y]) ∧ D.nx ((σ.set j (some y)).set i (some x)) H1
theorem ps_swap {i j : Nat} {x y : Str} {es : List Expr} {t : TA} {k1 k2 : Nat} {p q p1 p2 pos : Pos} (hN : X.N.Nodup) (hi : X.N[i]? = some x) (hj : X.N[j]? = some y) (hx : Loc X.env.scope x) (hy : Loc X.env.scope y) (hc : X.calm = true) (ha : PA X es t)
    (hs : swapsWithSole [.Tuple [.Name x p, .Name y q] k1 p1] (.Tuple es k2 p2) pos.line X.env = pure false := by rfl)
    (hw : swappedStores [.Tuple [.Name x p, .Name y q] k1 p1] (.Tuple es k2 p2) X.env = pure (some [x, y]) := by rfl)
    (hfx : X.fn x = true ∨ X.env.scope.names.lookup x = some .local := by first | exact .inl rfl | exact .inr rfl | assumption) (hfy : X.fn y = true ∨ X.env.scope.names.lookup y = some .local := by first | exact .inl rfl | exact .inr rfl | assumption) :
    PS X (.Assign [.Tuple [.Name x p, .Name y q] k1 p1] (.Tuple es k2 p2) pos) (tSwap i j t) := by
  intro pins s σ H D I h
  refine Assign_Tuple_swapped (names := [x, y]) (thn (pe_tupS (x1 := k2) (pos := p2) ha pins s σ H _ I h) fun v s1 ⟨vv, H1, I1, r1, a, u, u', e1, e2, q1⟩ => ?_) hs hw
  subst e1
  cases r1
  obtain ⟨its, rv, pt, hz⟩ := I1.tuple (SqT.of e2)
  obtain ⟨v1, v2, rfl, ru, rw'⟩ := vals2 rv
  have hU := unpackItems_tuple (prog := X.prog) (w := X.w) (A := X.A) (E := X.xe) (s := s1) (Q := fun items s₂ => wpAny (model X.prog X.w) X.A (assignInOrder ([x, y].reverse.map fun n => bindName X.env n) items.reverse) (fun _ => SP X pins D .next) X.xe s₂) (I1.ok.hd hc) pt fun h' hx' => by
    have I2 : Inv X pins σ H1 { s1 with heap := h' } := I1.kept (t' := s1.toks) fun b o e => hx' b o (Nat.ne_of_lt (Heap.lt_size e)) e
    show wpAny (model X.prog X.w) X.A (assignInOrder [fun v => bindName X.env y v, fun v => bindName X.env x v] [v2, v1]) _ _ _
    refine assignInOrder_cons (bindName_ (store_ok I2 hN hj hy rw' (fun s2 I3 => ?_) hfy))
    refine assignInOrder_cons (bindName_ (store_ok I3 hN hi hx ru (fun s3 I4 => ?_) hfx))
    exact assignInOrder_nil ⟨_, H1, I4, q1⟩
  exact hU
end
end L2
namespace L2
open PySem PySem.Spec PyProof.Rows
end L2
namespace Z3
open PySem PySem.Spec PyProof.Rows
section
variable {prog : Program} {w : World} {A : Around} {E : Value → Shared → Prop} {s : Shared}
theorem wpAny_alive {a : Addr} {Q : Option Obj → Shared → Prop} (h : Q (s.heap.get? a) s) : wpAny (model prog w) A (loadIfAlive a) Q E s := by
  intro Γ p hΓ
  exact h
abbrev IsZipO (h : Heap) (z TI TO : Addr) (f0 f1 : Value) : Prop :=
  h.get? z = some { cls := .type "zip", dict := none, data := .fields #[f0, f1, .bool false, .ref TI, .ref TO], slots := #[] }
theorem zip_free {z TI TO a : Addr} {oa : Obj} {f1 : Value} {Q : Bool → Shared → Prop} (hf : f1 = .bool false ∨ f1 = .bool true) (hz : IsZipO s.heap z TI TO (rawInt a) f1) (ha : s.heap.get? a = some oa)
    (hQ : ∀ h', IsZipO h' z TI TO (rawInt a) (.bool true) → Heap.SameBut z s.heap h' → Q false { s with heap := h' }) : wpAny (model prog w) A (Builtin.SmallTypes.ownedTupleIsFree (.ref z)) Q E s := by
  unfold Builtin.SmallTypes.ownedTupleIsFree
  refine wpAny_bind (wpAny_field hz rfl (x := rawInt a) rfl ?_)
  show wpAny _ _ (loadIfAlive (a : Int).toNat >>= _) _ _ _
  refine wpAny_bind (wpAny_alive ?_)
  rw [Int.toNat_natCast, ha]
  show wpAny _ _ (field (.ref z) 1 >>= _) _ _ _
  refine wpAny_bind (wpAny_field hz rfl (x := f1) rfl ?_)
  rcases hf with rfl | rfl
  · show wpAny _ _ (setField (.ref z) 1 (.bool true) >>= _) _ _ _
    refine wpAny_bind (wpAny_setField_rec hz (by simp) fun h' hz' hs' => wpAny_pure (hQ h' hz' hs'))
  · exact wpAny_pure (hQ s.heap hz ⟨rfl, fun _ _ => rfl⟩)
theorem zip_next_item2 {z TI TO i1 i2 l1 l2 a : Addr} {oa : Obj} {f1 : Value} {k1 k2 : Nat} {xs ys : Array Value} {x y : Value} {Q : Value → Shared → Prop} (D : ZipApart z TI TO i1 i2 l1 l2) (hf : f1 = .bool false ∨ f1 = .bool true)
    (hz : IsZipO s.heap z TI TO (rawInt a) f1) (ha : s.heap.get? a = some oa) (hTI : IsPair s.heap TI (.ref i1) (.ref i2))
    (h1 : s.heap.IsListIter i1 l1 k1) (h2 : s.heap.IsListIter i2 l2 k2) (hl1 : s.heap.IsList l1 xs) (hl2 : s.heap.IsList l2 ys) (hx : xs[k1]? = some x) (hy : ys[k2]? = some y)
    (hQ : ∀ h', IsZipO h' z TI TO (rawInt a) (.bool true) → h'.IsListIter i1 l1 (k1 + 1) → h'.IsListIter i2 l2 (k2 + 1) → IsPair h' s.heap.objs.size x y → h'.objs.size = s.heap.objs.size + 1 →
      (∀ c o, c ≠ z → c ≠ i1 → c ≠ i2 → s.heap.get? c = some o → h'.get? c = some o) → Q (.ref s.heap.objs.size) { s with heap := h' }) :
    wpAny (model prog w) A (Builtin.«zip.__next__» ⟨[.ref z], []⟩) (fun fin s' => ∃ v, fin = .done (.ret v) ∧ Q v s') E s := by
  show wpAny _ _ (field (.ref z) 2 >>= _) _ _ _
  refine wpAny_bind (wpAny_field hz rfl (x := .bool false) rfl ?_)
  show wpAny _ _ (field (.ref z) 3 >>= _) _ _ _
  refine wpAny_bind (wpAny_field hz rfl (x := .ref TI) rfl ?_)
  refine wpAny_bind (wpAny_seqItems hTI rfl ?_)
  show wpAny _ _ (Builtin.SmallTypes.ownedTupleIsFree (.ref z) >>= _) _ _ _
  refine wpAny_bind (zip_free hf hz ha fun h₁ hz₁ hs₁ => ?_)
  simp only [Bool.false_eq_true, if_false]
  refine wpAny_bind ?_
  simp only [List.forIn_toArray, List.forIn_cons, List.forIn_nil]
  refine wpAny_bind (wpAny_bind (wpAny_holding ?_))
  show wpAny _ _ (Builtin.SmallTypes.nextOf (.ref i1) >>= _) _ _ _
  refine wpAny_bind (wpAny_nextOf_list_item (h1.extBut hs₁.extBut D.i1z) (hl1.extBut hs₁.extBut D.l1z) hx fun h₂ h1₂ hs₂ => wpAny_pure (wpAny_pure ?_))
  refine wpAny_bind (wpAny_bind (wpAny_holding ?_))
  show wpAny _ _ (Builtin.SmallTypes.nextOf (.ref i2) >>= _) _ _ _
  refine wpAny_bind (wpAny_nextOf_list_item ((h2.extBut hs₁.extBut D.i2z).extBut hs₂.extBut D.i12.symm) ((hl2.extBut hs₁.extBut D.l2z).extBut hs₂.extBut D.l2i1) hy fun h₃ h2₃ hs₃ => wpAny_pure (wpAny_pure (wpAny_pure ?_)))
  show wpAny _ _ (newTuple [x, y] >>= _) _ _ _
  refine wpAny_bind (wpAny_newTuple ?_)
  have hsz : h₃.objs.size = s.heap.objs.size := by rw [hs₃.1, hs₂.1, hs₁.1]
  refine wpAny_pure ⟨_, rfl, ?_⟩
  show Q (.ref h₃.objs.size) _
  have t₃ : IsPair (h₃.push { cls := .type "tuple", data := .seq #[x, y] }) h₃.objs.size x y := Heap.get?_push_size _ rfl
  have z₃ : IsZipO (h₃.push { cls := .type "tuple", data := .seq #[x, y] }) z TI TO (rawInt a) (.bool true) := Heap.get?_push_of_some _ (hs₃.extBut _ _ D.i2z.symm (hs₂.extBut _ _ D.i1z.symm hz₁))
  have e₃ : (h₃.push { cls := .type "tuple", data := .seq #[x, y] }).objs.size = h₃.objs.size + 1 := Heap.size_push ..
  have a₃ := (h1₂.extBut hs₃.extBut D.i12).at fun o e => Heap.get?_push_of_some { cls := .type "tuple", data := .seq #[x, y] } e
  have b₃ := h2₃.at fun o e => Heap.get?_push_of_some { cls := .type "tuple", data := .seq #[x, y] } e
  rw [hsz] at t₃ e₃ ⊢
  exact hQ _ z₃ a₃ b₃ t₃ e₃ fun c o c1 c2 c3 e => Heap.get?_push_of_some _ (hs₃.extBut _ _ c3 (hs₂.extBut _ _ c2 (hs₁.extBut _ _ c1 e)))
theorem zip_next_end2 {z TI TO i1 i2 l1 l2 a : Addr} {oa : Obj} {f1 : Value} {k1 k2 : Nat} {xs ys : Array Value} {Q : Fin → Shared → Prop} (hh : A.handled = none) (D : ZipApart z TI TO i1 i2 l1 l2) (hf : f1 = .bool false ∨ f1 = .bool true)
    (hz : IsZipO s.heap z TI TO (rawInt a) f1) (ha : s.heap.get? a = some oa) (hTI : IsPair s.heap TI (.ref i1) (.ref i2))
    (h1 : s.heap.IsListIter i1 l1 k1) (hl1 : s.heap.IsList l1 xs) (hx : xs[k1]? = none)
    (hE : ∀ h' e, (∀ c o, c ≠ z → c ≠ i1 → c ≠ i2 → s.heap.get? c = some o → h'.get? c = some o) → (∃ o, h'.get? e = some o ∧ o.cls = .type "StopIteration") → E (.ref e) { s with heap := h' }) :
    wpAny (model prog w) A (Builtin.«zip.__next__» ⟨[.ref z], []⟩) Q E s := by
  show wpAny _ _ (field (.ref z) 2 >>= _) _ _ _
  refine wpAny_bind (wpAny_field hz rfl (x := .bool false) rfl ?_)
  show wpAny _ _ (field (.ref z) 3 >>= _) _ _ _
  refine wpAny_bind (wpAny_field hz rfl (x := .ref TI) rfl ?_)
  refine wpAny_bind (wpAny_seqItems hTI rfl ?_)
  show wpAny _ _ (Builtin.SmallTypes.ownedTupleIsFree (.ref z) >>= _) _ _ _
  refine wpAny_bind (zip_free hf hz ha fun h₁ hz₁ hs₁ => ?_)
  simp only [Bool.false_eq_true, if_false]
  refine wpAny_bind ?_
  simp only [List.forIn_toArray, List.forIn_cons, List.forIn_nil]
  refine wpAny_bind (wpAny_bind (wpAny_holding ?_))
  show wpAny _ _ (Builtin.SmallTypes.nextOf (.ref i1) >>= _) _ _ _
  refine wpAny_bind (wpAny_nextOf_list_end hh (h1.extBut hs₁.extBut D.i1z) (hl1.extBut hs₁.extBut D.l1z) hx fun h₂ e hs₂ he => ?_)
  exact hE h₂ e (fun c o c1 c2 c3 q => hs₂ _ _ c2 (hs₁.extBut _ _ c1 q)) he
theorem next_item2 {z TI TO i1 i2 l1 l2 a : Addr} {oa : Obj} {f1 : Value} {k1 k2 : Nat} {xs ys : Array Value} {x y : Value} {Q : Option Value → Shared → Prop} (D : ZipApart z TI TO i1 i2 l1 l2) (hf : f1 = .bool false ∨ f1 = .bool true)
    (hz : IsZipO s.heap z TI TO (rawInt a) f1) (ha : s.heap.get? a = some oa) (hTI : IsPair s.heap TI (.ref i1) (.ref i2))
    (h1 : s.heap.IsListIter i1 l1 k1) (h2 : s.heap.IsListIter i2 l2 k2) (hl1 : s.heap.IsList l1 xs) (hl2 : s.heap.IsList l2 ys) (hx : xs[k1]? = some x) (hy : ys[k2]? = some y)
    (hQ : ∀ h', IsZipO h' z TI TO (rawInt a) (.bool true) → h'.IsListIter i1 l1 (k1 + 1) → h'.IsListIter i2 l2 (k2 + 1) → IsPair h' s.heap.objs.size x y → h'.objs.size = s.heap.objs.size + 1 →
      (∀ c o, c ≠ z → c ≠ i1 → c ≠ i2 → s.heap.get? c = some o → h'.get? c = some o) → Q (some (.ref s.heap.objs.size)) { s with heap := h' }) :
    wpAny (model prog w) A (pyNext (.ref z)) Q E s := by
  have hT : s.TypeIs (.ref z) "zip" := ⟨_, hz, rfl⟩
  unfold pyNext
  exact wpAny_bind (wpAny_attempt (wpAny_callSpecial?_slot (name := Str.ofString "__next__") hT F.slot_zip_next
    (wpAny_call_entry F.slot_zip_next hT F.entry_zip_next
      (zip_next_item2 D hf hz ha hTI h1 h2 hl1 hl2 hx hy fun h' a1 a2 a3 a4 a5 a6 => wpAny_pure (hQ h' a1 a2 a3 a4 a5 a6)) (F.args_zip_next_1 _))))
theorem next_end2 {z TI TO i1 i2 l1 l2 a : Addr} {oa : Obj} {f1 : Value} {k1 : Nat} {xs : Array Value} {Q : Option Value → Shared → Prop} (hh : A.handled = none) (D : ZipApart z TI TO i1 i2 l1 l2) (hf : f1 = .bool false ∨ f1 = .bool true)
    (hz : IsZipO s.heap z TI TO (rawInt a) f1) (ha : s.heap.get? a = some oa) (hTI : IsPair s.heap TI (.ref i1) (.ref i2))
    (h1 : s.heap.IsListIter i1 l1 k1) (hl1 : s.heap.IsList l1 xs) (hx : xs[k1]? = none)
    (hQ : ∀ h', (∀ c o, c ≠ z → c ≠ i1 → c ≠ i2 → s.heap.get? c = some o → h'.get? c = some o) → Q none { s with heap := h' }) : wpAny (model prog w) A (pyNext (.ref z)) Q E s := by
  have hT : s.TypeIs (.ref z) "zip" := ⟨_, hz, rfl⟩
  unfold pyNext
  refine wpAny_bind (wpAny_attempt (wpAny_callSpecial?_slot (name := Str.ofString "__next__") hT F.slot_zip_next
    (wpAny_call_entry F.slot_zip_next hT F.entry_zip_next (zip_next_end2 (ys := #[]) (k2 := 0) hh D hf hz ha hTI h1 hl1 hx fun h' e hk he => ?_) (F.args_zip_next_1 _))))
  obtain ⟨o, ho, hc⟩ := he
  refine wpAny_bind (wpAny_isInstance (T := "StopIteration") (b := true) ⟨o, ho, hc⟩ isSubtype_stop ?_)
  exact wpAny_pure (hQ _ hk)
theorem zip_no_len : typeLookup (.type "zip") "__len__" = pure none := by rw [typeLookup_type, builtinLookup_eq_fast]; kernel_rfl
theorem zip_no_hint : typeLookup (.type "zip") "__length_hint__" = pure none := by rw [typeLookup_type, builtinLookup_eq_fast]; kernel_rfl
end
end Z3
namespace L2
open PySem PySem.Spec PyProof.Rows
/-- a zip of two lists, begun at n, k pairs drawn, none let go -/
structure Zk (h : Heap) (n l1 l2 : Addr) (k : Nat) : Prop where
  z : IsZip h (n + 4) (n + 2) (n + 3) .none ∨ ∃ a o f1, Z3.IsZipO h (n + 4) (n + 2) (n + 3) (rawInt (a : Addr)) f1 ∧ h.get? a = some o ∧ o.cls = .type "tuple" ∧ (f1 = .bool false ∨ f1 = .bool true) ∧ a ∉ [n, n + 1, n + 2, n + 3, n + 4]
  ti : IsPair h (n + 2) (.ref n) (.ref (n + 1))
  to : ∃ a b, IsPair h (n + 3) a b
  i1 : h.IsListIter n l1 k
  i2 : h.IsListIter (n + 1) l2 k
theorem Zk.off {h : Heap} {n l l1 l2 : Addr} {k : Nat} {xs : Array Value} (z : Zk h n l1 l2 k) (p : h.IsList l xs) : Z3.Off2 n l := by
  obtain ⟨o, e, c, _⟩ := p
  obtain ⟨z0, ti, ⟨a, b, to⟩, ⟨o1, e1, c1, _⟩, ⟨o2, e2, c2, _⟩⟩ := z
  refine ⟨fun q => ?_, fun q => ?_, fun q => ?_, fun q => ?_⟩
  · subst q; rw [e] at e1; cases e1; rw [c] at c1; simp at c1
  · subst q; rw [e] at e2; cases e2; rw [c] at c2; simp at c2
  · subst q; have q := e.symm.trans to; cases q; simp at c
  · subst q
    rcases z0 with z0 | ⟨_, _, _, z0, _⟩
    · have q := e.symm.trans z0; cases q; simp at c
    · have q := e.symm.trans z0; cases q; simp at c
theorem Zk.keep {h h' : Heap} {n l1 l2 : Addr} {k : Nat} (z : Zk h n l1 l2 k) (kp : ∀ b o, (b ∈ [n, n + 1, n + 2, n + 3, n + 4] ∨ o.cls = .type "tuple") → h.get? b = some o → h'.get? b = some o) : Zk h' n l1 l2 k := by
  obtain ⟨z0, ti, ⟨a, b', to⟩, i1, i2⟩ := z
  refine ⟨?_, kp _ _ (.inl (by simp)) ti, ⟨a, b', kp _ _ (.inl (by simp)) to⟩, i1.at fun o e => kp _ o (.inl (by simp)) e, i2.at fun o e => kp _ o (.inl (by simp)) e⟩
  rcases z0 with z0 | ⟨a, o, f1, z0, ha, hc, hf, hn⟩
  · exact .inl (kp _ _ (.inl (by simp)) z0)
  · exact .inr ⟨a, o, f1, kp _ _ (.inl (by simp)) z0, kp _ _ (.inr hc) ha, hc, hf, hn⟩
section
variable {X : Cx} {pins : List (Addr × Obj)} {σ : St}
theorem pair_app {α β : Type} {F : α → β → Prop} : ∀ {l1 l2 : List α} {r1 r2 : List β}, Paired F l1 r1 → Paired F l2 r2 → Paired F (l1 ++ l2) (r1 ++ r2)
  | _, _, _, _, .nil, h => h
  | _, _, _, _, .cons a t, h => .cons a (pair_app t h)
def TupsOf (H : Hp) (ts : List Addr) (zs : List (V × V)) : Prop := Paired (fun t z => H t = some (.tup [z.1, z.2])) ts zs
theorem lz_loop (hcalm : X.calm = true) {n l1 l2 S : Addr} {xs ys : List V} {R : Result → Shared → Prop} {H0 : Hp} {A : Around} (hA : A.handled = none) (hlen : xs.length = ys.length) (hN : xs.length ≤ 1000) (hS0 : H0 S = none) (q1 : SqL X.K H0 l1 xs) (q2 : SqL X.K H0 l2 ys)
    (hR : ∀ s' H' ts, Inv X pins σ H' s' → Same H0 H' → H' S = some (.lst (ts.map V.ref)) → TupsOf H' ts (xs.zip ys) → R (.ok (.ret .none)) s') :
    ∀ (k i : Nat) (s : Shared) (H : Hp) (ts : List Addr), xs.length - i = k → i ≤ xs.length → Inv X pins σ H s → Same H0 H → Zk s.heap n l1 l2 i → (∀ b ∈ [n, n + 1, n + 2, n + 3, n + 4], FpOk X pins H b) → H S = some (.lst (ts.map V.ref)) → TupsOf H ts ((xs.zip ys).take i) →
      codeAny (model X.prog X.w) A (.builtin "list.extend.loop" ⟨[.ref S, .ref (n + 4), .none], []⟩) R s := by
  intro k
  induction k with
  | zero =>
    intro i s H ts hk hi I sm zk hf hS ht
    have hin : i = xs.length := by omega
    subst hin
    refine codeAny_builtin F.entry_extend_loop ?_
    rw [Around.under_plainId F.plain_extend_loop _]
    show wpAny _ A.in1 (pyNext (.ref (n + 4)) >>= _) _ _ s
    obtain ⟨is1, r1, p1, _⟩ := I.list (sm.seq q1)
    obtain ⟨is2, r2, p2, _⟩ := I.list (sm.seq q2)
    have hl1 := r1.length
    have D := Z3.apart2 (zk.off p1.isList) (zk.off p2.isList)
    rw [List.take_of_length_le (by rw [List.length_zip]; omega)] at ht
    obtain ⟨z0, wi, ⟨wa, wb, wo⟩, w1, w2⟩ := id zk
    rcases z0 with w0 | ⟨a, o, f1, w0, ha, hcl, hff, hnm⟩
    · refine wpAny_bind (wpAny_pyNext_zip_end (A := A.in1) hA D w0 wi wo w1 w2 p1.isList p2.isList (.inl (by simp; omega)) fun h' kp => ?_)
      refine wpAny_pure (hR _ H ts (I.turnedL (t' := s.toks) hf fun b o hb e => ?_) sm hS ht)
      simp only [List.mem_cons, List.not_mem_nil, or_false, not_or] at hb
      exact kp b o hb.2.2.2.2 hb.2.2.2.1 hb.1 hb.2.1 e
    · refine wpAny_bind (Z3.next_end2 (A := A.in1) hA D hff w0 ha wi w1 p1.isList (by simp; omega) fun h' kp => ?_)
      refine wpAny_pure (hR _ H ts (I.turnedL (t' := s.toks) hf fun b o hb e => ?_) sm hS ht)
      simp only [List.mem_cons, List.not_mem_nil, or_false, not_or] at hb
      exact kp b o hb.2.2.2.2 hb.1 hb.2.1 e
  | succ k ih =>
    intro i s H ts hk hi I sm zk hf hS ht
    have hlt : i < xs.length := by omega
    refine codeAny_builtin F.entry_extend_loop ?_
    rw [Around.under_plainId F.plain_extend_loop _]
    show wpAny _ A.in1 (pyNext (.ref (n + 4)) >>= _) _ _ s
    obtain ⟨is1, r1, p1, _⟩ := I.list (sm.seq q1)
    obtain ⟨is2, r2, p2, _⟩ := I.list (sm.seq q2)
    have e1 : xs[i]? = some xs[i] := List.getElem?_eq_getElem hlt
    have e2 : ys[i]? = some (ys[i]'(by omega)) := List.getElem?_eq_getElem (by omega)
    obtain ⟨u, hu, ru⟩ := r1.get e1
    obtain ⟨v, hv, rv⟩ := r2.get e2
    have D := Z3.apart2 (zk.off p1.isList) (zk.off p2.isList)
    have fr : H s.heap.objs.size = none := I.hok.fresh (Nat.le_refl _)
    have hSlt : S < s.heap.objs.size := I.hok.lt hS
    have hSn : S ∉ [n, n + 1, n + 2, n + 3, n + 4] := fun hm => by rw [(hf S hm).1] at hS; cases hS
    have hszip : (xs.zip ys)[i]? = some (xs[i], ys[i]'(by omega)) := by rw [List.getElem?_zip_eq_some]; exact ⟨e1, e2⟩
    have hfl : ∀ b ∈ [n, n + 1, n + 2, n + 3, n + 4], b < s.heap.objs.size := fun b hb => by
      have : n + 4 < s.heap.objs.size := by
        rcases zk.z with w0 | ⟨_, _, _, w0, _⟩ <;> exact Heap.lt_size w0
      simp only [List.mem_cons, List.not_mem_nil, or_false] at hb
      exact in5 hb this
    -- what follows a drawn pair
    have go : ∀ h1 : Heap, (∀ b o, b ∉ [n, n + 1, n + 2, n + 3, n + 4] → s.heap.get? b = some o → h1.get? b = some o) → IsPair h1 s.heap.objs.size u v → Zk h1 n l1 l2 (i + 1) →
        wpAny (model X.prog X.w) A.in1 (Builtin.List.listUpdate (.ref S) (·.push (.ref s.heap.objs.size)) >>= fun _ => again (.builtin "list.extend.loop" ⟨[.ref S, .ref (n + 4), .none], []⟩))
          (fun fin s' => match fin with | .done f => R (.ok f) s' | .again c' => c'.quiet = true ∧ codeAny (model X.prog X.w) A c' R s') (fun e s' => R (.error e) s') { s with heap := h1 } := fun h1 kp tri zk1 => by
      have I1 : Inv X pins σ (upd H s.heap.objs.size (.tup [xs[i], ys[i]'(by omega)])) { s with heap := h1 } := I.zipped (us := [u, v]) (t' := s.toks) hf kp (.cons ru (.cons rv .nil)) (by show 2 ≤ sizeLine; decide) ⟨_, tri, rfl, _, rfl⟩
      have hS1 : (upd H s.heap.objs.size (.tup [xs[i], ys[i]'(by omega)])) S = some (.lst (ts.map V.ref)) := by rw [upd_ne (Nat.ne_of_lt hSlt)]; exact hS
      obtain ⟨zz, its, nn, r, hll, e⟩ := I1.lstM hS1
      have htl : ts.length = i := by
        have := Paired.length ht
        rw [List.length_take, List.length_zip] at this
        omega
      have hil : its.length = i := by rw [← hll, List.length_map, htl]
      show wpAny _ A.in1 (updateSeq S (·.push (.ref s.heap.objs.size)) >>= _) _ _ _
      refine wpAny_bind ?_
      refine wpAny_updateSeq e rfl (wpAny_pure ⟨plainId_quiet F.plain_extend_loop _, ?_⟩) (by rw [List.size_toArray, hil]; exact Nat.le_of_lt (small1000 (by omega))) (by show (its.toArray.push _).size ≤ sizeLine + 1; rw [Array.size_push, List.size_toArray, hil]; exact Nat.succ_le_succ (Nat.le_of_lt (small1000 (by omega))))
      have I2 := I1.lset (its' := its ++ [.ref s.heap.objs.size]) (ys := ts.map V.ref ++ [.ref s.heap.objs.size]) (t' := s.toks) (f := (·.push (.ref s.heap.objs.size))) hS1 e (by simp) (r.append (.cons (show RelV (.ref s.heap.objs.size) (.ref s.heap.objs.size) from rfl) .nil)) (by rw [List.length_append, List.length_map, List.length_singleton, htl]; exact Nat.le_of_lt (small1000 (by omega)))
      refine ih (i + 1) _ _ (ts ++ [s.heap.objs.size]) (by omega) hlt I2 ?_ ?_ ?_ ?_ ?_
      · intro b o z
        rw [upd_ne (ne_of_none z hS0)]
        by_cases hb : b = s.heap.objs.size
        · subst hb; rw [sm _ _ z] at fr; cases fr
        · rw [upd_ne hb]; exact sm _ _ z
      · refine zk1.keep fun b o hb eb => ?_
        have hbS : S ≠ b := fun z => by
          subst z
          rcases hb with hb | hb
          · exact hSn hb
          · rw [e] at eb; cases eb; simp at hb
        exact (Heap.get?_update_other _ _ hbS).trans eb
      · intro b hb
        refine ⟨?_, (hf b hb).2⟩
        rw [upd_ne (fun z : b = S => hSn (by rw [← z]; exact hb)), upd_ne (Nat.ne_of_lt (hfl b hb))]
        exact (hf b hb).1
      · rw [upd_same, List.map_append]
        rfl
      · have e3 : (xs.zip ys).take (i + 1) = (xs.zip ys).take i ++ [(xs[i], ys[i]'(by omega))] := by rw [List.take_add_one, hszip]; rfl
        rw [e3]
        refine pair_app (Paired.mapP ht fun t z hz => ?_) (.cons ?_ .nil)
        · have h1 : t ≠ s.heap.objs.size := fun q => by subst q; rw [hz] at fr; cases fr
          have h2 : t ≠ S := fun q => by subst q; rw [hz] at hS; cases hS
          rw [upd_ne h2, upd_ne h1]; exact hz
        · rw [upd_ne (Nat.ne_of_gt hSlt), upd_same]
    obtain ⟨z0, wi, ⟨wa, wb, wo⟩, w1, w2⟩ := id zk
    have lt : n + 4 < s.heap.objs.size := hfl (n + 4) (by simp)
    rcases z0 with w0 | ⟨a, o, f1, w0, ha, hcl, hff, hnm⟩
    · refine wpAny_bind (wpAny_pyNext_zip_item D w0 wi wo w1 w2 p1.isList p2.isList (x := u) (y := v) (by simpa using hu) (by simpa using hv) fun h1 z1 to1 i11 i21 tri sz kp => ?_)
      refine go h1 (fun b o hb e => ?_) tri ⟨.inr ⟨_, _, _, z1, tri, rfl, .inl rfl, fun hm => ?_⟩, kp _ _ D.TIz D.TITO D.TIi1 D.TIi2 wi, ⟨_, _, to1⟩, i11, i21⟩
      · simp only [List.mem_cons, List.not_mem_nil, or_false, not_or] at hb
        exact kp b o hb.2.2.2.2 hb.2.2.2.1 hb.1 hb.2.1 e
      · exact absurd (hfl _ hm) (Nat.lt_irrefl _)
    · refine wpAny_bind (Z3.next_item2 D hff w0 ha wi w1 w2 p1.isList p2.isList (x := u) (y := v) (by simpa using hu) (by simpa using hv) fun h1 z1 i11 i21 tri sz kp => ?_)
      simp only [List.mem_cons, List.not_mem_nil, or_false, not_or] at hnm
      refine go h1 (fun b o hb e => ?_) tri ⟨.inr ⟨a, o, _, z1, kp a o hnm.2.2.2.2 hnm.1 hnm.2.1 ha, hcl, .inr rfl, by simp only [List.mem_cons, List.not_mem_nil, or_false, not_or]; exact hnm⟩, kp _ _ D.TIz D.TIi1 D.TIi2 wi, ⟨_, _, kp _ _ D.TOz D.TOi1 D.TOi2 wo⟩, i11, i21⟩
      simp only [List.mem_cons, List.not_mem_nil, or_false, not_or] at hb
      exact kp b o hb.2.2.2.2 hb.1 hb.2.1 e
end
end L2
namespace L2
open PySem PySem.Spec PyProof.Rows
theorem lz_extend {prog : Program} {w : World} {A : Around} {s : Shared} {R : Result → Shared → Prop} {z TI TO S : Addr} {c₀ : Nat} (hz : IsZip s.heap z TI TO .none) (hSz : S ≠ z) (hS : s.heap.get? S = some { cls := .type "list", data := .seq #[] c₀ })
    (hl : codeAny (model prog w) A (.builtin "list.extend.loop" ⟨[.ref S, .ref z, .none], []⟩) R { s with heap := (s.heap.update S (Obj.mapSeq (·.push Value.none))).update S (Obj.mapSeq (·.pop)) }) :
    wpAny (model prog w) A.in1 (Builtin.List.listExtendWith (.ref S) (.ref z) .none)
      (fun fin s' => match fin with | .done f => R (.ok f) s' | .again c' => c'.quiet = true ∧ codeAny (model prog w) A c' R s') (fun e s' => R (.error e) s') s := by
  have hT : s.TypeIs (.ref z) "zip" := ⟨_, hz, rfl⟩
  unfold Builtin.List.listExtendWith
  refine wpAny_bind (wpAny_typeOf hT ?_)
  have h1 : Builtin.List.listSameRef (.ref S) (.ref z) = false := by simp [Builtin.List.listSameRef, hSz]
  have h2 : (Value.type "zip" == Value.type "list") = false := by decide
  have h3 : (Value.type "zip" == Value.type "tuple") = false := by decide
  simp only [h1, h2, h3, Bool.or_false, Bool.false_eq_true, if_false]
  refine wpAny_bind (wpAny_pyIter_zip hz ?_)
  refine wpAny_bind (wpAny_holding ?_)
  unfold Builtin.List.listLengthHint
  refine wpAny_bind (wpAny_specialOf hT Z3.zip_no_len ?_)
  show wpAny _ A.in1 (specialOf (Value.ref z) (Str.ofString "__length_hint__") >>= _) _ _ _
  refine wpAny_bind (wpAny_specialOf hT Z3.zip_no_hint ?_)
  refine wpAny_pure ?_
  show wpAny _ A.in1 (rule "list.extend.makes-room" >>= fun _ => Builtin.List.listTouch (.ref S) >>= fun _ =>
    again (.builtin "list.extend.loop" ⟨[.ref S, .ref z, .none], []⟩)) _ _ _
  refine wpAny_bind (wpAny_rule ?_)
  refine wpAny_bind ?_
  show wpAny _ A.in1 (updateSeq S (·.push .none) >>= fun _ => updateSeq S (·.pop)) _ _ _
  refine wpAny_bind (wpAny_updateSeq hS rfl ?_)
  have hS₂ := Heap.get?_update_self (Obj.mapSeq (·.push Value.none)) hS rfl
  refine wpAny_updateSeq (hz := by seq_fits) hS₂ rfl ?_
  exact wpAny_pure ⟨plainId_quiet F.plain_extend_loop _, hl⟩
theorem lz_init {prog : Program} {w : World} {A : Around} {s : Shared} {R : Result → Shared → Prop} {z TI TO S : Addr} (hz : IsZip s.heap z TI TO .none) (hSz : S ≠ z) (hS : s.heap.get? S = some { cls := .type "list", data := .seq #[] })
    (hl : codeAny (model prog w) A (.builtin "list.extend.loop" ⟨[.ref S, .ref z, .none], []⟩) R { s with heap := ((s.heap.update S (Obj.mapSeq (fun _ => (#[] : Array Value)))).update S (Obj.mapSeq (·.push Value.none))).update S (Obj.mapSeq (·.pop)) }) :
    wpAny (model prog w) A.in1 (Builtin.«list.__init__» ⟨[.ref S, .ref z], []⟩)
      (fun fin s' => match fin with | .done f => R (.ok f) s' | .again c' => c'.quiet = true ∧ codeAny (model prog w) A c' R s') (fun e s' => R (.error e) s') s := by
  show wpAny _ A.in1 (do let old ← Builtin.List.listItems (.ref S); Builtin.List.listUpdate (.ref S) (fun _ => #[]); letGo old.toList.reverse; Builtin.List.listExtendWith (.ref S) (.ref z) .none) _ _ s
  refine wpAny_bind ?_
  unfold Builtin.List.listItems
  refine wpAny_bind (wpAny_seqItems hS rfl (wpAny_pure ?_))
  show wpAny _ A.in1 (updateSeq S (fun _ => #[]) >>= fun _ => letGo (#[] : Array Value).toList.reverse >>= fun _ => Builtin.List.listExtendWith (.ref S) (.ref z) .none) _ _ s
  refine wpAny_bind (wpAny_updateSeq hS rfl ?_)
  have hS₂ := Heap.get?_update_self (Obj.mapSeq (fun _ => (#[] : Array Value))) hS rfl
  refine wpAny_bind (wpAny_letGo ?_)
  exact lz_extend ((Heap.get?_update_other _ _ hSz).trans hz) hSz hS₂ hl
section
variable {X : Cx} {pins : List (Addr × Obj)} {σ : St}
/-- list(zip(a, b)) of two lists that are as long as each other -/
theorem lz_call (hcalm : X.calm = true) {s : Shared} {H : Hp} {n l1 l2 : Addr} {xs ys : List V} {Q : VK} (I : Inv X pins σ H s) (z : Z3.At2 s.heap n l1 l2 .none 0) (hf : ∀ b ∈ [n, n + 1, n + 2, n + 3, n + 4], FpOk X pins H b) (hlen : xs.length = ys.length) (hN : xs.length ≤ 1000) (q1 : SqL X.K H l1 xs) (q2 : SqL X.K H l2 ys)
    (hQ : ∀ l ts H', Same H H' → H' l = some (.lst (ts.map V.ref)) → TupsOf H' ts (xs.zip ys) → Q (.ref l) H') : wpAny (model X.prog X.w) X.A (call (.type "list") [.ref (n + 4)]) (EP X pins σ Q) X.xe s := by
  refine callType_codes (Q₁ := fun obj s₁ => obj = .ref s.heap.objs.size ∧ s₁ = { s with heap := s.heap.push { cls := .type "list", data := .seq #[] } }) F.called_list (F.typeCall_list_1 _) F.entry_list_init
    (code_list_new _ ⟨rfl, rfl⟩) fun obj s₁ h₁ => ?_
  obtain ⟨rfl, rfl⟩ := h₁
  have hS : (s.heap.push { cls := .type "list", data := .seq #[] }).get? s.heap.objs.size = some { cls := .type "list", data := .seq #[] } := Heap.get?_push_size _ rfl
  have fr : H s.heap.objs.size = none := I.hok.fresh (Nat.le_refl _)
  have lt : n + 4 < s.heap.objs.size := Heap.lt_size z.z
  have hfl : ∀ b ∈ [n, n + 1, n + 2, n + 3, n + 4], b < s.heap.objs.size := fun b hb => by
    simp only [List.mem_cons, List.not_mem_nil, or_false] at hb
    exact in5 hb lt
  have I1 : Inv X pins σ (upd H s.heap.objs.size (.lst [])) { s with heap := s.heap.push { cls := .type "list", data := .seq ([] : List Value).toArray } } := I.lnew (its := []) (t' := s.toks) .nil (Nat.zero_le _)
  have zk1 : Zk (s.heap.push { cls := .type "list", data := .seq #[] }) n l1 l2 0 := by
    refine Zk.keep (h := s.heap) ⟨.inl z.z, z.ti, z.to, z.i1, z.i2⟩ fun b o _ e => Heap.get?_push_of_some _ e
  refine ⟨⟨_, hS, rfl⟩, F.args_list_init_2 _ _, lz_init (A := X.A.in1) (Heap.get?_push_of_some _ z.z) (Nat.ne_of_gt lt) hS ?_⟩
  obtain ⟨zz1, its1, n1, r1, hl1, e1⟩ := I1.lstM upd_same
  have I2 := I1.lset (its' := []) (ys := []) (t' := s.toks) (f := fun _ => (#[] : Array Value)) upd_same e1 rfl .nil (Nat.zero_le _)
  obtain ⟨zz2, its2, n2, r2, hl2, e2⟩ := I2.lstM upd_same
  have ei2 : its2 = [] := List.eq_nil_of_length_eq_zero hl2.symm
  subst ei2
  have I3 := I2.lset (its' := [.none]) (ys := [.non]) (t' := s.toks) (f := (·.push Value.none)) upd_same e2 rfl (.cons rfl .nil) (by show 1 ≤ sizeLine; decide)
  obtain ⟨zz3, its3, n3, r3, hl3, e3⟩ := I3.lstM upd_same
  obtain ⟨v3, rfl⟩ : ∃ v, its3 = [v] := by
    match its3, hl3 with
    | [v], _ => exact ⟨v, rfl⟩
  have I4 := I3.lset (its' := []) (ys := []) (t' := s.toks) (f := (·.pop)) upd_same e3 rfl .nil (Nat.zero_le _)
  refine lz_loop hcalm (A := X.A.in1) (H0 := H) (S := s.heap.objs.size) (I.ok.hd hcalm) hlen hN fr q1 q2 (fun s' H' ts I' sm hS' ht => ?_) _ 0 _ _ [] rfl (Nat.zero_le _) I4 ?_ ?_ ?_ upd_same .nil
  · exact ⟨rfl, .ref s.heap.objs.size, H', I', rfl, hQ _ ts H' sm hS' ht⟩
  · intro b o e
    have hb := ne_of_none e fr
    rw [upd_ne hb, upd_ne hb, upd_ne hb, upd_ne hb]; exact e
  · refine zk1.keep fun b o hb e => ?_
    have hbS : s.heap.objs.size ≠ b := fun q => by
      subst q
      rcases hb with hb | hb
      · exact absurd (hfl _ hb) (Nat.lt_irrefl _)
      · rw [hS] at e; cases e; simp at hb
    exact (Heap.get?_update_other _ _ hbS).trans ((Heap.get?_update_other _ _ hbS).trans ((Heap.get?_update_other _ _ hbS).trans e))
  · intro b hb
    have hb' := Nat.ne_of_lt (hfl b hb)
    refine ⟨?_, (hf b hb).2⟩
    rw [upd_ne hb', upd_ne hb', upd_ne hb', upd_ne hb']
    exact (hf b hb).1
def tLZ (K : PySem.W.Frag) (ta : TA) : TE := fun σ H Q => ta σ H fun vs H1 => ∃ p q xs ys, vs = [.ref p, .ref q] ∧ SqL K H1 p xs ∧ SqL K H1 q ys ∧ xs.length = ys.length ∧ xs.length ≤ 1000 ∧ ∀ l ts H', Same H1 H' → H' l = some (.lst (ts.map V.ref)) → TupsOf H' ts (xs.zip ys) → Q (.ref l) H'
theorem pe_listzip {a b : Expr} {ta : TA} {p q pos pos' : Pos} (hgl : Gl X "list") (hml : X.mg "list" = none) (hgz : Gl X "zip") (hmz : X.mg "zip" = none) (hcalm : X.calm = true) (ha : PA X [a, b] ta)
    (hs0 : starEach [Expr.Call (.Name "zip" q) [a, b] [] pos'] X.env = [(false, eval (Expr.Call (.Name "zip" q) [a, b] [] pos') X.env)] := by rfl)
    (hs : starEach [a, b] X.env = [(false, eval a X.env), (false, eval b X.env)] := by rfl)
    (hs2 : starEach [b] X.env = [(false, eval b X.env)] := by rfl) : PE X (.Call (.Name "list" p) [.Call (.Name "zip" q) [a, b] [] pos'] [] pos) (tLZ X.K ta) := by
  intro pins s σ H Q I h
  refine Call_ (ld_blt I hgl hml boot_list (PyProof.Rows.callWith_type1 ?_ (by rw [hs0]; rfl) (by rfl)))
  rw [hs0]
  show wpAny _ _ (spliced ((false, eval (Expr.Call (.Name "zip" q) [a, b] [] pos') X.env) :: [])) _ _ s
  refine Calls.spliced_cons ?_
  refine Call_ (ld_blt I hgz hmz boot_zip (PyProof.Rows.callWith_type1 (thn (ha pos' pins s σ H _ I h) fun us s1 ⟨vs, H1, I1, r1, q1⟩ => ?_) (by rw [hs, hs2]) (by rw [hs2]; rfl)))
  obtain ⟨l1, l2, xs, ys, e, q1, q2, hlen, hN, qq⟩ := q1
  subst e
  cases r1 with
  | cons r rr =>
    cases rr with
    | cons r' rr =>
      cases rr
      cases r
      cases r'
      obtain ⟨is1, _, p1, _⟩ := I1.list q1
      obtain ⟨is2, _, p2, _⟩ := I1.list q2
      refine Z3.call_zip2 p1.isList p2.isList fun h2 z2 k2 => Calls.spliced_nil ?_
      refine lz_call hcalm (I1.kept (t' := s1.toks) k2) z2 (fun b hb => ?_) hlen hN q1 q2 qq
      have hb' : s1.heap.objs.size ≤ b := by
        simp only [List.mem_cons, List.not_mem_nil, or_false] at hb
        exact ge5 hb
      exact I1.fpOk hb' (I1.hok.fresh hb')
end
end L2
namespace DQ
open PySem PySem.Spec PyProof.Rows
end DQ
namespace DQ
open PySem PyProof.Rows
open PySem.SeqAt
open PySem.AutoSeq1 (wpAny_loadPart')
open PySem.MeetsSeq PySem.MeetsSeq2 PySem.MeetsSeq3 PySem.SeqRoads2
end DQ
namespace L2
open PySem PySem.Spec PyProof.Rows
end L2
namespace L2
open PySem PySem.Spec PyProof.Rows PySem.SeqAt
inductive Tree where
  | int (i : Int) | str (x : Str) | tup (ts : List Tree)
noncomputable instance treeDec : DecidableEq Tree := fun a b => Classical.propDecidable (a = b)
mutual
def Tree.hash (w : World) : Tree → Int
  | .int i => hashInt i
  | .str x => hashStr w x
  | .tup ts => reduceHash (Builtin.Tuple.tupleHashOf (Tree.hashes w ts))
def Tree.hashes (w : World) : List Tree → List Int
  | [] => []
  | t :: ts => t.hash w :: Tree.hashes w ts
end
mutual
def Tree.draws : Tree → Nat
  | .int _ => 1
  | .str _ => 1
  | .tup ts => Tree.drawss ts + 1
def Tree.drawss : List Tree → Nat
  | [] => 0
  | t :: ts => t.draws + Tree.drawss ts
end
def Leaf : Tree → Value → Prop
  | .int i, .int j _ => j = i
  | .int i, .bool b => i = if b then 1 else 0
  | .str x, .str y _ => y = x
  | _, _ => False
def VT (h : Heap) : Nat → Tree → Value → Prop
  | 0, t, v => Leaf t v
  | n + 1, t, v => Leaf t v ∨ ∃ ts a items, t = .tup ts ∧ v = .ref a ∧ h.IsTuple a items ∧ Paired (VT h n) ts items.toList
theorem Leaf.noref {t : Tree} {a : Addr} (h : Leaf t (.ref a)) : False := by cases t <;> exact h
theorem Leaf.byValue {t : Tree} {v : Value} (h : Leaf t v) : carriedByValue v = true := by
  cases v with
  | ref a => exact h.noref.elim
  | _ => rfl
theorem Leaf.inj {t t' : Tree} {v : Value} (h : Leaf t v) (h' : Leaf t' v) : t = t' := by
  cases t <;> cases t' <;> cases v <;> first | exact h.elim | exact h'.elim | (simp only [Leaf] at h h'; subst h; subst h'; rfl) | (simp only [Leaf] at h h'; rw [h, h'])
theorem Heap.IsTuple.same {h : Heap} {a : Addr} {x y : Array Value} (hx : h.IsTuple a x) (hy : h.IsTuple a y) : x = y := by
  obtain ⟨o, h1, _, n, h2⟩ := hx
  obtain ⟨o', h1', _, n', h2'⟩ := hy
  obtain rfl : o = o' := Option.some.inj (h1.symm.trans h1')
  rw [h2] at h2'
  injection h2'
theorem paired_inj {α β : Type} {F : α → β → Prop} (f : ∀ a a' b, F a b → F a' b → a = a') : ∀ {xs xs' : List α} {ys : List β}, Paired F xs ys → Paired F xs' ys → xs = xs'
  | _, _, _, .nil, .nil => rfl
  | _, _, _, .cons a t, .cons b u => by rw [f _ _ _ a b, paired_inj f t u]
theorem VT.inj {h : Heap} : ∀ {n : Nat} {t t' : Tree} {v : Value}, VT h n t v → VT h n t' v → t = t'
  | 0, _, _, _, a, b => Leaf.inj a b
  | n + 1, t, t', v, a, b => by
    rcases a with a | ⟨ts, p, items, rfl, rfl, h1, h2⟩
    · rcases b with b | ⟨ts, p, items, rfl, rfl, _, _⟩
      · exact Leaf.inj a b
      · exact a.noref.elim
    · rcases b with b | ⟨ts', p', items', rfl, e, h1', h2'⟩
      · exact b.noref.elim
      · injection e with e
        subst e
        obtain rfl := Heap.IsTuple.same h1 h1'
        rw [paired_inj (F := VT _ n) (fun _ _ _ a b => VT.inj a b) h2 h2']
theorem VT.keeps {h h' : Heap} {d : Addr} {o : Obj} {es ep} (ho : h.get? d = some o) (hd : o.data = .dict es ep) (hs : Heap.SameBut d h h') : ∀ {n : Nat} {t : Tree} {v : Value}, VT h n t v → VT h' n t v
  | 0, _, _, a => a
  | n + 1, t, v, a => by
    rcases a with a | ⟨ts, p, items, rfl, rfl, ⟨o', h1, h2, m, h3⟩, h4⟩
    · exact .inl a
    · have hne : p ≠ d := by
        rintro rfl
        obtain rfl : o' = o := Option.some.inj (h1.symm.trans ho)
        rw [hd] at h3; exact nomatch h3
      exact .inr ⟨ts, p, items, rfl, rfl, ⟨o', (hs.2 p hne).trans h1, h2, m, h3⟩, Paired.mapP h4 fun _ _ z => VT.keeps ho hd hs z⟩
section
variable {prog : Program} {w : World} {A : Around} {E : Value → Shared → Prop} {s : Shared}
theorem hash_bool {b : Bool} {Q : Int → Shared → Prop} (h : Q (hashInt (if b then 1 else 0)) { s with toks := s.toks + 1 }) : wpAny (model prog w) A (pyHash (.bool b)) Q E s := by
  have hr := rawHash_range (if b then 1 else 0)
  have hT : s.TypeIs (.bool b) "bool" := rfl
  unfold pyHash
  have hv : [Value.bool b].any Value.onHeap = false := rfl
  refine wpAny_bind ?_
  rw [cRoomFor, if_neg (by rw [hv]; exact Bool.false_ne_true)]; refine wpAny_pure ?_
  refine wpAny_bind (wpAny_specialOf hT PySem.F.slot_bool_hash.lookup ?_)
  show wpAny _ _ (if (some (Value.builtin "int.__hash__") == some Value.none) = true then _ else _) Q E s
  rw [if_neg (by rw [beq_builtin_none]; exact Bool.false_ne_true)]
  refine wpAny_bind (wpAny_specialOf hT PySem.F.slot_bool_hash.lookup ?_)
  show wpAny _ _ (callSpecialIfBoundUnlessNone? (.bool b) "__hash__" _ >>= _) Q E s
  refine wpAny_bind (wpAny_callSpecialIfBoundUnlessNone?_slot hT PySem.F.slot_bool_hash
    (wpAny_call_entry PySem.F.slot_bool_hash hT PySem.F.entry_int_hash
      (show wpAny _ _ (do ret (← mkInt (rawHash (if b then 1 else 0)))) _ _ s from wpAny_ret_mkInt ?_) (PySem.F.args_int_hash_1 _)))
  show wpAny _ _ (if (decide (-(2 : Int) ^ 63 ≤ rawHash (if b then 1 else 0)) && decide (rawHash (if b then 1 else 0) < 2 ^ 63)) = true then _ else _) Q E _
  rw [if_pos (by rw [decide_eq_true hr.1, decide_eq_true hr.2]; rfl)]
  exact wpAny_pure h
theorem Leaf.hash {t : Tree} {v : Value} (l : Leaf t v) {Q : Int → Shared → Prop} (h : Q (t.hash w) { s with toks := s.toks + t.draws }) : wpAny (model prog w) A (pyHash v) Q E s := by
  cases t with
  | int i =>
    cases v with
    | int j u => obtain rfl : j = i := l; unfold Tree.hash Tree.draws at h; exact wpAny_pyHash_int h
    | bool b => obtain rfl : i = if b then 1 else 0 := l; unfold Tree.hash Tree.draws at h; exact hash_bool h
    | _ => exact l.elim
  | str x =>
    cases v with
    | str y u => obtain rfl : y = x := l; unfold Tree.hash Tree.draws at h; exact wpAny_pyHash_str h
    | _ => exact l.elim
  | tup ts => cases v <;> exact l.elim
end
theorem hashes_map (w : World) : ∀ ts : List Tree, Tree.hashes w ts = ts.map (Tree.hash w)
  | [] => by unfold Tree.hashes; rfl
  | t :: ts => by unfold Tree.hashes; rw [hashes_map w ts]; rfl
theorem drawss_append : ∀ ts us : List Tree, Tree.drawss (ts ++ us) = Tree.drawss ts + Tree.drawss us
  | [], us => by show Tree.drawss us = _; unfold Tree.drawss; simp
  | t :: ts, us => by
    have e : Tree.drawss (t :: ts ++ us) = t.draws + Tree.drawss (ts ++ us) := by show Tree.drawss (t :: (ts ++ us)) = _; conv => lhs; unfold Tree.drawss
    have e2 : Tree.drawss (t :: ts) = t.draws + Tree.drawss ts := by conv => lhs; unfold Tree.drawss
    rw [e, e2, drawss_append ts us, Nat.add_assoc]
theorem drawss1 (t : Tree) : Tree.drawss [t] = t.draws := by
  have e2 : Tree.drawss [t] = t.draws + Tree.drawss [] := by conv => lhs; unfold Tree.drawss
  have e3 : Tree.drawss [] = 0 := by conv => lhs; unfold Tree.drawss
  rw [e2, e3]; rfl
theorem VT.hash {prog : Program} {w : World} : ∀ {n : Nat} {A : Around} {E : Value → Shared → Prop} {s : Shared} {t : Tree} {v : Value} {Q : Int → Shared → Prop}, A.units + n < cLine → VT s.heap n t v → Q (t.hash w) { s with toks := s.toks + t.draws } →
    wpAny (model prog w) A (pyHash v) Q E s
  | 0, _, _, _, _, _, _, _, l, h => Leaf.hash l h
  | n + 1, A, E, s, t, v, Q, hu, k, h => by
    rcases k with l | ⟨ts, a, items, rfl, rfl, hk, hi⟩
    · exact l.hash h
    have hT : s.TypeIs (.ref a) "tuple" := let ⟨o, h1, h2, _⟩ := hk; ⟨o, h1, h2⟩
    obtain ⟨o, ho, _, m, hd⟩ := hk
    unfold pyHash
    first | unfold pyHashByItsType | skip
    first | refine wpAny_bind (wpAny_cRoomFor_or (.inr (by omega)) ?_) | skip
    refine wpAny_bind (wpAny_specialOf hT PySem.F.slot_tuple_hash.lookup ?_)
    show wpAny _ _ (if (some (Value.builtin "tuple.__hash__") == some Value.none) = true then _ else _) Q E s
    rw [if_neg (by rw [beq_builtin_none]; exact Bool.false_ne_true)]
    refine wpAny_bind (wpAny_specialOf hT PySem.F.slot_tuple_hash.lookup ?_)
    show wpAny _ _ (callSpecialIfBoundUnlessNone? (.ref a) "__hash__" _ >>= _) Q E s
    refine wpAny_bind (wpAny_callSpecialIfBoundUnlessNone?_slot hT PySem.F.slot_tuple_hash (wpAny_call_entry PySem.F.slot_tuple_hash hT PySem.F.entry_tuple_hash ?_ (PySem.F.args_tuple_hash_1 _)))
    show wpAny _ _ (Builtin.Tuple.tupleItemsOf (.ref a) >>= _) _ _ s
    refine wpAny_bind (wpAny_tupleItemsOf ho hd ?_)
    refine wpAny_bind ?_
    rw [← Array.forIn_toList]
    refine wpAny_forIn_list _
      (fun rest (b : Array Int) s' => ∃ done left, ts = done ++ left ∧ Paired (VT s.heap n) left rest ∧ b.toList = done.map (Tree.hash w) ∧ s' = { s with toks := s.toks + Tree.drawss done })
      _ ?_ ?_ _ _ ⟨[], ts, rfl, hi, rfl, by show s = { s with toks := s.toks + Tree.drawss [] }; unfold Tree.drawss; rfl⟩
    · rintro x rest b s' ⟨done, left, rfl, hl, hb, rfl⟩
      cases hl with
      | @cons k _ ks' _ h1 hl' =>
        refine wpAny_bind (VT.hash (n := n) (by first | omega | (show A.units + 1 + n < cLine; omega)) h1 ?_)
        have e : ({ s with toks := s.toks + Tree.drawss done + k.draws } : Shared) = { s with toks := s.toks + Tree.drawss (done ++ [k]) } := by
          rw [drawss_append, drawss1, Nat.add_assoc]
        first
          | exact wpAny_pure ⟨done ++ [k], ks', by simp, hl', by simp [hb], e⟩
          | exact wpAny_bind (wpAny_pure (wpAny_pure ⟨done ++ [k], ks', by simp, hl', by simp [hb], e⟩))
    · rintro b s' ⟨done, left, rfl, hl, hb, rfl⟩
      cases hl
      rw [List.append_nil] at h
      show wpAny _ _ (retInt (Builtin.Tuple.tupleHashOf b.toList)) _ _ _
      rw [hb]
      refine wpAny_ret_mkInt ?_
      show wpAny _ _ (if (decide (-(2 : Int) ^ 63 ≤ Builtin.Tuple.tupleHashOf (done.map (Tree.hash w))) && decide (Builtin.Tuple.tupleHashOf (done.map (Tree.hash w)) < 2 ^ 63)) = true then _ else _) Q E _
      have e1 : Tree.hash w (.tup done) = reduceHash (Builtin.Tuple.tupleHashOf (done.map (Tree.hash w))) := by rw [← hashes_map]; conv => lhs; unfold Tree.hash
      have e2 : Tree.draws (.tup done) = Tree.drawss done + 1 := by conv => lhs; unfold Tree.draws
      rw [e1, e2] at h
      unfold reduceHash at h
      by_cases hr : (decide (-(2 : Int) ^ 63 ≤ Builtin.Tuple.tupleHashOf (done.map (Tree.hash w))) && decide (Builtin.Tuple.tupleHashOf (done.map (Tree.hash w)) < 2 ^ 63)) = true
      · rw [if_pos hr]
        rw [if_pos hr] at h
        exact wpAny_pure (by simpa [Nat.add_assoc] using h)
      · rw [if_neg hr]
        rw [if_neg hr] at h
        exact wpAny_bind (wpAny_rule (wpAny_pure (by simpa [Nat.add_assoc] using h)))
theorem beqD {α : Type} [BEq α] [LawfulBEq α] [DecidableEq α] (a b : α) : (a == b) = decide (a = b) := by
  by_cases e : a = b
  · subst e; simp
  · rw [decide_eq_false e]; exact beq_eq_false_iff_ne.mpr e
theorem Leaf.eq {A : Around} {s : Shared} {t t' : Tree} {u v : Value} (l : Leaf t u) (l' : Leaf t' v) : EqAt A s u v (decide (t = t')) := by
  have key : ∀ {b : Bool}, EqAt A s u v b → b = decide (t = t') → EqAt A s u v (decide (t = t')) := fun h e => e ▸ h
  cases t with
  | int i =>
    cases t' with
    | int j =>
      cases u with
      | int i' t1 =>
        obtain rfl : i' = i := l
        cases v with
        | int j' t2 => obtain rfl : j' = j := l'; exact key (EqAt.int_int _ _ _ _) (by rw [beqD]; exact decide_eq_decide.mpr ⟨fun e => by rw [e], fun e => by injection e⟩)
        | bool b => obtain rfl : j = if b then 1 else 0 := l'; exact key (EqAt.int_bool _ _ _) (by rw [beqD]; exact decide_eq_decide.mpr ⟨fun e => by rw [e], fun e => by injection e⟩)
        | _ => exact l'.elim
      | bool c =>
        obtain rfl : i = if c then 1 else 0 := l
        cases v with
        | int j' t2 => obtain rfl : j' = j := l'; exact key (EqAt.bool_int _ _ _) (by rw [beqD]; exact decide_eq_decide.mpr ⟨fun e => by rw [e], fun e => by injection e⟩)
        | bool b =>
          obtain rfl : j = if b then 1 else 0 := l'
          refine key (EqAt.bool_bool _ _) ?_
          rw [beqD]
          refine decide_eq_decide.mpr ⟨fun e => by rw [e], fun e => ?_⟩
          injection e with e
          revert e
          cases c <;> cases b <;> decide
        | _ => exact l'.elim
      | _ => exact l.elim
    | str y =>
      cases v with
      | str y' t2 =>
        have e : false = decide (Tree.int i = Tree.str y) := (decide_eq_false (fun e => nomatch e)).symm
        cases u with
        | int i' t1 => exact key (EqAt.int_str _ _ _ _) e
        | bool c => exact key (EqAt.bool_str _ _ _) e
        | _ => exact l.elim
      | _ => exact l'.elim
    | tup ts => cases v <;> exact l'.elim
  | str x =>
    cases u with
    | str x' t1 =>
      obtain rfl : x' = x := l
      cases t' with
      | int j =>
        have e : false = decide (Tree.str x' = Tree.int j) := (decide_eq_false (fun e => nomatch e)).symm
        cases v with
        | int j' t2 => exact key (EqAt.str_int _ _ _ _) e
        | bool b => exact key (EqAt.str_bool _ _ _) e
        | _ => exact l'.elim
      | str y =>
        cases v with
        | str y' t2 => obtain rfl : y' = y := l'; exact key (EqAt.str_str _ _ _ _) (by rw [beqD]; exact decide_eq_decide.mpr ⟨fun e => by rw [e], fun e => by injection e⟩)
        | _ => exact l'.elim
      | tup ts => cases v <;> exact l'.elim
    | _ => exact l.elim
  | tup ts => cases u <;> exact l.elim
theorem Leaf.eqT {A : Around} {s : Shared} {t : Tree} {ts : List Tree} {u : Value} {a : Addr} {items : Array Value} (l : Leaf t u) (h : s.heap.IsTuple a items) (hu : A.units < cLine) : EqAt A s u (.ref a) (decide (t = .tup ts)) := by
  have e : decide (t = Tree.tup ts) = false := decide_eq_false (fun e => by subst e; cases u <;> exact l.elim)
  rw [e]
  cases u with
  | int i t1 => exact EqAt.int_tuple _ _ h hu
  | bool b => exact EqAt.bool_tuple _ h hu
  | str x t1 => exact EqAt.str_tuple _ _ h hu
  | _ => cases t <;> exact l.elim
theorem Leaf.Teq {A : Around} {s : Shared} {t : Tree} {ts : List Tree} {u : Value} {a : Addr} {items : Array Value} (l : Leaf t u) (h : s.heap.IsTuple a items) (hu : A.units < cLine) : EqAt A s (.ref a) u (decide (.tup ts = t)) := by
  have e : decide (Tree.tup ts = t) = false := decide_eq_false (fun e => by subst e; cases u <;> exact l.elim)
  rw [e]
  cases u with
  | int i t1 => exact EqAt.tuple_int _ _ h hu
  | bool b => exact EqAt.tuple_bool _ h hu
  | str x t1 => exact EqAt.tuple_str _ _ h hu
  | _ => cases t <;> exact l.elim
theorem all_range {xs ys : List Tree} : ((List.range (min xs.length ys.length)).all (fun j => decide (xs[j]? = ys[j]?)) && xs.length == ys.length) = decide (xs = ys) := by
  by_cases e : xs = ys
  · subst e
    simp
  · rw [decide_eq_false e]
    by_cases hl : xs.length = ys.length
    · rw [hl]
      simp only [Nat.min_self, beq_self_eq_true, Bool.and_true]
      rw [List.all_eq_false]
      apply Classical.byContradiction
      intro h
      refine e (List.ext_getElem? fun i => ?_)
      by_cases hi : i < ys.length
      · apply Classical.byContradiction
        intro hne
        exact h ⟨i, List.mem_range.mpr hi, by simpa using hne⟩
      · rw [List.getElem?_eq_none_iff.mpr (by omega), List.getElem?_eq_none_iff.mpr (by omega)]
    · have : (xs.length == ys.length) = false := beq_eq_false_iff_ne.mpr hl
      rw [this, Bool.and_false]
theorem paired_get {α β : Type} {F : α → β → Prop} : ∀ {xs : List α} {ys : List β} {i : Nat} {y : β}, Paired F xs ys → ys[i]? = some y → ∃ x, xs[i]? = some x ∧ F x y
  | _, _, _, _, .nil, e => by simp at e
  | _, _, 0, _, .cons r _, e => by simp at e; subst e; exact ⟨_, rfl, r⟩
  | _, _, i + 1, y, .cons _ t, e => by
    obtain ⟨u, h1, h2⟩ := paired_get (i := i) (y := y) t (by simpa using e)
    exact ⟨u, by simpa using h1, h2⟩
theorem VT.eq {s : Shared} : ∀ {n : Nat} {A : Around} {t t' : Tree} {u v : Value}, A.units + n < cLine → VT s.heap n t u → VT s.heap n t' v → EqAt A s u v (decide (t = t'))
  | 0, _, _, _, _, _, _, a, b => Leaf.eq a b
  | n + 1, A, t, t', u, v, hu, a, b => by
    rcases a with a | ⟨ts, p, items, rfl, rfl, h1, h2⟩
    · rcases b with b | ⟨ts', p', items', rfl, rfl, h1', h2'⟩
      · exact Leaf.eq a b
      · exact a.eqT h1' (by omega)
    · rcases b with b | ⟨ts', p', items', rfl, rfl, h1', h2'⟩
      · exact b.Teq h1 (by omega)
      · have l1 : ts.length = items.size := by rw [Paired.length h2]; simp
        have l2 : ts'.length = items'.size := by rw [Paired.length h2']; simp
        by_cases hp : p = p'
        · subst hp
          obtain rfl := Heap.IsTuple.same h1 h1'
          obtain rfl := paired_inj (F := VT _ n) (fun _ _ _ a b => VT.inj a b) h2 h2'
          rw [decide_eq_true rfl]
          exact EqAt.same _
        · refine EqAt.of_refs hp ?_
          have he : ∀ j (g1 : j < items.size) (g2 : j < items'.size), EqAt A.in1 s items[j] items'[j] (decide (ts[j]? = ts'[j]?)) := fun j g1 g2 => by
            obtain ⟨x, ex, rx⟩ := paired_get h2 (i := j) (y := items[j]) (by rw [Array.getElem?_toList]; exact Array.getElem?_eq_getElem g1)
            obtain ⟨y, ey, ry⟩ := paired_get h2' (i := j) (y := items'[j]) (by rw [Array.getElem?_toList]; exact Array.getElem?_eq_getElem g2)
            have q := VT.eq (n := n) (A := A.in1) (by show A.units + 1 + n < cLine; omega) rx ry
            have e : decide (ts[j]? = ts'[j]?) = decide (x = y) := by rw [ex, ey]; exact decide_eq_decide.mpr ⟨fun e => by injection e, fun e => by rw [e]⟩
            rw [e]
            exact q
          have r := RcAt.tuples (e := fun j => decide (ts[j]? = ts'[j]?)) h1 h1' (by omega) he
          have e3 : ((List.range (min items.size items'.size)).all (fun j => decide (ts[j]? = ts'[j]?)) && items.size == items'.size) = decide (Tree.tup ts = Tree.tup ts') := by
            rw [← l1, ← l2, all_range]
            exact decide_eq_decide.mpr ⟨fun e => by rw [e], fun e => by injection e⟩
          rw [e3] at r
          exact r
theorem VT.quiet {prog : Program} {w : World} {A : Around} {E : Value → Shared → Prop} {s : Shared} : ∀ {n : Nat} {t : Tree} {v : Value} {Q : Bool → Shared → Prop}, VT s.heap n t v → Q true s → wpAny (model prog w) A (eqIsQuiet n v) Q E s
  | 0, t, v, Q, l, h => by rw [eqIsQuiet_byValue _ (Leaf.byValue l)]; exact wpAny_pure h
  | n + 1, t, v, Q, k, h => by
    rcases k with l | ⟨ts, a, items, rfl, rfl, hk, hi⟩
    · rw [eqIsQuiet_byValue _ l.byValue]; exact wpAny_pure h
    have hT : s.TypeIs (.ref a) "tuple" := let ⟨o, h1, h2, _⟩ := hk; ⟨o, h1, h2⟩
    obtain ⟨o, ho, _, m, hd⟩ := hk
    unfold eqIsQuiet
    refine wpAny_bind (wpAny_specialOf hT PySem.F.slot_tuple_eq.lookup ?_)
    show wpAny _ _ (isInstance (.ref a) (.type "tuple") >>= _) _ _ s
    refine wpAny_bind (wpAny_isInstance hT isSubtype_tuple_tuple ?_)
    simp only [Bool.not_true, Bool.false_eq_true, if_false]
    refine wpAny_bind (wpAny_seqItems ho hd ?_)
    refine wpAny_bind ?_
    show wpAny _ _ (forIn items _ _) _ _ s
    rw [← Array.forIn_toList]
    refine wpAny_forIn_list _ (fun rest r s' => r.1 = none ∧ s' = s ∧ ∃ left, Paired (VT s.heap n) left rest) _ ?_ ?_ _ _ ⟨rfl, rfl, _, hi⟩
    · rintro v rest r s' ⟨hr, rfl, left, hl⟩
      cases hl with
      | cons h1 hl' =>
        refine wpAny_bind (VT.quiet (n := n) h1 ?_)
        simp only [Bool.not_true, Bool.false_eq_true, if_false]
        exact wpAny_pure ⟨rfl, rfl, _, hl'⟩
    · rintro ⟨r1, r2⟩ s' ⟨hr, rfl, _⟩
      simp only at hr
      subst hr
      exact wpAny_pure h
noncomputable def treeKind (prog : Program) (w : World) : HeapKind prog w Tree where
  is := fun h t a => VT h 8 t (.ref a)
  hash := Tree.hash w
  draws := Tree.draws
  room := fun A => A.units + 8 < cLine
  inj := fun hx hy => hx.inj hy
  keeps := fun x ho hd hs => x.keeps ho hd hs
  pyHash := fun hu hk h => VT.hash hu hk h
  eqBool := fun hu hx hy h => VT.eq hu hx hy _ _ _ _ h
  quiet := fun hk h => VT.quiet hk h
end L2
namespace L2
open PySem PySem.Spec PyProof.Rows
def LeafV : Tree → V → Prop
  | .int i, .int j => j = i
  | .int i, .bl b => i = if b then 1 else 0
  | .str x, .str y => y = x
  | _, _ => False
def TV (H : Hp) : Nat → Tree → V → Prop
  | 0, t, v => LeafV t v
  | n + 1, t, v => LeafV t v ∨ ∃ ts a xs, t = .tup ts ∧ v = .ref a ∧ H a = some (.tup xs) ∧ Paired (TV H n) ts xs
theorem LeafV.leaf {t : Tree} {v : V} {u : Value} (l : LeafV t v) (r : RelV v u) : Leaf t u := by
  cases t with
  | int i =>
    cases v with
    | int j => obtain ⟨k, rfl⟩ := (show ∃ k, u = Value.int j k from r); exact l
    | bl b => obtain rfl : u = Value.bool b := r; exact l
    | _ => exact l.elim
  | str x =>
    cases v with
    | str y => obtain ⟨k, rfl⟩ := (show ∃ k, u = Value.str y k from r); exact l
    | _ => exact l.elim
  | tup ts => cases v <;> exact l.elim
theorem TV.mono {H H' : Hp} (e : ∀ c xs, H c = some (.tup xs) → H' c = some (.tup xs)) : ∀ {n : Nat} {t : Tree} {v : V}, TV H n t v → TV H' n t v
  | 0, _, _, l => l
  | n + 1, t, v, k => by
    rcases k with l | ⟨ts, a, xs, h1, h2, h3, h4⟩
    · exact .inl l
    · exact .inr ⟨ts, a, xs, h1, h2, e _ _ h3, Paired.mapP h4 fun _ _ z => TV.mono e z⟩
theorem vt_list {h : Heap} {H : Hp} {n : Nat} {P : Tree → V → Prop} : ∀ {ts : List Tree} {xs : List V} {us : List Value}, Paired P ts xs → Vals xs us → (∀ t v u, P t v → RelV v u → VT h n t u) → Paired (VT h n) ts us
  | _, _, _, .nil, .nil, _ => .nil
  | _, _, _, .cons a t, .cons b u, f => .cons (f _ _ _ a b) (vt_list (H := H) t u f)
theorem TV.vt {P : Program} {w : World} {H : Hp} {h : Heap} (ok : HOk P w H h) : ∀ {n : Nat} {t : Tree} {v : V} {u : Value}, TV H n t v → RelV v u → VT h n t u
  | 0, _, _, _, l, r => LeafV.leaf l r
  | n + 1, t, v, u, k, r => by
    rcases k with l | ⟨ts, a, xs, rfl, rfl, h3, h4⟩
    · exact .inl (l.leaf r)
    · obtain rfl : u = Value.ref a := r
      obtain ⟨_, its, rv, it⟩ := (show ObjOk P w H h a (.tup xs) from ok a _ h3)
      exact .inr ⟨ts, a, its.toArray, rfl, rfl, it, vt_list (H := H) h4 (by simpa using rv) fun _ _ _ z r => TV.vt ok z r⟩
/-- the dict's one object, by its entries -/
noncomputable def entO (P : Program) (w : World) (a : Addr) (xs : List (Tree × Addr × Value)) : HO :=
  .ext fun h => ∃ o es ep, h.get? a = some o ∧ o.ExactDict ∧ o.data = .dict es ep ∧ es.toList = xs.map (entryOfKey (treeKind P w))
/-- the dict at a: its keys and what they are told, in their order -/
structure DTr (P : Program) (w : World) (H : Hp) (a : Addr) (es : List (Tree × Int)) : Prop where
  ex : ∃ xs, H a = some (entO P w a xs) ∧ Paired (fun (e : Tree × Int) (x : Tree × Addr × Value) => e.1 = x.1 ∧ TV H 8 x.1 (.ref x.2.1) ∧ ∃ t, x.2.2 = Value.int e.2 t) es xs
  nd : (es.map (·.1)).Nodup
  sz : es.length ≤ sizeLine
  ns : (a == sysModules) = false
noncomputable def tfind (es : List (Tree × Int)) (t : Tree) : Option Int := (es.find? fun e => decide (e.1 = t)).map (·.2)
theorem DTr.same {P : Program} {w : World} {H H' : Hp} {a : Addr} {es : List (Tree × Int)} (d : DTr P w H a es) (e : ∀ c xs, H c = some (.tup xs) → H' c = some (.tup xs)) (ea : H' a = H a) : DTr P w H' a es := by
  obtain ⟨⟨xs, h1, h2⟩, h3, h4, h5⟩ := d
  exact ⟨⟨xs, ea.trans h1, Paired.mapP h2 fun _ _ ⟨z1, z2, z3⟩ => ⟨z1, z2.mono e, z3⟩⟩, h3, h4, h5⟩
abbrev KTr (H : Hp) : List (Tree × Int) → List (Tree × Addr × Value) → Prop := Paired fun (e : Tree × Int) (x : Tree × Addr × Value) => e.1 = x.1 ∧ TV H 8 x.1 (.ref x.2.1) ∧ ∃ t, x.2.2 = Value.int e.2 t
theorem tfind_at {H : Hp} {t : Tree} : ∀ {es : List (Tree × Int)} {xs : List (Tree × Addr × Value)}, KTr H es xs → (tfind es t = none ∧ atKey xs t = none) ∨ ∃ i p u, tfind es t = some i ∧ atKey xs t = some (p, Value.int i u)
  | _, _, .nil => .inl ⟨rfl, rfl⟩
  | _, _, .cons (a := e) (b := x) (l₁ := es') (l₂ := xs') ⟨h1, h2, u, h3⟩ r => by
    by_cases q : e.1 = t
    · refine .inr ⟨e.2, x.2.1, u, ?_, ?_⟩
      · simp [tfind, List.find?_cons, q]
      · have : x.1 = t := h1.symm.trans q
        simp [atKey, List.find?_cons, this, ← h3]
    · have q' : ¬ x.1 = t := fun z => q (h1.trans z)
      have a1 : tfind (e :: es') t = tfind es' t := by simp only [tfind, List.find?_cons, decide_eq_false q]
      have a2 : atKey (x :: xs') t = atKey xs' t := by simp only [atKey, List.find?_cons, decide_eq_false q']
      rw [a1, a2]
      exact tfind_at r
theorem ktr_keys {H : Hp} : ∀ {es : List (Tree × Int)} {xs : List (Tree × Addr × Value)}, KTr H es xs → es.map (·.1) = xs.map (·.1)
  | _, _, .nil => rfl
  | _, _, .cons ⟨h1, _⟩ r => by rw [List.map_cons, List.map_cons, h1, ktr_keys r]
theorem ktr_all {H : Hp} : ∀ {es : List (Tree × Int)} {xs : List (Tree × Addr × Value)}, KTr H es xs → ∀ x ∈ xs, TV H 8 x.1 (.ref x.2.1)
  | _, _, .cons ⟨_, h2, _⟩ r, x, hx => by
    rcases List.mem_cons.mp hx with rfl | hx
    · exact h2
    · exact ktr_all r x hx
theorem DTr.raw {P : Program} {w : World} {H : Hp} {h : Heap} {a : Addr} {es : List (Tree × Int)} (ok : HOk P w H h) (d : DTr P w H a es) : ∃ xs, H a = some (entO P w a xs) ∧ KTr H es xs ∧ h.DictOfH (treeKind P w) a xs := by
  obtain ⟨⟨xs, h1, h2⟩, h3, h4, h5⟩ := d
  obtain ⟨⟨o, es', ep, g1, g2, g3, g4⟩, _⟩ := (show ObjOk P w H h a (entO P w a xs) from ok a _ h1)
  exact ⟨xs, h1, h2, o, es', ep, g1, g2, g3, g4, fun x hx => TV.vt ok (ktr_all h2 x hx) rfl, by rw [← ktr_keys h2]; exact h3⟩
theorem entO_stay {P : Program} {w : World} {a : Addr} {xs : List (Tree × Addr × Value)} : ∀ h1 h2 : Heap, (∃ o es ep, h1.get? a = some o ∧ o.ExactDict ∧ o.data = .dict es ep ∧ es.toList = xs.map (entryOfKey (treeKind P w))) → (∀ o, h1.get? a = some o → h2.get? a = some o) →
    ∃ o es ep, h2.get? a = some o ∧ o.ExactDict ∧ o.data = .dict es ep ∧ es.toList = xs.map (entryOfKey (treeKind P w)) := fun _ _ ⟨o, es, ep, h1, h2⟩ k => ⟨o, es, ep, k o h1, h2⟩
theorem entO_ok {P : Program} {w : World} {H : Hp} {h : Heap} {a : Addr} {xs : List (Tree × Addr × Value)} {o : Obj} {es ep} (h1 : h.get? a = some o) (h2 : o.ExactDict) (h3 : o.data = .dict es ep) (h4 : es.toList = xs.map (entryOfKey (treeKind P w))) :
    ObjOk P w H h a (entO P w a xs) := ⟨⟨o, es, ep, h1, h2, h3, h4⟩, ⟨o, h1⟩, entO_stay⟩
/-- {} -/
def tDNewR (P : Program) (w : World) : TE := fun _ H Q => ∀ p o, H p = none → DTr P w (upd H p o) p [] → Mut (some o) → Q (.ref p) (upd H p o)
theorem pe_dnewR {X : Cx} {pos : Pos} : PE X (.Dict [] [] pos) (tDNewR X.prog X.w) := fun pins s σ H Q I h => by
  have hb := I.big
  have e1 : (s.heap.push { cls := .type "dict", data := .dict #[] }).get? s.heap.objs.size = some { cls := .type "dict", data := .dict #[] } := Heap.get?_push_size _ rfl
  refine wpAny_Dict_empty ⟨.ref s.heap.objs.size, _, I.laid (a := s.heap.objs.size) (o := entO X.prog X.w s.heap.objs.size []) (t' := s.toks) (fun _ _ q => Heap.get?_push_of_some _ q) (Nat.le_refl _)
    (entO_ok (es := #[]) (ep := 0) e1 ⟨rfl, rfl, rfl⟩ rfl rfl), rfl, h _ _ (I.hok.fresh (Nat.le_refl _)) ⟨⟨[], upd_same, .nil⟩, List.nodup_nil, Nat.zero_le _, beq_eq_false_iff_ne.mpr (Ne.symm (Nat.ne_of_lt hb))⟩ True.intro⟩
/-- d[y], there -/
def tTGet (P : Program) (w : World) (td ty : TE) : TE := fun σ H Q => td σ H fun x H1 => ty σ H1 fun y H2 => ∃ a b es t i, x = .ref a ∧ y = .ref b ∧ DTr P w H2 a es ∧ TV H2 8 t (.ref b) ∧ tfind es t = some i ∧ Q (.int i) H2
/-- y not in d -/
def tTNotIn (P : Program) (w : World) (ty td : TE) : TE := fun σ H Q => ty σ H fun y H1 => td σ H1 fun x H2 => ∃ a b es t, x = .ref a ∧ y = .ref b ∧ DTr P w H2 a es ∧ TV H2 8 t (.ref b) ∧ Q (.bl (!(tfind es t).isSome)) H2
/-- d[y] = v, where y is new -/
def sTPut (P : Program) (w : World) (td ty tv : TE) : TS := fun D σ H => tv σ H fun v H1 => td σ H1 fun x H2 => ty σ H2 fun y H3 => ∃ a b es t i, x = .ref a ∧ y = .ref b ∧ v = .int i ∧ DTr P w H3 a es ∧ TV H3 8 t (.ref b) ∧ tfind es t = none ∧ es.length < sizeLine ∧
  ∀ o, DTr P w (upd H3 a o) a (es ++ [(t, i)]) → Mut (some o) → D.nx σ (upd H3 a o)
theorem ktr_snoc {H : Hp} {es : List (Tree × Int)} {xs : List (Tree × Addr × Value)} (r : KTr H es xs) {t : Tree} {i : Int} {b : Addr} {u : Tok} (hb : TV H 8 t (.ref b)) : KTr H (es ++ [(t, i)]) (xs ++ [(t, b, Value.int i u)]) := Paired.snoc r ⟨rfl, hb, _, rfl⟩
section
variable {X : Cx} {o i e value : Expr} {pos pos' tpos : Pos} {td ty tv : TE}
theorem pe_tget (hu : X.A.units + 16 < cLine) (ho : PE X o td) (hi : PE X i ty) (hs : NoSl i) : PE X (.Subscript o i pos) (tTGet X.prog X.w td ty) := by
  intro pins s σ H Q I h
  refine subD_of PySem.F.slot_dict_getitem.lookup hs (thn (ho pins s σ H _ I h) fun u s1 ⟨x, H1, I1, rx, q1⟩ => thn (hi pins s1 σ H1 _ I1 q1) fun iv s2 ⟨y, H2, I2, ry, a, b, es, t, k, ex, ey, d, hk, g, q2⟩ => ?_)
  subst ex ey
  obtain rfl : u = Value.ref a := rx
  obtain rfl : iv = Value.ref b := ry
  obtain ⟨xs, ha, kt, dd⟩ := d.raw I2.hok
  refine ⟨dd.typeIs, ?_⟩
  rcases tfind_at (t := t) kt with ⟨z, _⟩ | ⟨k', p, u', z1, z2⟩
  · rw [g] at z; cases z
  · obtain rfl : k' = k := by rw [g] at z1; injection z1 with z1; exact z1.symm
    exact wpAny_getItem_heap (show X.A.units + 1 + 8 < cLine by omega) (TV.vt I2.hok hk rfl) dd z2 ⟨.int k', H2, I2.tok _, ⟨_, rfl⟩, q2⟩
theorem pc_tnotin (hu : X.A.units + 16 < cLine) (hi : PE X i ty) (ho : PE X o td) : PC X .NotIn i o (tTNotIn X.prog X.w ty td) := by
  intro pins s σ H Q I h
  refine thn (hi pins s σ H _ I h) fun iv s1 ⟨y, H1, I1, ry, q1⟩ => thn (ho pins s1 σ H1 _ I1 q1) fun u s2 ⟨x, H2, I2, rx, a, b, es, t, ex, ey, d, hk, q2⟩ => ?_
  subst ex ey
  obtain rfl : u = Value.ref a := rx
  obtain rfl : iv = Value.ref b := ry
  obtain ⟨xs, ha, kt, dd⟩ := d.raw I2.hok
  refine wpAny_notIn_heap (show X.A.units + 1 + 8 < cLine by omega) (TV.vt I2.hok hk rfl) d.ns dd ?_
  have e : (atKey xs t).isSome = (tfind es t).isSome := by
    rcases tfind_at (t := t) kt with ⟨z, z2⟩ | ⟨k', p, u', z1, z2⟩
    · rw [z, z2]; rfl
    · rw [z1, z2]; rfl
  rw [e]
  exact ⟨.bl (!(tfind es t).isSome), H2, I2.tok _, rfl, q2⟩
theorem tfind_none {es : List (Tree × Int)} {t : Tree} (h : tfind es t = none) : t ∉ es.map (·.1) := fun hm => by
  obtain ⟨e, he, rfl⟩ := List.mem_map.mp hm
  unfold tfind at h
  rw [Option.map_eq_none_iff, List.find?_eq_none] at h
  exact h e he (by simp)
theorem ps_tput (hu : X.A.units + 16 < cLine) (ho : PE X o td) (hi : PE X i ty) (hv : PE X value tv) (hs : swapsWith value (some (.Subscript o i pos')) pos.line X.env = pure false) :
    PS X (.Assign [.Subscript o i pos'] value pos) (sTPut X.prog X.w td ty tv) := by
  intro pins s σ H D I h
  refine wpAny_Assign_Subscript (thn (hv pins s σ H _ I h) fun r s1 ⟨v, H1, I1, rv, q1⟩ => thn (ho pins s1 σ H1 _ I1 q1) fun u s2 ⟨x, H2, I2, rx, q2⟩ => thn (hi pins s2 σ H2 _ I2 q2) fun iv s3 ⟨y, H3, I3, ry, a, b, es, t, k, ex, ey, ev, d, hk, g, hz, q3⟩ => ?_) hs
  subst ex ey ev
  obtain rfl : u = Value.ref a := rx
  obtain rfl : iv = Value.ref b := ry
  obtain ⟨tk, rfl⟩ := (show ∃ tk, r = Value.int k tk from rv)
  obtain ⟨xs, ha, kt, dd⟩ := d.raw I3.hok
  have hzx : xs.length ≤ sizeLine := by rw [← Paired.length kt]; omega
  have hn : atKey xs t = none := by
    rcases tfind_at (t := t) kt with ⟨z, z2⟩ | ⟨k', p, u', z1, z2⟩
    · exact z2
    · rw [g] at z1; cases z1
  refine wpAny_setItem_heap (hsz := hzx) (show X.A.units + 1 + 8 < cLine by omega) (TV.vt I3.hok hk rfl) dd fun h' dd' hs' => ?_
  rw [storedH_new hn] at dd'
  obtain ⟨q, es', ep, hq, h2, h3, h4, _, h5⟩ := dd'
  have mu : Mut (H3 a) := by rw [ha]; exact True.intro
  refine ⟨σ, _, d_write I3 mu hs' ⟨q, hq⟩ (entO_ok (xs := xs ++ [(t, b, Value.int k tk)]) hq h2 h3 h4), q3 _ ⟨⟨_, upd_same, ?_⟩, ?_, ?_, d.ns⟩ True.intro⟩
  · refine Paired.mapP (ktr_snoc kt (u := tk) (i := k) hk) fun _ _ ⟨z1, z2, z3⟩ => ⟨z1, z2.mono fun c ys ec => ?_, z3⟩
    rw [upd_ne (ne_of ec ha (fun z => nomatch z))]
    exact ec
  · rw [List.map_append, List.nodup_append]
    exact ⟨d.nd, List.nodup_cons.mpr ⟨List.not_mem_nil, List.nodup_nil⟩, fun x hx y hy e => tfind_none g (by simp only [List.map_cons, List.map_nil, List.mem_cons, List.not_mem_nil, or_false] at hy; rw [← hy, ← e]; exact hx)⟩
  · rw [List.length_append]; show es.length + 1 ≤ _; omega
end
end L2
namespace L2
open PySem PySem.Spec PyProof.Rows
inductive FT where
  | int (i : Int) | bl (b : Bool) | str (x : Str) | tup (ts : List FT)
mutual
def FT.key : FT → Tree
  | .int i => .int i
  | .bl b => .int (if b then 1 else 0)
  | .str x => .str x
  | .tup ts => .tup (FT.keys ts)
def FT.keys : List FT → List Tree
  | [] => []
  | t :: ts => t.key :: FT.keys ts
end
theorem keys_map : ∀ ts : List FT, FT.keys ts = ts.map FT.key
  | [] => by unfold FT.keys; rfl
  | t :: ts => by unfold FT.keys; rw [keys_map ts]; rfl
theorem key_tup (ts : List FT) : FT.key (.tup ts) = .tup (ts.map FT.key) := by
  rw [← keys_map]
  conv => lhs; unfold FT.key
def LeafF : FT → V → Prop
  | .int i, v => v = .int i
  | .bl b, v => v = .bl b
  | .str x, v => v = .str x
  | .tup _, _ => False
def FV (H : Hp) : Nat → FT → V → Prop
  | 0, t, v => LeafF t v
  | n + 1, t, v => LeafF t v ∨ ∃ ts a xs, t = .tup ts ∧ v = .ref a ∧ H a = some (.tup xs) ∧ xs.length ≤ 1000 ∧ Paired (FV H n) ts xs
theorem LeafF.leaf {t : FT} {v : V} (l : LeafF t v) : LeafV t.key v := by
  cases t with
  | int i => obtain rfl : v = .int i := l; unfold FT.key; rfl
  | bl b => obtain rfl : v = .bl b := l; unfold FT.key; rfl
  | str x => obtain rfl : v = .str x := l; unfold FT.key; rfl
  | tup ts => exact l.elim
theorem paired_key {α : Type} {F : FT → α → Prop} {G : Tree → α → Prop} (f : ∀ t v, F t v → G t.key v) : ∀ {ts : List FT} {xs : List α}, Paired F ts xs → Paired G (ts.map FT.key) xs
  | _, _, .nil => .nil
  | _, _, .cons a r => .cons (f _ _ a) (paired_key f r)
theorem FV.tv {H : Hp} : ∀ {n : Nat} {t : FT} {v : V}, FV H n t v → TV H n t.key v
  | 0, _, _, l => LeafF.leaf l
  | n + 1, t, v, k => by
    rcases k with l | ⟨ts, a, xs, rfl, h2, h3, _, h4⟩
    · exact .inl l.leaf
    · exact .inr ⟨ts.map FT.key, a, xs, key_tup ts, h2, h3, paired_key (fun _ _ z => FV.tv z) h4⟩
theorem FV.mono {H H' : Hp} (e : ∀ c xs, H c = some (.tup xs) → H' c = some (.tup xs)) : ∀ {n : Nat} {t : FT} {v : V}, FV H n t v → FV H' n t v
  | 0, _, _, l => l
  | n + 1, t, v, k => by
    rcases k with l | ⟨ts, a, xs, h1, h2, h3, hl, h4⟩
    · exact .inl l
    · exact .inr ⟨ts, a, xs, h1, h2, e _ _ h3, hl, Paired.mapP h4 fun _ _ z => FV.mono e z⟩
theorem FV.up {H : Hp} : ∀ {n m : Nat} {t : FT} {v : V}, n ≤ m → FV H n t v → FV H m t v
  | 0, 0, _, _, _, l => l
  | 0, m + 1, _, _, _, l => .inl l
  | n + 1, m + 1, t, v, hm, k => by
    rcases k with l | ⟨ts, a, xs, h1, h2, h3, hl, h4⟩
    · exact .inl l
    · exact .inr ⟨ts, a, xs, h1, h2, h3, hl, Paired.mapP h4 fun _ _ z => FV.up (by omega) z⟩
theorem FV.int {H : Hp} {n : Nat} (i : Int) : FV H n (.int i) (.int i) := by cases n with | zero => exact rfl | succ n => exact .inl rfl
theorem FV.bl {H : Hp} {n : Nat} (b : Bool) : FV H n (.bl b) (.bl b) := by cases n with | zero => exact rfl | succ n => exact .inl rfl
theorem FV.str {H : Hp} {n : Nat} (x : Str) : FV H n (.str x) (.str x) := by cases n with | zero => exact rfl | succ n => exact .inl rfl
theorem FV.tup {H : Hp} {n : Nat} {a : Addr} {ts : List FT} {xs : List V} (h : H a = some (.tup xs)) (p : Paired (FV H n) ts xs) (hl : xs.length ≤ 1000 := by first | (simp; done) | (simp; omega) | omega) : FV H (n + 1) (.tup ts) (.ref a) := .inr ⟨ts, a, xs, rfl, rfl, h, hl, p⟩
abbrev NS := List (FT × Int)
def numb : NS → Nat → List (Tree × Int)
  | [], _ => []
  | e :: r, i => (e.1.key, (i : Int)) :: numb r (i + 1)
theorem numb_snoc (e : FT × Int) : ∀ (ns : NS) (i : Nat), numb (ns ++ [e]) i = numb ns i ++ [(e.1.key, ((i + ns.length : Nat) : Int))]
  | [], i => rfl
  | x :: r, i => by
    show (x.1.key, (i : Int)) :: numb (r ++ [e]) (i + 1) = _
    rw [numb_snoc e r (i + 1)]
    show _ = (x.1.key, (i : Int)) :: (numb r (i + 1) ++ _)
    rw [List.length_cons, show i + 1 + r.length = i + (r.length + 1) by omega]
theorem numb_len : ∀ (ns : NS) (i : Nat), (numb ns i).length = ns.length
  | [], _ => rfl
  | x :: r, i => by show (numb r (i + 1)).length + 1 = _; rw [numb_len r (i + 1)]; rfl
theorem tfind_numb {t : Tree} {i : Int} : ∀ {ns : NS} {k : Nat}, tfind (numb ns k) t = some i → ∃ (j : Nat) (e : FT × Int), i = ((k + j : Nat) : Int) ∧ ns[j]? = some e ∧ e.1.key = t
  | [], _, h => by cases h
  | x :: r, k, h => by
    by_cases q : x.1.key = t
    · have : tfind (numb (x :: r) k) t = some (k : Int) := by
        show tfind ((x.1.key, (k : Int)) :: numb r (k + 1)) t = _
        simp [tfind, List.find?_cons, q]
      rw [this] at h
      cases h
      exact ⟨0, x, by simp, rfl, q⟩
    · have : tfind (numb (x :: r) k) t = tfind (numb r (k + 1)) t := by
        show tfind ((x.1.key, (k : Int)) :: numb r (k + 1)) t = _
        simp only [tfind, List.find?_cons, decide_eq_false q]
      rw [this] at h
      obtain ⟨j, e, h1, h2, h3⟩ := tfind_numb h
      exact ⟨j + 1, e, by rw [h1]; congr 1; omega, by simpa using h2, h3⟩
noncomputable def putN (ns : NS) (t : FT) (w : Int) : NS × Int := match tfind (numb ns 0) t.key with
  | some i => (ns, i)
  | none => (ns ++ [(t, w)], (ns.length : Int))
theorem putN_old {ns : NS} {t : FT} {w : Int} {i : Int} (h : tfind (numb ns 0) t.key = some i) : putN ns t w = (ns, i) := by unfold putN; rw [h]
theorem putN_new {ns : NS} {t : FT} {w : Int} (h : tfind (numb ns 0) t.key = none) : putN ns t w = (ns ++ [(t, w)], (ns.length : Int)) := by unfold putN; rw [h]
theorem tfind_append {es fs : List (Tree × Int)} {t : Tree} (h : tfind es t = none) : tfind (es ++ fs) t = tfind fs t := by
  unfold tfind at h ⊢
  rw [Option.map_eq_none_iff] at h
  rw [List.find?_append, h]
  rfl
theorem tfind_one {t : Tree} {i : Int} : tfind [(t, i)] t = some i := by simp [tfind]
/-- rows of nodes in three objects: the nodes, their widths, their numbers -/
structure Core (P : Program) (w : World) (H : Hp) (L W D : Addr) (ns : NS) : Prop where
  la : ∃ vs, H L = some (.lst vs) ∧ Paired (fun e v => FV H 8 e.1 v) ns vs
  wi : H W = some (.lst (ns.map fun e => V.int e.2))
  di : DTr P w H D (numb ns 0)
  ne : L ≠ W
def Fr (L W D : Addr) (H H' : Hp) : Prop := ∀ b o, H b = some o → b ≠ L → b ≠ W → b ≠ D → H' b = some o
theorem Fr.refl {L W D : Addr} (H : Hp) : Fr L W D H H := fun _ _ e _ _ _ => e
theorem Fr.trans {L W D : Addr} {H H1 H2 : Hp} (a : Fr L W D H H1) (b : Fr L W D H1 H2) : Fr L W D H H2 := fun c o e h1 h2 h3 => b c o (a c o e h1 h2 h3) h1 h2 h3
theorem Fr.of {L W D : Addr} {H H' : Hp} (s : Same H H') : Fr L W D H H' := fun c o e _ _ _ => s c o e
theorem Core.dEx {P : Program} {w : World} {H : Hp} {L W D : Addr} {ns : NS} (c : Core P w H L W D ns) : ∃ φ, H D = some (.ext φ) := let ⟨xs, h, _⟩ := c.di.ex; ⟨_, h⟩
theorem Core.tups {P : Program} {w : World} {H H' : Hp} {L W D : Addr} {ns : NS} (c : Core P w H L W D ns) (f : Fr L W D H H') : ∀ b xs, H b = some (.tup xs) → H' b = some (.tup xs) := fun b xs e => by
  obtain ⟨vs, hL, _⟩ := c.la
  obtain ⟨φ, hD⟩ := c.dEx
  exact f b _ e (ne_of e hL fun z => nomatch z) (ne_of e c.wi fun z => nomatch z) (ne_of e hD fun z => nomatch z)
theorem Core.same {P : Program} {w : World} {H H' : Hp} {L W D : Addr} {ns : NS} (c : Core P w H L W D ns) (s : Same H H') : Core P w H' L W D ns := by
  obtain ⟨⟨vs, h1, h2⟩, h3, h4, h5⟩ := c
  have hD : H' D = H D := by obtain ⟨xs, h, _⟩ := h4.ex; rw [h]; exact s _ _ h
  exact ⟨⟨vs, s _ _ h1, Paired.mapP h2 fun _ _ z => z.mono fun _ _ e => s _ _ e⟩, s _ _ h3, h4.same (fun _ _ e => s _ _ e) hD, h5⟩
/-- another's three objects stay -/
theorem Core.apart {P : Program} {w : World} {H H' : Hp} {L W D L' W' D' : Addr} {ns ns' : NS} (c : Core P w H L W D ns) (c' : Core P w H L' W' D' ns') (f : Fr L' W' D' H H') (a1 : L ≠ L') (a2 : L ≠ W') (a3 : W ≠ L') (a4 : W ≠ W') (a5 : D ≠ D') : Core P w H' L W D ns := by
  have ts := c'.tups f
  obtain ⟨φ, hD'⟩ := c'.dEx
  obtain ⟨vs', hL', _⟩ := c'.la
  obtain ⟨⟨vs, h1, h2⟩, h3, h4, h5⟩ := c
  have hD : H' D = H D := by obtain ⟨xs, h, _⟩ := h4.ex; rw [h]; exact f _ _ h (ne_of h hL' fun z => nomatch z) (ne_of h c'.wi fun z => nomatch z) a5
  exact ⟨⟨vs, f _ _ h1 a1 a2 (ne_of h1 hD' fun z => nomatch z), Paired.mapP h2 fun _ _ z => z.mono ts⟩, f _ _ h3 a3 a4 (ne_of h3 hD' fun z => nomatch z), h4.same ts hD, h5⟩
theorem core_put {P : Program} {w : World} {H : Hp} {L W D b : Addr} {ns : NS} {t : FT} {wd : Int} {vs : List V} {o : HO} (c : Core P w H L W D ns) (hL : H L = some (.lst vs)) (hp : Paired (fun e v => FV H 8 e.1 v) ns vs) (hb : FV H 8 t (.ref b)) (d : DTr P w (upd H D o) D (numb ns 0 ++ [(t.key, (ns.length : Int))])) :
    Core P w (upd (upd (upd H D o) L (.lst (vs ++ [.ref b]))) W (.lst ((ns.map fun e => V.int e.2) ++ [.int wd]))) L W D (ns ++ [(t, wd)]) ∧ Fr L W D H (upd (upd (upd H D o) L (.lst (vs ++ [.ref b]))) W (.lst ((ns.map fun e => V.int e.2) ++ [.int wd]))) := by
  obtain ⟨φ, hD⟩ := c.dEx
  have hLD : L ≠ D := ne_of hL hD fun z => nomatch z
  have hWD : W ≠ D := ne_of c.wi hD fun z => nomatch z
  have f : Fr L W D H (upd (upd (upd H D o) L (.lst (vs ++ [.ref b]))) W (.lst ((ns.map fun e => V.int e.2) ++ [.int wd]))) := fun x u e h1 h2 h3 => by
    rw [upd_ne h2, upd_ne h1, upd_ne h3]; exact e
  have ts := c.tups f
  refine ⟨⟨⟨_, by rw [upd_ne c.ne]; exact upd_same, Paired.snoc (Paired.mapP hp fun _ _ z => z.mono ts) (hb.mono ts)⟩, ?_, ?_, c.ne⟩, f⟩
  · rw [upd_same, List.map_append]; rfl
  · rw [numb_snoc, Nat.zero_add]
    refine d.same (fun x xs e => ?_) ?_
    · by_cases hx : x = D
      · subst hx
        obtain ⟨ys, hy, _⟩ := d.ex
        rw [e] at hy
        cases hy
      · rw [upd_ne hx] at e
        exact ts x xs e
    · rw [upd_ne hWD.symm, upd_ne hLD.symm]
end L2
namespace VK
open PySem PySem.Spec PyProof.Rows L2
def top (i : Nat) : Stmt := PySem.Challenge.pw_viewkeep_k41_in_which_order.main.body.getD i (.Pass ⟨0, 0, 0, 0⟩)
theorem b_len : bootBuiltins "len" = some (.builtin "len") := by decide +kernel
theorem b_isinstance : bootBuiltins "isinstance" = some (.builtin "isinstance") := by decide +kernel
theorem b_all : bootBuiltins "all" = some (.builtin "all") := by decide +kernel
theorem b_tuple : bootBuiltins "tuple" = some (.type "tuple") := by decide +kernel
theorem b_list : bootBuiltins "list" = some (.type "list") := by decide +kernel
theorem b_int : bootBuiltins "int" = some (.type "int") := by decide +kernel
theorem b_bool : bootBuiltins "bool" = some (.type "bool") := by decide +kernel
theorem b_dict : bootBuiltins "dict" = some (.type "dict") := by decide +kernel
theorem k_int_int {K : PySem.W.Frag} : PySem.W.kitOne K (.type "int") (.type "int") = some true := kt (by decide +kernel)
theorem k_int_bool {K : PySem.W.Frag} : PySem.W.kitOne K (.type "int") (.type "bool") = some false := kt (by decide +kernel)
theorem k_tuple_tuple {K : PySem.W.Frag} : PySem.W.kitOne K (.type "tuple") (.type "tuple") = some true := kt (by decide +kernel)
/-- a def of the text as it stands behind the top -/
structure Fn (K : PySem.W.Frag) (mg : Str → Option Value) (x : Str) (st : Stmt) (ps : List Str) (f : Addr) (fd : FuncData) : Prop where
  F : Fun K x x st f fd
  b : Binds K fd ps []
  m : mg x = some (.ref f)
/-- names of the language that the text has not bound -/
structure Txt (mg : Str → Option Value) : Prop where
  len : mg "len" = none
  range : mg "range" = none
  tuple : mg "tuple" = none
  isinstance : mg "isinstance" = none
  int : mg "int" = none
  bool : mg "bool" = none
  max : mg "max" = none
  min : mg "min" = none
  zip : mg "zip" = none
  all : mg "all" = none
  list : mg "list" = none
  str : mg "str" = none
  sum : mg "sum" = none
  dict : mg "dict" = none
theorem c10 {a b : Int} (h1 : 0 ≤ b) (h2 : b ≤ 1000000) (h3 : a.natAbs < 2 ^ 64) : CPow a b := ⟨h1, h2, h3⟩
section
variable {P : Program} {w : World} {K : PySem.W.Frag} {mg : Str → Option Value} {base : Heap}
abbrev sCellAt : Stmt := top 10
abbrev psCellAt : List Str := ["_law_script", "_law_k"]
def spCellAt (K : PySem.W.Frag) : Sp := fun vs H Q _ => ∃ (a : Addr) (ns : List Int) (k : Nat), vs = [.ref a, .int k] ∧ SqL K H a (ns.map V.int) ∧ Q (.int (ns.getD k 0)) H
theorem scCellAt : FnScope psCellAt psCellAt (defScope sCellAt) := ⟨rfl, rfl, rfl, by decide +kernel, rfl, by decide +kernel, by decide +kernel⟩
theorem okCellAt {f : Addr} {fd : FuncData} (D : Fn K mg "_law_cell_at" sCellAt psCellAt f fd) (T : Txt mg) : FnOk P w K mg base CX0 1 f fd psCellAt (spCellAt K) := by
  refine D.F.ok scCellAt (fun vs H Q E h => ?_) (fun cdv A outer s H vs Q E hr h => ?_)
  · obtain ⟨a, ns, k, rfl, _⟩ := h
    rfl
  · obtain ⟨a, ns, k, rfl, hS, q⟩ := h
    refine ⟨_, pss_cons (ps_if (pt_cmpR op_lt (pv 1) (pe_callB call_len_seq (by rfl) T.len b_len (pa_cons (pv 0) pa_nil)) (nomark _)) (pss_one (ps_ret (pe_ix ix_list (pv 0) (pv 1) (fun _ _ => rfl)))) pss_nil) (pss_one (ps_ret pe_int)), ?_⟩
    refine ⟨_, rfl, _, rfl, a, _, rfl, .inl hS, _, _, rfl, rfl, _, rfl, ?_⟩
    refine ite2 (fun h => ?_) (fun h => ?_)
    · have hk : k < ns.length := by
        have h' := of_decide_eq_true h
        rw [List.length_map] at h'
        omega
      refine ⟨_, rfl, _, rfl, a, _, _, V.int (ns.getD k 0), rfl, rfl, hS, atI_nat ?_, q⟩
      rw [List.getElem?_map, List.getD_eq_getElem?_getD, List.getElem?_eq_getElem hk]
      rfl
    · have hk : ¬ k < ns.length := fun z => h (decide_eq_true (by rw [List.length_map]; omega))
      have e : ns.getD k 0 = 0 := by
        rw [List.getD_eq_getElem?_getD, List.getElem?_eq_none (by omega)]
        rfl
      rw [e] at q
      exact q
def rLen (K : PySem.W.Frag) : List V → Hp → VK → Prop := fun xs H Q => ∃ p ys, xs = [.ref p] ∧ (SqL K H p ys ∨ SqT K H p ys) ∧ Q (.int ys.length) H
def rTup (K : PySem.W.Frag) : List V → Hp → VK → Prop := fun xs H Q => ∃ p ys, xs = [.ref p] ∧ ((SqL K H p ys ∧ ∀ l, H l = none → Q (.ref l) (upd H l (.tup ys))) ∨ (SqT K H p ys ∧ Q (.ref p) H))
def rLst (K : PySem.W.Frag) : List V → Hp → VK → Prop := fun xs H Q => ∃ p ys, xs = [.ref p] ∧ (SqL K H p ys ∨ SqT K H p ys) ∧ ∀ l, H l = none → Q (.ref l) (upd H l (.lst ys))
def rSum (K : PySem.W.Frag) : List V → Hp → VK → Prop := fun xs H Q => ∃ (a : Addr) (ns : List Int), xs = [.ref a] ∧ SqL K H a (ns.map V.int) ∧ Q (.int ns.sum) H
theorem ixL (K : PySem.W.Frag) {X : Cx} (h : X.K = K := by rfl) : IxR X (rIxL K) := h ▸ ix_list
theorem lenK (K : PySem.W.Frag) {X : Cx} (h : X.K = K := by rfl) : CallR X (.builtin "len") (rLen K) := h ▸ call_len_seq
theorem tupK (K : PySem.W.Frag) {X : Cx} (h : X.K = K := by rfl) : CallR X (.type "tuple") (rTup K) := h ▸ call_tuple_of
theorem lstK (K : PySem.W.Frag) {X : Cx} (h : X.K = K := by rfl) : CallR X (.type "list") (rLst K) := h ▸ call_list_of
theorem sumK (K : PySem.W.Frag) {X : Cx} (c : X.calm = true) (h : X.K = K := by rfl) : CallR X (.builtin "sum") (rSum K) := h ▸ call_sum c
theorem inK (K : PySem.W.Frag) {X : Cx} (h : X.K = K := by rfl) : OpR X (compareOp .In) (rIn K false) := h ▸ op_in_seq
theorem wV {n : Nat} {v : V} {σ : L2.St} {H : Hp} {Q : VK} (h : σ[n]? = some (some v)) (q : Q v H) : tVar n σ H Q := ⟨v, h, q⟩
theorem wI {f : Int → Int → V} {i j : Int} {H : Hp} {Q : VK} (q : Q (f i j) H) : rI0 f (.int i) (.int j) H Q := ⟨i, j, rfl, rfl, q⟩
theorem wIc {f : Int → Int → V} {i j : Int} {σ : L2.St} {H : Hp} {Q : VK} (q : Q (f i j) H) : tC (.int j) σ H (fun y H2 => rI0 f (.int i) y H2 Q) := ⟨i, j, rfl, rfl, q⟩
theorem wC {C : Int → Int → Prop} {f : Int → Int → V} {i j : Int} {H : Hp} {Q : VK} (c : C i j) (q : Q (f i j) H) : rI C f (.int i) (.int j) H Q := ⟨i, j, rfl, rfl, c, q⟩
theorem wCc {C : Int → Int → Prop} {f : Int → Int → V} {i j : Int} {σ : L2.St} {H : Hp} {Q : VK} (c : C i j) (q : Q (f i j) H) : tC (.int j) σ H (fun y H2 => rI C f (.int i) y H2 Q) := ⟨i, j, rfl, rfl, c, q⟩
theorem iP {c : Bool} {A B : Prop} (h : c = true) (a : A) : if c = true then A else B := by rw [if_pos h]; exact a
theorem iQ {c : Bool} {A B : Prop} (h : c = false) (b : B) : if c = true then A else B := by rw [if_neg (by rw [h]; decide)]; exact b
theorem wN {n : Nat} {a b : Str} {t rest : TS} {D : Ends} {σ : L2.St} {H : Hp} (hσ : σ[n]? = some (some (.str a))) (hne : decide (V.str a = V.str b) = false) (h : rest D σ H) : tSeq (tIfS (tTest (tOp rEq (tVar n) (tC (.str b)))) t tNext) rest D σ H := ⟨_, hσ, rfl, _, rfl, iQ hne h⟩
theorem wY {n : Nat} {a b : Str} {t rest : TS} {D : Ends} {σ : L2.St} {H : Hp} (hσ : σ[n]? = some (some (.str a))) (he : decide (V.str a = V.str b) = true) (h : t { D with nx := rest D } σ H) : tSeq (tIfS (tTest (tOp rEq (tVar n) (tC (.str b)))) t tNext) rest D σ H := ⟨_, hσ, rfl, _, rfl, iP he h⟩
theorem wInN {K : PySem.W.Frag} {n : Nat} {a : Addr} {x : V} {xs : List V} {t rest : TS} {D : Ends} {σ : L2.St} {H : Hp} (hσ : σ[n]? = some (some x)) (hs : SqL K H a xs ∨ SqT K H a xs) (fx : flatV x = true) (fs : xs.all flatV = true) (hc : inV x xs = false) (h : rest D σ H) : tSeq (tIfS (tTest (tOp (rIn K false) (tVar n) (tC (.ref a)))) t tNext) rest D σ H := ⟨_, hσ, a, xs, rfl, hs, fx, fs, _, rfl, iQ (c := inV x xs) hc h⟩
theorem wInY {K : PySem.W.Frag} {n : Nat} {a : Addr} {x : V} {xs : List V} {t rest : TS} {D : Ends} {σ : L2.St} {H : Hp} (hσ : σ[n]? = some (some x)) (hs : SqL K H a xs ∨ SqT K H a xs) (fx : flatV x = true) (fs : xs.all flatV = true) (hc : inV x xs = true) (h : t { D with nx := rest D } σ H) : tSeq (tIfS (tTest (tOp (rIn K false) (tVar n) (tC (.ref a)))) t tNext) rest D σ H := ⟨_, hσ, a, xs, rfl, hs, fx, fs, _, rfl, iP (c := inV x xs) hc h⟩
theorem cut {t1 rest : TS} {D : Ends} {σ : L2.St} {H : Hp} (h : ∀ D1 : Ends, (∀ σ' H', rest D σ' H' → D1.nx σ' H') → t1 D1 σ H) : tSeq t1 rest D σ H := h _ fun _ _ z => z
def rIxT0 : R2 := fun x y H Q => ∃ p xs i v, x = .ref p ∧ y = .int i ∧ H p = some (.tup xs) ∧ atI xs i = some v ∧ Q v H
def rIxL0 : R2 := fun x y H Q => ∃ p xs i v, x = .ref p ∧ y = .int i ∧ H p = some (.lst xs) ∧ atI xs i = some v ∧ Q v H
theorem ixT0 {X : Cx} : IxR X rIxT0 := fun value slice pins s σ H x y v u Q I rx ry ⟨p, xs, i, z, e1, e2, h, e3, q⟩ hs => ix_tup value slice pins s σ H x y v u Q I rx ry ⟨p, xs, i, z, e1, e2, SqT.of h, e3, q⟩ hs
theorem ixL0 {X : Cx} : IxR X rIxL0 := fun value slice pins s σ H x y v u Q I rx ry ⟨p, xs, i, z, e1, e2, h, e3, q⟩ hs => ix_list value slice pins s σ H x y v u Q I rx ry ⟨p, xs, i, z, e1, e2, SqL.of h, e3, q⟩ hs
theorem wT0 {n : Nat} {i : Int} {t : Addr} {xs : List V} {v : V} {σ : L2.St} {H : Hp} {Q : VK} (hσ : σ[n]? = some (some (.ref t))) (h : H t = some (.tup xs)) (ha : atI xs i = some v) (q : Q v H) : tOp rIxT0 (tVar n) (tC (.int i)) σ H Q := ⟨_, hσ, t, xs, i, v, rfl, rfl, h, ha, q⟩
theorem wL0 {n : Nat} {i : Int} {t : Addr} {xs : List V} {v : V} {σ : L2.St} {H : Hp} {Q : VK} (hσ : σ[n]? = some (some (.ref t))) (h : H t = some (.lst xs)) (ha : atI xs i = some v) (q : Q v H) : tOp rIxL0 (tVar n) (tC (.int i)) σ H Q := ⟨_, hσ, t, xs, i, v, rfl, rfl, h, ha, q⟩
theorem b_sum : bootBuiltins "sum" = some (.builtin "sum") := by decide +kernel
theorem k_int_tuple {K : PySem.W.Frag} : PySem.W.kitOne K (.type "int") (.type "tuple") = some false := kt (by decide +kernel)
theorem comp_lst {K : PySem.W.Frag} {a l : Addr} {xs : List V} {g : TG} {te : TE} {σ0 : L2.St} {H0 : Hp} {Q : Hp → Prop} (Pv : Nat → L2.St → Hp → Prop) (h0 : Pv 0 σ0 H0) (hl : ∀ i σ H, i ≤ xs.length → Pv i σ H → SqL K H a xs)
    (hs : ∀ i x σ H, xs[i]? = some x → Pv i σ H → g x σ H fun σ3 H3 => te σ3 H3 fun y H4 => ∃ ys, H4 l = some (.lst ys) ∧ ys.length < sizeLine ∧ Pv (i + 1) σ3 (upd H4 l (.lst (ys ++ [y])))) (hd : ∀ σ H, Pv xs.length σ H → Q H) :
    ∃ W : Nat → Nat → L2.St → Hp → Prop, (∃ m, W 0 m σ0 H0) ∧ ∀ i m σ' H', W i m σ' H' →
    ((Itl K a).stop i H' ∧ Q H') ∨ ((Itl K a).go i H' ∧ ∃ N : L2.St → Hp → Prop, (∀ σ2 H2, N σ2 H2 → ∃ m', m' < m ∧ W (i + 1) m' σ2 H2) ∧
      ∀ x H2, (Itl K a).yld i H' x H2 → g x σ' H2 fun σ3 H3 => te σ3 H3 fun y H4 => ∃ ys, H4 l = some (.lst ys) ∧ ys.length < sizeLine ∧ N σ3 (upd H4 l (.lst (ys ++ [y])))) :=
  comp_by (n := xs.length) Pv h0 (fun i σ H hi p => ⟨xs, xs[i], hl i σ H (Nat.le_of_lt hi) p, List.getElem?_eq_getElem hi⟩) (fun σ H p => ⟨xs, hl _ σ H (Nat.le_refl _) p, Nat.le_refl _⟩) (fun i σ H x H' hi p ⟨e, hx⟩ => by subst e; exact hs i x σ _ (hx xs (hl i σ _ (Nat.le_of_lt hi) p)) p) hd
def isR : V → Bool
  | .ref _ => true
  | _ => false
abbrev PS' := List Int × Int
def flat (q : List PS') : List Int := (q.map (·.1)).flatten
def tot (q : List PS') : Int := (q.map (·.2)).sum
/-- the parts of a tree -/
def Parts (R : V → List Int → Int → Prop) (xs : List V) (q : List PS') : Prop := (∀ v ∈ xs, isR v = true ∨ ∃ i, v = .int i) ∧ Paired (fun v z => R v z.1 z.2) (xs.filter isR) q
def Tr : Nat → Hp → V → List Int → Int → Prop
  | 0, _, _, _, _ => False
  | n + 1, H, v, ps, s => ∃ t w xs, v = .ref t ∧ H t = some (.tup (.str w :: xs)) ∧ xs.length ≤ 12 ∧ ∃ q, Parts (Tr n H) xs q ∧ s = 1 + tot q ∧ ((w = "at" ∧ ∃ p, xs = [.int p] ∧ ps = [p]) ∨ (w ≠ "at" ∧ ps = flat q))
theorem Parts.imp {R R' : V → List Int → Int → Prop} (f : ∀ v p s, R v p s → R' v p s) {xs : List V} {q : List PS'} (h : Parts R xs q) : Parts R' xs q := ⟨h.1, Paired.mapP h.2 fun _ _ z => f _ _ _ z⟩
theorem Tr.same {H H' : Hp} (e : Same H H') : ∀ {n : Nat} {v : V} {ps : List Int} {s : Int}, Tr n H v ps s → Tr n H' v ps s
  | 0, _, _, _, h => h
  | n + 1, v, ps, s, h => by
    obtain ⟨t, w, xs, h1, h2, h3, q, h4, h5⟩ := h
    exact ⟨t, w, xs, h1, e _ _ h2, h3, q, h4.imp fun _ _ _ z => Tr.same e z, h5⟩
theorem pair_at {α β : Type} {F : α → β → Prop} : ∀ {xs : List α} {ys : List β} {i : Nat} {x : α}, Paired F xs ys → xs[i]? = some x → ∃ y, ys[i]? = some y ∧ F x y
  | _, _, _, _, .nil, e => by simp at e
  | _, _, 0, _, .cons r _, e => by simp at e; subst e; exact ⟨_, rfl, r⟩
  | _, _, i + 1, x, .cons _ t, e => by
    obtain ⟨u, h1, h2⟩ := pair_at (i := i) (x := x) t (by simpa using e)
    exact ⟨u, by simpa using h1, h2⟩
theorem at0 {x : V} {xs : List V} : atI (x :: xs) 0 = some x := atI_nat (j := 0) rfl
theorem iteP {c : Bool} {A B : Prop} (h : c = true) (a : A) : if c = true then A else B := by rw [if_pos h]; exact a
theorem iteQ {c : Bool} {A B : Prop} (h : c = false) (b : B) : if c = true then A else B := by rw [if_neg (by rw [h]; decide)]; exact b
theorem neD {a b : Str} (h : a ≠ b) : decide (V.str a = V.str b) = false := decide_eq_false fun e => h (by injection e)
theorem at1 {x y : V} {xs : List V} : atI (x :: y :: xs) 1 = some y := atI_nat (j := 1) rfl
theorem at2 {x y z : V} {xs : List V} : atI (x :: y :: z :: xs) 2 = some z := atI_nat (j := 2) rfl
/-- the tuples are kept -/
def SameT (H H' : Hp) : Prop := ∀ c xs, H c = some (.tup xs) → H' c = some (.tup xs)
theorem _root_.L2.Same.t {H H' : Hp} (s : Same H H') : SameT H H' := fun c xs e => s _ _ e
theorem SameT.refl (H : Hp) : SameT H H := fun _ _ e => e
theorem SameT.trans {H H1 H2 : Hp} (a : SameT H H1) (b : SameT H1 H2) : SameT H H2 := fun c xs e => b c xs (a c xs e)
theorem SameT.updL {H : Hp} {l : Addr} {ys zs : List V} (h : H l = some (.lst ys)) : SameT H (upd H l (.lst zs)) := fun c xs e => by
  have hc : c ≠ l := fun z => by rw [z, h] at e; cases e
  rw [upd_ne hc]; exact e
theorem SameT.updD {H : Hp} {l : Addr} {ys zs : List (Key × V)} (h : H l = some (.dK ys)) : SameT H (upd H l (.dK zs)) := fun c xs e => by
  have hc : c ≠ l := fun z => by rw [z, h] at e; cases e
  rw [upd_ne hc]; exact e
theorem Tr.sameT {H H' : Hp} (e : SameT H H') : ∀ {n : Nat} {v : V} {ps : List Int} {s : Int}, Tr n H v ps s → Tr n H' v ps s
  | 0, _, _, _, h => h
  | n + 1, v, ps, s, h => by
    obtain ⟨t, w, xs, h1, h2, h3, q, h4, h5⟩ := h
    exact ⟨t, w, xs, h1, e _ _ h2, h3, q, h4.imp fun _ _ _ z => Tr.sameT e z, h5⟩
/-- a comprehension's walk, item by item -/
theorem comp_gen {J : It} {n : Nat} {l : Addr} {g : TG} {te : TE} {σ0 : L2.St} {H1 : Hp} {Q : Hp → Prop} (S : L2.St → Prop) (R : Nat → V → Hp → Prop) (hR : ∀ i y H H', SameT H H' → R i y H → R i y H') (hn : n ≤ 300000) (hl : H1 l = none) (h0 : S σ0)
    (hgo : ∀ i H, i < n → Same H1 H → J.go i H) (hst : ∀ H, Same H1 H → J.stop n H)
    (hs : ∀ (C : L2.St → V → Hp → Prop) i σ H x H', i < n → Same H1 H → S σ → J.yld i H x H' → (∀ σ3 y H4, Same H H4 → S σ3 → R i y H4 → C σ3 y H4) → g x σ H' fun σ3 H3 => te σ3 H3 fun y H4 => C σ3 y H4)
    (hd : ∀ H ys, Same H1 H → H l = some (.lst ys) → ys.length = n → (∀ i y, ys[i]? = some y → R i y H) → Q H) :
    ∃ W : Nat → Nat → L2.St → Hp → Prop, (∃ m, W 0 m σ0 (upd H1 l (.lst []))) ∧ ∀ i m σ' H', W i m σ' H' →
    (J.stop i H' ∧ Q H') ∨ (J.go i H' ∧ ∃ N : L2.St → Hp → Prop, (∀ σ2 H2, N σ2 H2 → ∃ m', m' < m ∧ W (i + 1) m' σ2 H2) ∧
      ∀ x H2, J.yld i H' x H2 → g x σ' H2 fun σ3 H3 => te σ3 H3 fun y H4 => ∃ ys, H4 l = some (.lst ys) ∧ ys.length < sizeLine ∧ N σ3 (upd H4 l (.lst (ys ++ [y])))) := by
  refine comp_by (n := n) (fun i σ H => S σ ∧ Same H1 H ∧ ∃ ys, H l = some (.lst ys) ∧ ys.length = i ∧ ∀ j y, ys[j]? = some y → R j y H) ⟨h0, (Same.refl H1).upd hl, [], upd_same, rfl, fun j y e => by simp at e⟩ (fun i σ H hi ⟨_, s, _⟩ => hgo i H hi s) (fun σ H ⟨_, s, _⟩ => hst H s) ?_ ?_
  · rintro i σ H x H' hi ⟨hS, s1, ys, hy, hyl, hyr⟩ hx
    refine hs _ i σ H x H' hi s1 hS hx fun σ3 y H4 s4 hS3 r4 => ?_
    have hy4 := s4 _ _ hy
    have s5 : SameT H4 (upd H4 l (.lst (ys ++ [y]))) := SameT.updL hy4
    refine ⟨ys, hy4, Nat.lt_of_lt_of_le (show ys.length < 300000 by omega) (by decide), hS3, fun c o z => ?_, ys ++ [y], upd_same, by simp [hyl], ?_⟩
    · rw [upd_ne (ne_of_none z hl)]
      exact s4 _ _ (s1 c o z)
    · intro j y' e
      by_cases hj : j < ys.length
      · rw [List.getElem?_append_left hj] at e
        exact hR _ _ _ _ (s4.t.trans s5) (hyr j y' e)
      · rw [List.getElem?_append_right (by omega)] at e
        have hj0 : j - ys.length = 0 := by
          have := (List.getElem?_eq_some_iff.mp e).1
          simp at this
          omega
        rw [hj0] at e
        simp at e
        subst e
        have : j = i := by omega
        subst this
        exact hR _ _ _ _ s5 r4
  · rintro σ H ⟨hS, s1, ys, hy, hyl, hyr⟩
    exact hd H ys s1 hy hyl hyr
section
variable {l a : Addr} {xs : List V} {lo : Int} {n : Nat} {g : TG} {te : TE} {σ0 : L2.St} {H1 : Hp} {Q : Hp → Prop}
theorem comp_L {K : PySem.W.Frag} (ha : H1 a = some (.lst xs)) (S : L2.St → Prop) (R : Nat → V → Hp → Prop) (hR : ∀ i y H H', SameT H H' → R i y H → R i y H') (hn : xs.length ≤ 300000) (hl : H1 l = none) (h0 : S σ0)
    (hs : ∀ (C : L2.St → V → Hp → Prop) i σ H x, xs[i]? = some x → Same H1 H → S σ → (∀ σ3 y H4, Same H H4 → S σ3 → R i y H4 → C σ3 y H4) → g x σ H fun σ3 H3 => te σ3 H3 fun y H4 => C σ3 y H4)
    (hd : ∀ H ys, Same H1 H → H l = some (.lst ys) → ys.length = xs.length → (∀ i y, ys[i]? = some y → R i y H) → Q H) :
    ∃ W : Nat → Nat → L2.St → Hp → Prop, (∃ m, W 0 m σ0 (upd H1 l (.lst []))) ∧ ∀ i m σ' H', W i m σ' H' →
    ((Itl K a).stop i H' ∧ Q H') ∨ ((Itl K a).go i H' ∧ ∃ N : L2.St → Hp → Prop, (∀ σ2 H2, N σ2 H2 → ∃ m', m' < m ∧ W (i + 1) m' σ2 H2) ∧
      ∀ x H2, (Itl K a).yld i H' x H2 → g x σ' H2 fun σ3 H3 => te σ3 H3 fun y H4 => ∃ ys, H4 l = some (.lst ys) ∧ ys.length < sizeLine ∧ N σ3 (upd H4 l (.lst (ys ++ [y])))) :=
  comp_gen S R hR hn hl h0 (fun i H hi s => ⟨xs, xs[i], SqL.of (s _ _ ha), List.getElem?_eq_getElem hi⟩) (fun H s => ⟨xs, SqL.of (s _ _ ha), Nat.le_refl _⟩) (fun C i σ H x H' hi s hS ⟨e, hx⟩ k => by subst e; exact hs C i σ _ x (hx xs (SqL.of (s _ _ ha))) s hS k) hd
theorem comp_T {K : PySem.W.Frag} (ha : H1 a = some (.tup xs)) (S : L2.St → Prop) (R : Nat → V → Hp → Prop) (hR : ∀ i y H H', SameT H H' → R i y H → R i y H') (hn : xs.length ≤ 300000) (hl : H1 l = none) (h0 : S σ0)
    (hs : ∀ (C : L2.St → V → Hp → Prop) i σ H x, xs[i]? = some x → Same H1 H → S σ → (∀ σ3 y H4, Same H H4 → S σ3 → R i y H4 → C σ3 y H4) → g x σ H fun σ3 H3 => te σ3 H3 fun y H4 => C σ3 y H4)
    (hd : ∀ H ys, Same H1 H → H l = some (.lst ys) → ys.length = xs.length → (∀ i y, ys[i]? = some y → R i y H) → Q H) :
    ∃ W : Nat → Nat → L2.St → Hp → Prop, (∃ m, W 0 m σ0 (upd H1 l (.lst []))) ∧ ∀ i m σ' H', W i m σ' H' →
    ((Itt K a).stop i H' ∧ Q H') ∨ ((Itt K a).go i H' ∧ ∃ N : L2.St → Hp → Prop, (∀ σ2 H2, N σ2 H2 → ∃ m', m' < m ∧ W (i + 1) m' σ2 H2) ∧
      ∀ x H2, (Itt K a).yld i H' x H2 → g x σ' H2 fun σ3 H3 => te σ3 H3 fun y H4 => ∃ ys, H4 l = some (.lst ys) ∧ ys.length < sizeLine ∧ N σ3 (upd H4 l (.lst (ys ++ [y])))) :=
  comp_gen S R hR hn hl h0 (fun i H hi s => ⟨xs, xs[i], SqT.of (s _ _ ha), List.getElem?_eq_getElem hi⟩) (fun H s => ⟨xs, SqT.of (s _ _ ha), Nat.le_refl _⟩) (fun C i σ H x H' hi s hS ⟨e, hx⟩ k => by subst e; exact hs C i σ _ x (hx xs (SqT.of (s _ _ ha))) s hS k) hd
theorem comp_R (S : L2.St → Prop) (R : Nat → V → Hp → Prop) (hR : ∀ i y H H', SameT H H' → R i y H → R i y H') (hn : n ≤ 300000) (hl : H1 l = none) (h0 : S σ0)
    (hs : ∀ (C : L2.St → V → Hp → Prop) i σ H, i < n → Same H1 H → S σ → (∀ σ3 y H4, Same H H4 → S σ3 → R i y H4 → C σ3 y H4) → g (.int (lo + i)) σ H fun σ3 H3 => te σ3 H3 fun y H4 => C σ3 y H4)
    (hd : ∀ H ys, Same H1 H → H l = some (.lst ys) → ys.length = n → (∀ i y, ys[i]? = some y → R i y H) → Q H) :
    ∃ W : Nat → Nat → L2.St → Hp → Prop, (∃ m, W 0 m σ0 (upd H1 l (.lst []))) ∧ ∀ i m σ' H', W i m σ' H' →
    ((Itr lo n).stop i H' ∧ Q H') ∨ ((Itr lo n).go i H' ∧ ∃ N : L2.St → Hp → Prop, (∀ σ2 H2, N σ2 H2 → ∃ m', m' < m ∧ W (i + 1) m' σ2 H2) ∧
      ∀ x H2, (Itr lo n).yld i H' x H2 → g x σ' H2 fun σ3 H3 => te σ3 H3 fun y H4 => ∃ ys, H4 l = some (.lst ys) ∧ ys.length < sizeLine ∧ N σ3 (upd H4 l (.lst (ys ++ [y])))) :=
  comp_gen S R hR hn hl h0 (fun i H hi s => by first | exact hi | exact Int.ofNat_lt.mpr hi | simp [Itr]; omega) (fun H s => by first | exact Nat.le_refl _ | simp [Itr]) (fun C i σ H x H' hi s hS hx k => by obtain ⟨e1, e2⟩ := hx; subst e1 e2; exact hs C i σ _ hi s hS k) hd
end
def ooL : List V := [V.str "sieve", V.str "cols", V.str "once", V.str "count", V.str "sum", V.str "least", V.str "most", V.str "first"]
def paL : List V := [V.str "join", V.str "left", V.str "notin"]
def grL : List V := [V.str "count", V.str "sum", V.str "least", V.str "most"]
def ofL : List V := [V.str "pour", V.str "both", V.str "either", V.str "less"]
structure Glb (K : PySem.W.Frag) (mg : Str → Option Value) : Prop where
  oo : ∃ a, mg "OVER_ONE" = some (.ref a) ∧ ∀ H, SqT K H a ooL
  gr : ∃ a, mg "GROUPS" = some (.ref a) ∧ ∀ H, SqT K H a grL
def Ns (H : Hp) (v : V) (ns : List Int) (w : Int) : Prop := ∃ t, v = .ref t ∧ H t = some (.tup (ns.map V.int)) ∧ ns.length ≤ 12 ∧ ∀ p ∈ ns, p < w
def Prs (H : Hp) (v : V) (ps : List (Int × Int)) (w1 w2 : Int) : Prop := ∃ t xs, v = .ref t ∧ H t = some (.tup xs) ∧ ps.length ≤ 12 ∧ Paired (fun x p => ∃ u, x = V.ref u ∧ H u = some (.tup [.int p.1, .int p.2])) xs ps ∧ ∀ p ∈ ps, p.1 < w1 ∧ p.2 < w2
def Od (H : Hp) (v : V) (ps : List (Int × Bool)) (w : Int) : Prop := ∃ t xs, v = .ref t ∧ H t = some (.tup xs) ∧ ps.length ≤ 12 ∧ Paired (fun x p => ∃ u, x = V.ref u ∧ H u = some (.tup [.int p.1, .bl p.2])) xs ps ∧ ∀ p ∈ ps, p.1 < w
theorem Ns.same {H H' : Hp} (e : SameT H H') {v : V} {ns : List Int} {w : Int} : Ns H v ns w → Ns H' v ns w := fun ⟨t, h1, h2, h3⟩ => ⟨t, h1, e _ _ h2, h3⟩
theorem Prs.same {H H' : Hp} (e : SameT H H') {v : V} {ps : List (Int × Int)} {w1 w2 : Int} : Prs H v ps w1 w2 → Prs H' v ps w1 w2 := fun ⟨t, xs, h1, h2, h3, h4, h5⟩ => ⟨t, xs, h1, e _ _ h2, h3, Paired.mapP h4 fun _ _ ⟨u, a, b⟩ => ⟨u, a, e _ _ b⟩, h5⟩
theorem Od.same {H H' : Hp} (e : SameT H H') {v : V} {ps : List (Int × Bool)} {w : Int} : Od H v ps w → Od H' v ps w := fun ⟨t, xs, h1, h2, h3, h4, h5⟩ => ⟨t, xs, h1, e _ _ h2, h3, Paired.mapP h4 fun _ _ ⟨u, a, b⟩ => ⟨u, a, e _ _ b⟩, h5⟩
inductive OneB (H : Hp) : Str → List V → Int → Int → Int → Prop
  | sieve {v : V} {ps : List Int} {w m : Int} : Tr 4 H v ps m → (∀ p ∈ ps, p < w) → OneB H "sieve" [v] w w m
  | cols {c : Addr} {ts : List V} {qs : List PS'} {w : Int} : H c = some (.tup ts) → ts.length ≤ 12 → Paired (fun v q => Tr 4 H v q.1 q.2) ts qs → (∀ p ∈ flat qs, p < w) → OneB H "cols" [.ref c] w ts.length (tot qs)
  | once {w : Int} : OneB H "once" [] w w 0
  | count {v : V} {ns : List Int} {w : Int} : Ns H v ns w → OneB H "count" [v] w (ns.length + 1) ns.length
  | grp {wd : Str} {v : V} {ns : List Int} {w p : Int} : (wd = "sum" ∨ wd = "least" ∨ wd = "most") → p < w → Ns H v ns w → OneB H wd [.int p, v] w (ns.length + 1) ns.length
  | first {k : Int} {v : V} {ns : List Int} {w : Int} {u : V} {os : List (Int × Bool)} : Ns H v ns w → Od H u os w → OneB H "first" [.int k, v, u] w w (ns.length + os.length)
inductive TwoB (H : Hp) : Str → List V → Int → Int → Int → Int → Prop
  | alike {wd : Str} {w : Int} : (wd = "pour" ∨ wd = "both" ∨ wd = "either" ∨ wd = "less") → TwoB H wd [] w w w 0
  | join {wd : Str} {v : V} {ps : List (Int × Int)} {w1 w2 : Int} : (wd = "join" ∨ wd = "left") → Prs H v ps w1 w2 → TwoB H wd [v] w1 w2 (w1 + w2) ps.length
  | notin {v : V} {ps : List (Int × Int)} {w1 w2 : Int} : Prs H v ps w1 w2 → TwoB H "notin" [v] w1 w2 w1 ps.length
theorem OneB.same {H H' : Hp} (e : SameT H H') {wd : Str} {bs : List V} {w1 w m : Int} (h : OneB H wd bs w1 w m) : OneB H' wd bs w1 w m := by
  cases h with
  | sieve a b => exact .sieve (a.sameT e) b
  | cols a b c d => exact .cols (e _ _ a) b (Paired.mapP c fun _ _ z => z.sameT e) d
  | once => exact .once
  | count a => exact .count (a.same e)
  | grp a b c => exact .grp a b (c.same e)
  | first a b => exact .first (a.same e) (b.same e)
theorem TwoB.same {H H' : Hp} (e : SameT H H') {wd : Str} {bs : List V} {w1 w2 w m : Int} (h : TwoB H wd bs w1 w2 w m) : TwoB H' wd bs w1 w2 w m := by
  cases h with
  | alike a => exact .alike a
  | join a b => exact .join a (b.same e)
  | notin a => exact .notin (a.same e)
/-- a view's word, what stands behind its views, their widths, its own, and what it adds to the size -/
inductive Bd (H : Hp) : Str → List V → List Int → Int → Int → Prop
  | one {wd : Str} {bs : List V} {w1 w m : Int} : OneB H wd bs w1 w m → Bd H wd bs [w1] w m
  | two {wd : Str} {bs : List V} {w1 w2 w m : Int} : TwoB H wd bs w1 w2 w m → Bd H wd bs [w1, w2] w m
theorem Bd.same {H H' : Hp} (e : SameT H H') {wd : Str} {bs : List V} {ws : List Int} {w m : Int} (h : Bd H wd bs ws w m) : Bd H' wd bs ws w m := by
  cases h with
  | one a => exact .one (a.same e)
  | two a => exact .two (a.same e)
theorem OneB.word {H : Hp} {wd : Str} {bs : List V} {w1 w m : Int} (h : OneB H wd bs w1 w m) : inV (.str wd) ooL = true ∧ wd ≠ "rounds" ∧ wd ≠ "name" ∧ inV (.str wd) paL = false ∧ inV (.str wd) ofL = false := by
  cases h with
  | grp a _ _ => rcases a with rfl | rfl | rfl <;> decide +kernel
  | _ => decide +kernel
theorem TwoB.word {H : Hp} {wd : Str} {bs : List V} {w1 w2 w m : Int} (h : TwoB H wd bs w1 w2 w m) : inV (.str wd) ooL = false ∧ wd ≠ "rounds" ∧ wd ≠ "name" ∧ ((inV (.str wd) ofL = true ∧ w1 = w2) ∨ inV (.str wd) ofL = false) := by
  cases h with
  | alike a => rcases a with rfl | rfl | rfl | rfl <;> exact ⟨by decide +kernel, by decide +kernel, by decide +kernel, .inl ⟨by decide +kernel, rfl⟩⟩
  | join a _ => rcases a with rfl | rfl <;> exact ⟨by decide +kernel, by decide +kernel, by decide +kernel, .inr (by decide +kernel)⟩
  | notin _ => exact ⟨by decide +kernel, by decide +kernel, by decide +kernel, .inr (by decide +kernel)⟩
theorem Bd.word {H : Hp} {wd : Str} {bs : List V} {ws : List Int} {w m : Int} (h : Bd H wd bs ws w m) : wd ≠ "rounds" ∧ wd ≠ "name" := by
  cases h with
  | one a => exact ⟨a.word.2.1, a.word.2.2.1⟩
  | two a => exact ⟨a.word.2.1, a.word.2.2.1⟩
abbrev sViewsIn : Stmt := top 3
abbrev psV : List Str := ["V"]
def spViewsIn : Sp := fun vs H Q _ => ∃ t wd us bs ws w m, vs = [.ref t] ∧ H t = some (.tup (.str wd :: (us ++ bs))) ∧ us.length = ws.length ∧ Bd H wd bs ws w m ∧ ∀ l H', Same H H' → H l = none → H' l = some (.lst us) → Q (.ref l) H'
theorem scViewsIn : FnScope psV psV (defScope sViewsIn) := ⟨rfl, rfl, rfl, by decide +kernel, rfl, by decide +kernel, by decide +kernel⟩
theorem okViewsIn {f : Addr} {fd : FuncData} (D : Fn K mg "views_in" sViewsIn psV f fd) (GL : Glb K mg) : FnOk P w K mg base CX0 1 f fd psV spViewsIn := by
  obtain ⟨ao, mo, so⟩ := GL.oo
  refine D.F.ok scViewsIn (fun vs H Q E h => ?_) (fun cdv A outer s H vs Q E hr h => ?_)
  · obtain ⟨_, _, _, _, _, _, _, rfl, _⟩ := h
    rfl
  · refine Classical.byContradiction fun hG0 => ?_
    obtain ⟨t, wd, us, bs, ws, w', m, rfl, ht, hl, hb, k⟩ := h
    refine hG0 ?_
    clear hG0
    refine ⟨_, (@pss_cons _ _ _ _ _ (@ps_if _ _ _ _ _ _ _ _ (@pt_cmpR _ _ _ _ _ _ _ _ op_eq (@pe_ix _ _ _ _ _ _ _ ixT0 (pv 0) pe_int (fun _ _ => rfl)) pe_str (nomark _)) (@pss_one _ _ _ (@ps_ret _ _ _ _ (@pe_lst _ _ _ _ (@pa_cons _ _ _ _ _ (@pe_ix _ _ _ _ _ _ _ ixT0 (pv 0) pe_int (fun _ _ => rfl)) (@pa_cons _ _ _ _ _ (@pe_ix _ _ _ _ _ _ _ ixT0 (pv 0) pe_int (fun _ _ => rfl)) pa_nil (by rfl)) (by rfl))))) pss_nil) (@pss_cons _ _ _ _ _ (@ps_if _ _ _ _ _ _ _ _ (@pt_cmpR _ _ _ _ _ _ _ _ (inK K) (@pe_ix _ _ _ _ _ _ _ ixT0 (pv 0) pe_int (fun _ _ => rfl)) (@pe_glob _ _ (.ref ao) _ _ rfl mo rfl (by decide)) (by with_unfolding_all rfl)) (@pss_one _ _ _ (@ps_ret _ _ _ _ (@pe_lst _ _ _ _ (@pa_cons _ _ _ _ _ (@pe_ix _ _ _ _ _ _ _ ixT0 (pv 0) pe_int (fun _ _ => rfl)) pa_nil (by rfl))))) pss_nil) (@pss_one _ _ _ (@ps_ret _ _ _ _ (@pe_lst _ _ _ _ (@pa_cons _ _ _ _ _ (@pe_ix _ _ _ _ _ _ _ ixT0 (pv 0) pe_int (fun _ _ => rfl)) (@pa_cons _ _ _ _ _ (@pe_ix _ _ _ _ _ _ _ ixT0 (pv 0) pe_int (fun _ _ => rfl)) pa_nil (by rfl)) (by rfl))))))), ?_⟩
    cases hb with
    | one ob =>
      obtain ⟨c1, c2, -⟩ := ob.word
      match us, hl with
      | [v], _ =>
        first | refine wT0 rfl (id ht) at0 ?_ | refine ⟨_, rfl, t, _, _, _, rfl, rfl, id ht, at0, ?_⟩
        refine ⟨rfl, ?_⟩
        first | refine wV rfl ?_ | refine ⟨_, rfl, ?_⟩
        refine iteQ (neD c2) ?_
        first | refine wT0 rfl (id ht) at0 ?_ | refine ⟨_, rfl, t, _, _, _, rfl, rfl, id ht, at0, ?_⟩
        refine ⟨ao, _, rfl, .inr (so _), rfl, rfl, _, rfl, ?_⟩
        refine iteP c1 ?_
        first | refine wT0 rfl (id ht) at1 ?_ | refine ⟨_, rfl, t, _, _, _, rfl, rfl, id ht, at1, ?_⟩
        refine ⟨(by show 1 ≤ sizeLine; decide), ?_⟩
        refine fun l hl => ?_
        refine k l _ ((Same.refl H).upd hl) hl upd_same
    | two ob =>
      obtain ⟨c1, c2, -⟩ := ob.word
      match us, hl with
      | [v, u], _ =>
        first | refine wT0 rfl (id ht) at0 ?_ | refine ⟨_, rfl, t, _, _, _, rfl, rfl, id ht, at0, ?_⟩
        refine ⟨rfl, ?_⟩
        first | refine wV rfl ?_ | refine ⟨_, rfl, ?_⟩
        refine iteQ (neD c2) ?_
        first | refine wT0 rfl (id ht) at0 ?_ | refine ⟨_, rfl, t, _, _, _, rfl, rfl, id ht, at0, ?_⟩
        refine ⟨ao, _, rfl, .inr (so _), rfl, rfl, _, rfl, ?_⟩
        refine iteQ c1 ?_
        first | refine wT0 rfl (id ht) at1 ?_ | refine ⟨_, rfl, t, _, _, _, rfl, rfl, id ht, at1, ?_⟩
        first | refine wT0 rfl (id ht) at2 ?_ | refine ⟨_, rfl, t, _, _, _, rfl, rfl, id ht, at2, ?_⟩
        refine ⟨(by show 2 ≤ sizeLine; decide), ?_⟩
        refine fun l hl => ?_
        refine k l _ ((Same.refl H).upd hl) hl upd_same
abbrev sBesides : Stmt := top 4
def spBesides : Sp := fun vs H Q _ => ∃ t wd us bs ws w m, vs = [.ref t] ∧ H t = some (.tup (.str wd :: (us ++ bs))) ∧ us.length = ws.length ∧ Bd H wd bs ws w m ∧ ∀ p H', Same H H' → H' p = some (.tup bs) → Q (.ref p) H'
theorem scBesides : FnScope psV psV (defScope sBesides) := ⟨rfl, rfl, rfl, by decide +kernel, rfl, by decide +kernel, by decide +kernel⟩
theorem cut_us {x : V} {us bs : List V} : cutV (x :: (us ++ bs)) (some (1 + (us.length : Int))) none = bs := by
  unfold cutV HT.sIx
  have e1 : ¬ (1 + (us.length : Int) < 0) := by omega
  have e2 : (1 + (us.length : Int)).toNat = us.length + 1 := by omega
  have e3 : min (us.length + 1) (us.length + bs.length + 1) = us.length + 1 := by omega
  simp [e1, e2, e3]
theorem okBesides {f fv : Addr} {fd fdv : FuncData} (D : Fn K mg "besides_of" sBesides psV f fd) (X : Txt mg) (GL : Glb K mg) (DV : Fn K mg "views_in" sViewsIn psV fv fdv) : FnOk P w K mg base CX0 2 f fd psV spBesides := by
  have GV : FnOk P w K mg base CX0 1 fv fdv psV spViewsIn := okViewsIn DV GL
  refine D.F.ok (k := 1) scBesides (fun vs H Q E h => ?_) (fun cdv A outer s H vs Q E hr h => ?_)
  · obtain ⟨_, _, _, _, _, _, _, rfl, _⟩ := h
    rfl
  · refine Classical.byContradiction fun hG0 => ?_
    obtain ⟨t, wd, us, bs, ws, w', m, rfl, ht, hl, hb, k⟩ := h
    refine hG0 ?_
    clear hG0
    refine ⟨_, (@pss_one _ _ _ (@ps_ret _ _ _ _ (@pe_slice _ _ _ _ _ _ _ _ _ _ sl_tupH (pv 0) (@po_some _ _ _ (@pe_op _ _ _ _ _ _ _ _ op_add pe_int (@pe_callB _ _ _ _ _ _ _ _ _ (lenK K) (by rfl) X.len b_len (@pa_cons _ _ _ _ _ (@pe_call _ _ _ _ _ _ _ _ _ _ _ _ _ _ _ _ GV hr rfl DV.m DV.F.kp DV.b .nil pass0 (@pa_cons _ _ _ _ _ (pv 0) pa_nil (by rfl)) (by decide) (by rfl) (by rfl)) pa_nil (by rfl)) (by decide) (by decide) (by rfl) (by rfl)))) po_none))), ?_⟩
    first | refine wV rfl ?_ | refine ⟨_, rfl, ?_⟩
    first | refine wV rfl ?_ | refine ⟨_, rfl, ?_⟩
    refine ⟨t, wd, us, bs, ws, w', m, rfl, ht, hl, hb, ?_⟩
    refine fun l H1 s1 _ e1 => ?_
    refine ⟨l, us, rfl, .inl (SqL.of e1), ?_⟩
    first | refine wI ?_ | refine wIc ?_ | refine ⟨_, _, rfl, rfl, ?_⟩
    first | refine wV rfl ?_ | refine ⟨_, rfl, ?_⟩
    refine ⟨t, _, rfl, s1 _ _ ht, fun p H2 s2 e2 => ?_⟩
    rw [cut_us] at e2
    exact k p H2 (s1.trans s2) e2
abbrev sWidthO : Stmt := top 5
abbrev psWidthO : List Str := ["word", "besides", "inner"]
theorem scWidthO : FnScope psWidthO psWidthO (defScope sWidthO) := ⟨rfl, rfl, rfl, by decide +kernel, rfl, by decide +kernel, by decide +kernel⟩
end
end VK
namespace VK
open PySem PySem.Spec PyProof.Rows L2
section
variable {P : Program} {w : World} {K : PySem.W.Frag} {mg : Str → Option Value} {base : Heap}
abbrev sWithN : Stmt := top 6
abbrev psWithN : List Str := ["known", "name", "thing"]
abbrev nWithN : List Str := ["known", "name", "thing", "wider"]
def spWithN : Sp := fun vs H Q _ => ∃ a kvs x v, vs = [.ref a, .str x, v] ∧ H a = some (.dK kvs) ∧ kvs.length < 1000 ∧ ∀ p H', Same H H' → H' p = some (.dK (putK kvs (.inr x) v)) → Q (.ref p) H'
theorem scWithN : FnScope nWithN psWithN (defScope sWithN) := ⟨rfl, rfl, rfl, by decide +kernel, rfl, by decide +kernel, by decide +kernel⟩
theorem okWithN {f : Addr} {fd : FuncData} (D : Fn K mg "with_name" sWithN psWithN f fd) (X : Txt mg) : FnOk P w K mg base CX0 1 f fd psWithN spWithN := by
  refine D.F.ok scWithN (fun vs H Q E h => ?_) (fun cdv A outer s H vs Q E hr h => ?_)
  · obtain ⟨_, _, _, _, rfl, _⟩ := h
    rfl
  · refine Classical.byContradiction fun hG0 => ?_
    obtain ⟨a, kvs, x, v, rfl, ha, hz, k⟩ := h
    refine hG0 ?_
    clear hG0
    have nd := scWithN.nd
    refine ⟨_, (@pss_cons _ _ _ _ _ (@ps_set _ _ (3) _ _ _ _ nd rfl (Or.inl rfl) (@pe_callTy _ _ _ _ _ _ _ _ _ call_dcopy rfl X.dict b_dict (@pa_cons _ _ _ _ _ (pv 0) pa_nil (by rfl)) (by decide) (by decide) (by rfl) (by rfl)) (by rfl) (by first | exact .inl rfl | exact .inr rfl | assumption)) (@pss_cons _ _ _ _ _ (@ps_dput _ _ _ _ _ _ _ _ _ (hu_of hr) (pv 3) (pv 1) (pv 2) rfl) (@pss_one _ _ _ (@ps_ret _ _ _ _ (pv 3))))), ?_⟩
    first | refine wV rfl ?_ | refine ⟨_, rfl, ?_⟩
    refine ⟨a, kvs, rfl, ha, ?_⟩
    refine fun p hp => ?_
    first | refine wV rfl ?_ | refine ⟨_, rfl, ?_⟩
    first | refine wV rfl ?_ | refine ⟨_, rfl, ?_⟩
    first | refine wV rfl ?_ | refine ⟨_, rfl, ?_⟩
    refine ⟨p, _, rfl, DPut.k (k := .inr x) upd_same (small1000 (Nat.le_of_lt hz)), _, rfl, k p _ (fun c o e => ?_) upd_same⟩
    rw [upd_ne (ne_of_none e hp), upd_ne (ne_of_none e hp)]
    exact e
theorem listG {α : Type} {g : α → V} {qs : List α} {ys : List V} (hl : ys.length = qs.length) (h : ∀ (i : Nat) (y : V), ys[i]? = some y → ∃ q, qs[i]? = some q ∧ y = g q) : ys = qs.map g := by
  apply List.ext_getElem?
  intro i
  rw [List.getElem?_map]
  cases e : ys[i]? with
  | none =>
    have : qs[i]? = none := by rw [List.getElem?_eq_none_iff] at e ⊢; omega
    rw [this]; rfl
  | some y =>
    obtain ⟨q, h1, h2⟩ := h i y e
    rw [h1, h2]; rfl
abbrev Env := Str → Option (Int × Int)
def Env.put (E : Env) (x : Str) (p : Int × Int) : Env := fun y => if y = x then some p else E y
def Vw : Nat → Hp → Env → V → Int → Int → Prop
  | 0, _, _, _, _, _ => False
  | n + 1, H, E, v, w, s => w ≤ 12 ∧ ∃ t, v = .ref t ∧
    ((∃ x, H t = some (.tup [.str "name", .str x]) ∧ E x = some (w, s)) ∨
     (∃ (wd : Str) (us bs : List V) (qs : List (Int × Int)) (m : Int), H t = some (.tup (.str wd :: (us ++ bs))) ∧ Paired (fun v q => Vw n H E v q.1 q.2) us qs ∧ Bd H wd bs (qs.map (·.1)) w m ∧ s = 1 + (qs.map (·.2)).sum + m) ∨
     (∃ (x : Str) (k : Int) (v1 v2 : V) (s1 s2 : Int), H t = some (.tup [.str "rounds", .str x, .int k, v1, v2]) ∧ 1 ≤ k ∧ k ≤ 64 ∧ E x = none ∧ Vw n H E v1 w s1 ∧ Vw n H (E.put x (w, 1)) v2 w s2 ∧ s = s1 + k * (2 + s2)))
theorem Vw.same {H H' : Hp} (e : SameT H H') {n : Nat} : ∀ {E : Env} {v : V} {w s : Int}, Vw n H E v w s → Vw n H' E v w s := by
  induction n with
  | zero => exact fun h => h
  | succ n ih =>
    intro E v w s h
    obtain ⟨hw, t, rfl, h⟩ := h
    refine ⟨hw, t, rfl, ?_⟩
    rcases h with ⟨x, h1, h2⟩ | ⟨wd, us, bs, qs, m, h1, h2, h3, h4⟩ | ⟨x, k, v1, v2, s1, s2, h1, hk, hk2, h2, h3, h4, h5⟩
    · exact .inl ⟨x, e _ _ h1, h2⟩
    · exact .inr (.inl ⟨wd, us, bs, qs, m, e _ _ h1, Paired.mapP h2 fun _ _ z => ih z, h3.same e, h4⟩)
    · exact .inr (.inr ⟨x, k, v1, v2, s1, s2, e _ _ h1, hk, hk2, h2, ih h3, ih h4, h5⟩)
theorem Vw.up1 {H : Hp} {n : Nat} : ∀ {E : Env} {v : V} {w s : Int}, Vw n H E v w s → Vw (n + 1) H E v w s := by
  induction n with
  | zero => exact fun h => h.elim
  | succ n ih =>
    intro E v w s h
    obtain ⟨hw, t, rfl, h⟩ := h
    refine ⟨hw, t, rfl, ?_⟩
    rcases h with h | ⟨wd, us, bs, qs, m, h1, h2, h3, h4⟩ | ⟨x, k, v1, v2, s1, s2, h1, hk, hk2, h2, h3, h4, h5⟩
    · exact .inl h
    · exact .inr (.inl ⟨wd, us, bs, qs, m, h1, Paired.mapP h2 fun _ _ z => ih z, h3, h4⟩)
    · exact .inr (.inr ⟨x, k, v1, v2, s1, s2, h1, hk, hk2, h2, ih h3, ih h4, h5⟩)
theorem Vw.mono {H : Hp} {n m : Nat} {E : Env} {v : V} {w s : Int} (hm : n ≤ m) (h : Vw n H E v w s) : Vw m H E v w s := by
  induction hm with
  | refl => exact h
  | step _ ih => exact ih.up1
theorem list_of {α : Type} {g : α → Int} {qs : List α} {ys : List V} (hl : ys.length = qs.length) (h : ∀ (i : Nat) (y : V), ys[i]? = some y → ∃ q, qs[i]? = some q ∧ y = .int (g q)) : ys = (qs.map g).map V.int := by
  rw [List.map_map]
  exact listG hl h
def okC (c : Nat) : Bool := decide (97 ≤ c) && decide (c ≤ 122)
theorem k_str_str {K : PySem.W.Frag} : PySem.W.kitOne K (.type "str") (.type "str") = some true := kt (by decide +kernel)
def Lower (z : Str) : Prop := ∀ c ∈ z.cps.toList, okC c = true
end
end VK
namespace VK
open PySem PySem.Spec PyProof.Rows L2
section
variable {P : Program} {w : World} {K : PySem.W.Frag} {mg : Str → Option Value} {base : Heap}
abbrev sMixed : Stmt := top 12
abbrev psMixed : List Str := ["_law_cell"]
def spMixed : Sp := fun vs H Q _ => ∃ c : Int, vs = [.int c] ∧ ∀ m : Int, Q (.int m) H
theorem scMixed : FnScope psMixed psMixed (defScope sMixed) := ⟨rfl, rfl, rfl, by decide +kernel, rfl, by decide +kernel, by decide +kernel⟩
theorem p30 : (0 : Int) < 10 ^ (30 : Int).toNat := by decide +kernel
theorem okMixed {f : Addr} {fd : FuncData} (D : Fn K mg "_law_mixed" sMixed psMixed f fd) : FnOk P w K mg base CX0 1 f fd psMixed spMixed := by
  refine D.F.ok scMixed (fun vs H Q E h => ?_) (fun cdv A outer s H vs Q E hr h => ?_)
  · obtain ⟨c, rfl, _⟩ := h
    rfl
  · refine Classical.byContradiction fun hG0 => ?_
    obtain ⟨c, rfl, q⟩ := h
    refine hG0 ?_
    clear hG0
    refine ⟨_, pss_one (@ps_ret _ _ _ _ (@pe_op _ _ _ _ _ _ _ _ op_add (@pe_op _ _ _ _ _ _ _ _ op_mod (@pe_op _ _ _ _ _ _ _ _ op_mul (pv 0) pe_int) pe_int) (@pe_op _ _ _ _ _ _ _ _ op_mul pe_int (@pe_op _ _ _ _ _ _ _ _ op_mod (pv 0) (@pe_op _ _ _ _ _ _ _ _ op_pow pe_int pe_int))))), ?_⟩
    first | refine wV rfl ?_ | refine ⟨_, rfl, ?_⟩
    first | refine wC (.inr ⟨by decide, by decide⟩) ?_ | refine wCc (.inr ⟨by decide, by decide⟩) ?_ | refine ⟨_, _, rfl, rfl, .inr ⟨by decide, by decide⟩, ?_⟩
    first | refine wC (show (0 : Int) < 2147483629 by decide) ?_ | refine wCc (show (0 : Int) < 2147483629 by decide) ?_ | refine ⟨_, _, rfl, rfl, (show (0 : Int) < 2147483629 by decide), ?_⟩
    first | refine wV rfl ?_ | refine ⟨_, rfl, ?_⟩
    first | refine wC (c10 (by decide) (by decide) (by decide)) ?_ | refine wCc (c10 (by decide) (by decide) (by decide)) ?_ | refine ⟨_, _, rfl, rfl, c10 (by decide) (by decide) (by decide), ?_⟩
    first | refine wC p30 ?_ | refine wCc p30 ?_ | refine ⟨_, _, rfl, rfl, p30, ?_⟩
    first | refine wC (.inl ⟨by decide, by decide⟩) ?_ | refine wCc (.inl ⟨by decide, by decide⟩) ?_ | refine ⟨_, _, rfl, rfl, .inl ⟨by decide, by decide⟩, ?_⟩
    first | refine wI ?_ | refine wIc ?_ | refine ⟨_, _, rfl, rfl, ?_⟩
    refine q _
abbrev sWhole : Stmt := top 11
abbrev psWhole : List Str := ["_law_found"]
def spWhole : Sp := fun vs H Q _ => ∃ i : Int, vs = [.int i] ∧ Q (.bl true) H
theorem scWhole : FnScope psWhole psWhole (defScope sWhole) := ⟨rfl, rfl, rfl, by decide +kernel, rfl, by decide +kernel, by decide +kernel⟩
theorem okWhole {f : Addr} {fd : FuncData} (D : Fn K mg "_law_whole" sWhole psWhole f fd) (T : Txt mg) : FnOk P w K mg base CX0 1 f fd psWhole spWhole := by
  refine D.F.ok scWhole (fun vs H Q E h => ?_) (fun cdv A outer s H vs Q E hr h => ?_)
  · obtain ⟨i, rfl, _⟩ := h
    rfl
  · refine Classical.byContradiction fun hG0 => ?_
    obtain ⟨i, rfl, q⟩ := h
    refine hG0 ?_
    clear hG0
    refine ⟨_, pss_one (@ps_ret _ _ _ _ (@pe_and _ _ _ _ _ _ _ (@pe_callB _ _ _ _ _ _ _ _ _ call_isinst (by rfl) T.isinstance b_isinstance (@pa_cons _ _ _ _ _ (pv 0) (@pa_cons _ _ _ _ _ (@pe_ty _ _ _ _ rfl T.int b_int (by decide) (by decide)) pa_nil (by rfl)) (by rfl)) (by decide) (by decide) (by rfl) (by rfl)) (@pe_one _ _ _ _ _ (@pe_not _ _ _ _ (@pe_callB _ _ _ _ _ _ _ _ _ call_isinst (by rfl) T.isinstance b_isinstance (@pa_cons _ _ _ _ _ (pv 0) (@pa_cons _ _ _ _ _ (@pe_ty _ _ _ _ rfl T.bool b_bool (by decide) (by decide)) pa_nil (by rfl)) (by rfl)) (by decide) (by decide) (by rfl) (by rfl)))))), ?_⟩
    first | refine wV rfl ?_ | refine ⟨_, rfl, ?_⟩
    refine ⟨_, _, "int", true, rfl, TyOf.int i, k_int_int, true, rfl, iteT ?_⟩
    first | refine wV rfl ?_ | refine ⟨_, rfl, ?_⟩
    refine ⟨_, _, "int", false, rfl, TyOf.int i, k_int_bool, false, rfl, q⟩
abbrev sDigits : Stmt := top 13
abbrev psDigits : List Str := ["_law_number", "_law_many", "_law_top"]
abbrev nDigits : List Str := ["_law_number", "_law_many", "_law_top", "_law_found", "_law_k"]
def spDigits : Sp := fun vs H Q _ => ∃ (n m top : Int), vs = [.int n, .int m, .int top] ∧ 0 ≤ m ∧ m ≤ 13 ∧ 0 < top ∧ top < 1000 ∧ ∀ l H' (ds : List Int), Same H H' → (ds.length : Int) = m → (∀ d ∈ ds, 0 ≤ d ∧ d < top) → H' l = some (.lst (ds.map V.int)) → Q (.ref l) H'
theorem scDigits : FnScope nDigits psDigits (defScope sDigits) := ⟨rfl, rfl, rfl, by decide +kernel, rfl, by decide +kernel, by decide +kernel⟩
theorem okDigits {f : Addr} {fd : FuncData} (D : Fn K mg "_law_digits" sDigits psDigits f fd) (X : Txt mg) : FnOk P w K mg base CX0 1 f fd psDigits spDigits := by
  refine D.F.ok scDigits (fun vs H Q E h => ?_) (fun cdv A outer s H vs Q E hr h => ?_)
  · obtain ⟨_, _, _, rfl, _⟩ := h
    rfl
  · refine Classical.byContradiction fun hG0 => ?_
    obtain ⟨n, m0, top, rfl, hm0, hm, ht, ht2, q⟩ := h
    refine hG0 ?_
    clear hG0
    have nd := scDigits.nd
    obtain ⟨m, rfl⟩ : ∃ m : Nat, m0 = (m : Int) := ⟨m0.toNat, by omega⟩
    refine ⟨_, (@pss_cons _ _ _ _ _ (@ps_set _ _ (3) _ _ _ _ nd rfl (Or.inl rfl) (@pe_lst _ _ _ _ pa_nil) (by rfl) (by first | exact .inl rfl | exact .inr rfl | assumption)) (@pss_cons _ _ _ _ _ (@ps_for _ _ _ _ _ _ _ _ PassesOwn.never rfl (@pi_range1 _ _ _ _ _ _ rfl X.range (@pa_cons _ _ _ _ _ (pv 1) pa_nil (by rfl)) (by rfl)) (@pg_name _ _ (4) _ nd rfl (Or.inl rfl) (by first | exact .inl rfl | exact .inr rfl | assumption)) (@pss_cons _ _ _ _ _ (@ps_expr _ _ _ _ (@pe_bm _ _ _ _ _ _ _ _ _ _ _ _ PySem.F.plainAttrs_list PySem.F.slot_list_append PySem.F.type_list_append mt_append (pv 3) (@pa_cons _ _ _ _ _ (@pe_op _ _ _ _ _ _ _ _ op_mod (pv 0) (pv 2)) pa_nil (by rfl)) (by rfl) (by rfl) (by rfl) (by rfl) (by rfl)) (by rfl)) (@pss_one _ _ _ (@ps_set _ _ (0) _ _ _ _ nd rfl (Or.inl rfl) (@pe_op _ _ _ _ _ _ _ _ op_fdiv (pv 0) (pv 2)) (by rfl) (by first | exact .inl rfl | exact .inr rfl | assumption)))) (by intro _; rfl)) (@pss_one _ _ _ (@ps_ret _ _ _ _ (pv 3))))), ?_⟩
    refine ⟨Nat.zero_le _, ?_⟩
    refine fun l hfr => ?_
    first | refine wV rfl ?_ | refine ⟨_, rfl, ?_⟩
    first | refine wV rfl ?_ | refine ⟨_, rfl, ?_⟩
    refine ⟨by omega, by omega, ?_⟩
    refine for_range (lo := 0) (n := m) (fun i σ H1 => ∃ (n' : Int) (kx : Option V) (ds : List Int), σ = [some (.int n'), some (.int m), some (.int top), some (.ref l), kx] ∧ Same H H1 ∧ H1 l = some (.lst (ds.map V.int)) ∧ ds.length = i ∧ ∀ d ∈ ds, 0 ≤ d ∧ d < top) ⟨n, none, [], rfl, (Same.refl H).upd hfr, upd_same, rfl, nofun⟩ ?_ ?_
    · rintro i σ H1 hi ⟨n', kx, ds, rfl, s1, hl1, hlen, hds⟩
      first | refine wV rfl ?_ | refine ⟨_, rfl, ?_⟩
      refine ⟨.inl ⟨rfl, _, SqL.of hl1⟩, ?_⟩
      first | refine wV rfl ?_ | refine ⟨_, rfl, ?_⟩
      first | refine wV rfl ?_ | refine ⟨_, rfl, ?_⟩
      first | refine wC ht ?_ | refine wCc ht ?_ | refine ⟨_, _, rfl, rfl, ht, ?_⟩
      refine ⟨l, _, _, rfl, rfl, hl1, small1000 (by rw [List.length_map]; omega), ?_⟩
      first | refine wV rfl ?_ | refine ⟨_, rfl, ?_⟩
      first | refine wV rfl ?_ | refine ⟨_, rfl, ?_⟩
      first | refine wC ⟨ht, by omega⟩ ?_ | refine wCc ⟨ht, by omega⟩ ?_ | refine ⟨_, _, rfl, rfl, ⟨ht, by omega⟩, ?_⟩
      refine ⟨_, _, ds ++ [n' % top], rfl, fun b o z => ?_, ?_, by simp [hlen], fun d hd => ?_⟩
      · rw [upd_ne (ne_of_none z hfr)]
        exact s1 b o z
      · rw [upd_same, List.map_append]
        rfl
      · rcases List.mem_append.mp hd with hd | hd
        · exact hds d hd
        · simp only [List.mem_cons, List.not_mem_nil, or_false] at hd
          subst hd
          refine ⟨Int.emod_nonneg _ (by omega), ?_⟩
          refine Int.emod_lt_of_pos _ ht
    · rintro σ H1 ⟨n', kx, ds, rfl, s1, hl1, hlen, hds⟩
      first | refine wV rfl ?_ | refine ⟨_, rfl, ?_⟩
      refine q l H1 ds s1 (by omega) hds hl1
def abc : Str := "abcdefghijklmnopqrstuvwxyz"
theorem abc_list : abc.cps.toList = List.range' 97 26 := by decide +kernel
theorem abc_at {i : Int} (h0 : 0 ≤ i) (h1 : i < 26) : atI abc.cps.toList i = some (97 + i.toNat) := by
  obtain ⟨k, rfl⟩ : ∃ k : Nat, i = (k : Int) := ⟨i.toNat, by omega⟩
  rw [abc_list]
  refine atI_nat ?_
  rw [List.getElem?_range' (by omega)]
  simp
theorem abc_len : abc.length ≤ sizeLine := by decide +kernel
def one (c : Nat) : Str := ⟨#[c]⟩
theorem ex_ok {c : Nat} (h : c < 26) : okC (97 + c) = true := by
  unfold okC
  rw [decide_eq_true (by omega), decide_eq_true (by omega)]
  rfl
theorem join_of : ∀ {cs : List Nat}, 1 ≤ cs.length → cs.length ≤ 5 → JoinOk "" (cs.map one) = true ∧ Txt.join "" (cs.map one) = ⟨cs.toArray⟩ := by
  intro cs h1 h5
  have e : Str.ofString "" = ⟨#[]⟩ := by decide +kernel
  match cs, h1, h5 with
  | [a], _, _ => rw [e]; exact ⟨rfl, rfl⟩
  | [a, b], _, _ => rw [e]; exact ⟨rfl, rfl⟩
  | [a, b, c], _, _ => rw [e]; exact ⟨rfl, rfl⟩
  | [a, b, c, d], _, _ => rw [e]; exact ⟨rfl, rfl⟩
  | [a, b, c, d, f], _, _ => rw [e]; exact ⟨rfl, rfl⟩
  | _ :: _ :: _ :: _ :: _ :: _ :: _, _, h => exact absurd h (by simp only [List.length_cons]; omega)
theorem ones_of : ∀ {ys : List V}, (∀ (i : Nat) (y : V), ys[i]? = some y → ∃ c, okC c = true ∧ y = .str (one c)) → ∃ cs : List Nat, ys = (cs.map one).map V.str ∧ ∀ c ∈ cs, okC c = true
  | [], _ => ⟨[], rfl, nofun⟩
  | y :: ys, h => by
    obtain ⟨c, hc, rfl⟩ := h 0 y rfl
    obtain ⟨cs, rfl, hn⟩ := ones_of (ys := ys) fun i z e => h (i + 1) z (by simpa using e)
    exact ⟨c :: cs, rfl, fun q hq => by rcases List.mem_cons.mp hq with rfl | hq <;> first | exact hc | exact hn q hq⟩
abbrev sNames : Stmt := top 14
abbrev psNames : List Str := ["_law_cell"]
abbrev nNames : List Str := ["_law_cell", "_law_letters", "_law_number", "_law_base", "_law_at", "_law_names_here", "_law_j"]
def NmsL (zs : List Str) : Prop := zs.length = 4 ∧ zs.Nodup ∧ ∃ L : Nat, 1 ≤ L ∧ L ≤ 5 ∧ ∀ z ∈ zs, z.length = L ∧ Lower z
def spNames : Sp := fun vs H Q _ => ∃ c : Int, vs = [.int c] ∧ ∀ l H' (zs : List Str), Same H H' → NmsL zs → H' l = some (.lst (zs.map V.str)) → Q (.ref l) H'
theorem scNames : FnScope nNames psNames (defScope sNames) := ⟨rfl, rfl, rfl, by decide +kernel, rfl, by decide +kernel, by decide +kernel⟩
theorem one_inj {a b : Nat} (h : V.str (one a) = V.str (one b)) : a = b := by
  injection h with h
  have h2 : (#[a] : Array Nat) = #[b] := congrArg Str.cps h
  injection h2 with h2
  injection h2
theorem shift_inj {d : Int} {i j : Nat} (hi : i < 4) (hj : j < 4) (h : 97 + ((d + (i : Int)) % 26).toNat = 97 + ((d + (j : Int)) % 26).toNat) : i = j := by omega
theorem okNames {f fM fD : Addr} {fd fdM fdD : FuncData} (D : Fn K mg "_law_names" sNames psNames f fd) (X : Txt mg) (DM : Fn K mg "_law_mixed" sMixed psMixed fM fdM) (DD : Fn K mg "_law_digits" sDigits psDigits fD fdD) : FnOk P w K mg base CX0 2 f fd psNames spNames := by
  have GM : FnOk P w K mg base CX0 1 fM fdM psMixed spMixed := okMixed DM
  have GD : FnOk P w K mg base CX0 1 fD fdD psDigits spDigits := okDigits DD X
  refine D.F.ok (k := 1) scNames (fun vs H Q E h => ?_) (fun cdv A outer s H vs Q E hr h => ?_)
  · obtain ⟨_, rfl, _⟩ := h
    rfl
  · refine Classical.byContradiction fun hG0 => ?_
    obtain ⟨c, rfl, k⟩ := h
    refine hG0 ?_
    clear hG0
    have nd := scNames.nd
    refine ⟨_, (@pss_cons _ _ _ _ _ (@ps_set _ _ (1) _ _ _ _ nd rfl (Or.inr rfl) pe_str (by rfl) (by first | exact .inl rfl | exact .inr rfl | assumption)) (@pss_cons _ _ _ _ _ (@ps_set _ _ (2) _ _ _ _ nd rfl (Or.inl rfl) (@pe_call _ _ _ _ _ _ _ _ _ _ _ _ _ _ _ _ GM hr rfl DM.m DM.F.kp DM.b .nil pass0 (@pa_cons _ _ _ _ _ (pv 0) pa_nil (by rfl)) (by decide) (by rfl) (by rfl)) (by rfl) (by first | exact .inl rfl | exact .inr rfl | assumption)) (@pss_cons _ _ _ _ _ (@ps_set _ _ (3) _ _ _ _ nd rfl (Or.inr rfl) (@pe_call _ _ _ _ _ _ _ _ _ _ _ _ _ _ _ _ GD hr rfl DD.m DD.F.kp DD.b .nil pass0 (@pa_cons _ _ _ _ _ (@pe_op _ _ _ _ _ _ _ _ op_fdiv (pv 2) pe_int) (@pa_cons _ _ _ _ _ (@pe_op _ _ _ _ _ _ _ _ op_add pe_int (@pe_op _ _ _ _ _ _ _ _ op_mod (pv 2) pe_int)) (@pa_cons _ _ _ _ _ pe_int pa_nil (by rfl)) (by rfl)) (by rfl)) (by decide) (by rfl) (by rfl)) (by rfl) (by first | exact .inl rfl | exact .inr rfl | assumption)) (@pss_cons _ _ _ _ _ (@ps_set _ _ (4) _ _ _ _ nd rfl (Or.inr rfl) (@pe_op _ _ _ _ _ _ _ _ op_mod (@pe_op _ _ _ _ _ _ _ _ op_mod (@pe_op _ _ _ _ _ _ _ _ op_fdiv (pv 2) pe_int) pe_int) (@pe_callB _ _ _ _ _ _ _ _ _ (lenK K) (by rfl) X.len b_len (@pa_cons _ _ _ _ _ (pv 3) pa_nil (by rfl)) (by decide) (by decide) (by rfl) (by rfl))) (by rfl) (by first | exact .inl rfl | exact .inr rfl | assumption)) (@pss_cons _ _ _ _ _ (@ps_set _ _ (5) _ _ _ _ nd rfl (Or.inl rfl) (@pe_lst _ _ _ _ pa_nil) (by rfl) (by first | exact .inl rfl | exact .inr rfl | assumption)) (@pss_cons _ _ _ _ _ (@ps_for _ _ _ _ _ _ _ _ PassesOwn.never rfl (@pi_range1 _ _ _ _ _ _ rfl X.range (@pa_cons _ _ _ _ _ pe_int pa_nil (by rfl)) (by rfl)) (@pg_name _ _ (6) _ nd rfl (Or.inr rfl) (by first | exact .inl rfl | exact .inr rfl | assumption)) (@pss_one _ _ _ (@ps_expr _ _ _ _ (@pe_bm _ _ _ _ _ _ _ _ _ _ _ _ PySem.F.plainAttrs_list PySem.F.slot_list_append PySem.F.type_list_append mt_append (pv 5) (@pa_cons _ _ _ _ _ (@pe_bm _ _ _ _ _ _ _ _ _ _ _ _ PySem.F.plainAttrs_str PySem.F.slot_str_join PySem.F.type_str_join mt_join pe_str (@pa_cons _ _ _ _ _ (@pe_comp _ _ _ _ _ _ _ _ (tOp rIxS (tVar 4) (tOp _ (tOp _ (tOp rIxL0 (tVar 2) (tVar 0)) _) _)) (["_law_k"]) ([("_law_at", 4), ("_law_base", 3), ("_law_j", 6), ("_law_letters", 1)]) (defScope sNames) (nNames) rfl rfl ⟨rfl, by decide +kernel, by decide +kernel, by decide +kernel, by decide +kernel⟩ rfl (@pi_range1 _ _ _ _ _ _ rfl X.range (@pa_cons _ _ _ _ _ (@pe_callB _ _ _ _ _ _ _ _ _ (lenK K) (by rfl) X.len b_len (@pa_cons _ _ _ _ _ (pv 3) pa_nil (by rfl)) (by decide) (by decide) (by rfl) (by rfl)) pa_nil (by rfl)) (by rfl)) (fun s H fp => pg_name (i := 0) (show (["_law_k", "_law_at", "_law_base", "_law_j", "_law_letters"] : List Str).Nodup by decide +kernel) rfl (Or.inl rfl) (Or.inr rfl)) (fun s H fp => pe_ix ix_str (pv 4) (@pe_op _ _ _ _ _ _ _ _ op_mod (@pe_op _ _ _ _ _ _ _ _ op_add (@pe_ix _ _ _ _ _ _ _ ixL0 (pv 2) (pv 0) (fun _ _ => rfl)) (@pe_op _ _ _ _ _ _ _ _ op_mul (pv 3) (@pe_callTy _ _ _ _ _ _ _ _ _ call_int1 rfl X.int b_int (@pa_cons _ _ _ _ _ (@pe_cmpR _ _ _ _ _ _ _ _ op_eq (pv 0) (pv 1) (nomark _)) pa_nil (by rfl)) (by decide) (by decide) (by rfl) (by rfl)))) pe_int) (fun _ _ => rfl)) (by intro _; rfl)) pa_nil (by rfl)) (by rfl) (by rfl) (by rfl) (by rfl) (by rfl)) pa_nil (by rfl)) (by rfl) (by rfl) (by rfl) (by rfl) (by rfl)) (by rfl))) (by intro _; rfl)) (@pss_one _ _ _ (@ps_ret _ _ _ _ (pv 5))))))))), ?_⟩
    first | refine wV rfl ?_ | refine ⟨_, rfl, ?_⟩
    refine ⟨c, rfl, ?_⟩
    refine fun m => ?_
    first | refine wV rfl ?_ | refine ⟨_, rfl, ?_⟩
    first | refine wC ⟨by decide, by decide⟩ ?_ | refine wCc ⟨by decide, by decide⟩ ?_ | refine ⟨_, _, rfl, rfl, ⟨by decide, by decide⟩, ?_⟩
    first | refine wV rfl ?_ | refine ⟨_, rfl, ?_⟩
    first | refine wC (show (0 : Int) < 5 by decide) ?_ | refine wCc (show (0 : Int) < 5 by decide) ?_ | refine ⟨_, _, rfl, rfl, (show (0 : Int) < 5 by decide), ?_⟩
    first | refine wI ?_ | refine wIc ?_ | refine ⟨_, _, rfl, rfl, ?_⟩
    refine ⟨m / 25, 1 + m % 5, 26, rfl, by omega, by omega, by decide, by decide, ?_⟩
    refine fun lb H1 ds s1 hdl hds e1 => ?_
    have hd1 : 1 ≤ ds.length ∧ ds.length ≤ 5 := by omega
    first | refine wV rfl ?_ | refine ⟨_, rfl, ?_⟩
    first | refine wC ⟨by decide, by decide⟩ ?_ | refine wCc ⟨by decide, by decide⟩ ?_ | refine ⟨_, _, rfl, rfl, ⟨by decide, by decide⟩, ?_⟩
    first | refine wC (show (0 : Int) < 5 by decide) ?_ | refine wCc (show (0 : Int) < 5 by decide) ?_ | refine ⟨_, _, rfl, rfl, (show (0 : Int) < 5 by decide), ?_⟩
    first | refine wV rfl ?_ | refine ⟨_, rfl, ?_⟩
    refine ⟨lb, _, rfl, .inl (SqL.of e1), ?_⟩
    first | refine wC (show (0 : Int) < ((ds.map V.int).length : Int) by rw [List.length_map]; omega) ?_ | refine wCc (show (0 : Int) < ((ds.map V.int).length : Int) by rw [List.length_map]; omega) ?_ | refine ⟨_, _, rfl, rfl, (show (0 : Int) < ((ds.map V.int).length : Int) by rw [List.length_map]; omega), ?_⟩
    obtain ⟨at0, hat0, hat1⟩ : ∃ at0 : Nat, m / 5 % 5 % ((ds.map V.int).length : Int) = (at0 : Int) ∧ at0 < ds.length := by
      have g0 := Int.emod_nonneg (m / 5 % 5) (show ((ds.map V.int).length : Int) ≠ 0 by rw [List.length_map]; omega)
      have g1 := Int.emod_lt_of_pos (m / 5 % 5) (show (0 : Int) < ((ds.map V.int).length : Int) by rw [List.length_map]; omega)
      refine ⟨(m / 5 % 5 % ((ds.map V.int).length : Int)).toNat, by omega, ?_⟩
      rw [List.length_map] at g0 g1 ⊢
      omega
    refine ⟨Nat.zero_le _, ?_⟩
    refine fun l hl => ?_
    refine ⟨(4 : Nat), rfl, by decide, by decide, ?_⟩
    refine for_range (lo := 0) (n := 4) (fun i σ H2 => ∃ (x6 : Option V) (zs : List Str), σ = [some (.int c), some (.str abc), some (.int m), some (.ref lb), some (.int (m / 5 % 5 % ((ds.map V.int).length : Int))), some (.ref l), x6] ∧ Same H1 H2 ∧ H2 l = some (.lst (zs.map V.str)) ∧ zs.length = i ∧ (∀ z ∈ zs, z.length = ds.length ∧ Lower z) ∧ ∀ (a : Nat) (z : Str), zs[a]? = some z → z.cps.toList[at0]? = some (97 + ((ds.getD at0 0 + (a : Int)) % 26).toNat)) ⟨none, [], rfl, (Same.refl H1).upd hl, upd_same, rfl, nofun, nofun⟩ ?_ ?_
    · rintro i σ H2 hi ⟨x6, zs, rfl, s2, hl2, hlen, hzs, hat⟩
      have e2 := s2 _ _ e1
      first | refine wV rfl ?_ | refine ⟨_, rfl, ?_⟩
      refine ⟨.inl ⟨rfl, _, SqL.of hl2⟩, rfl, ?_⟩
      first | refine wV rfl ?_ | refine ⟨_, rfl, ?_⟩
      refine ⟨lb, _, rfl, .inl (SqL.of e2), ?_⟩
      refine ⟨(ds.length : Int), congrArg (fun z : Nat => [V.int (z : Int)]) (List.length_map _), by omega, by omega, ?_⟩
      refine fun lc hlc => ?_
      refine comp_R (n := ds.length) (fun σ => ∃ x, σ = [x, some (.int (m / 5 % 5 % ((ds.map V.int).length : Int))), some (.ref lb), some (.int (0 + (i : Int))), some (.str abc)]) (fun j y H => ∃ c, okC c = true ∧ y = .str (one c) ∧ (j = at0 → c = 97 + ((ds.getD at0 0 + (i : Int)) % 26).toNat)) (fun _ _ _ _ _ z => z) (by omega) hlc ⟨_, rfl⟩ ?_ ?_
      · rintro C j σ H3 hj s3 ⟨x1, rfl⟩ kk
        have hdj : (ds.map V.int)[j]? = some (.int ds[j]) := by rw [List.getElem?_map, List.getElem?_eq_getElem hj]; rfl
        have hdj' : atI (ds.map V.int) (0 + (j : Int)) = some (.int ds[j]) := by rw [Int.zero_add]; exact atI_nat hdj
        first | refine wV rfl ?_ | refine ⟨_, rfl, ?_⟩
        first | refine wV rfl ?_ | refine ⟨_, rfl, ?_⟩
        first | refine wV rfl ?_ | refine ⟨_, rfl, ?_⟩
        refine ⟨lb, _, _, _, rfl, rfl, id (s3 _ _ e2), hdj', _, rfl, _, rfl, _, rfl, rfl, .inr ⟨_, rfl, ?_⟩⟩
        first | refine wI ?_ | refine wIc ?_ | refine ⟨_, _, rfl, rfl, ?_⟩
        refine ⟨.inr ?_, _, _, rfl, rfl, _, _, rfl, rfl, (show (0 : Int) < 26 by decide), ?_⟩
        · split <;> exact ⟨by decide, by decide⟩
        · refine ⟨abc, _, _, rfl, rfl, abc_len, abc_at (Int.emod_nonneg _ (by decide)) (Int.emod_lt_of_pos _ (by decide)), ?_⟩
          refine kk _ _ _ (Same.refl _) ⟨_, rfl⟩ ⟨_, ex_ok (by have := Int.emod_lt_of_pos (ds[j] + (0 + (i : Int)) * (if decide (V.int (0 + (j : Int)) = V.int (m / 5 % 5 % ((ds.map V.int).length : Int))) = true then 1 else 0)) (show (0 : Int) < 26 by decide); omega), rfl, fun ej => ?_⟩
          subst ej
          rw [if_pos (decide_eq_true (by rw [hat0, Int.zero_add])), List.getD_eq_getElem?_getD, List.getElem?_eq_getElem hj, Int.zero_add, Int.mul_one]
          rfl
      · intro H3 ys s3 e3 hyl hyr
        obtain ⟨cs, rfl, hcs⟩ := ones_of fun i y e => let ⟨c, h1, h2, _⟩ := hyr i y e; ⟨c, h1, h2⟩
        rw [List.length_map, List.length_map] at hyl
        obtain ⟨j1, j2⟩ := join_of (cs := cs) (by omega) (by omega)
        refine ⟨"", lc, _, rfl, rfl, SqL.of e3, j1, ?_⟩
        rw [j2]
        have hl3 := s3 _ _ hl2
        refine ⟨l, _, _, rfl, rfl, hl3, small1000 (by rw [List.length_map]; omega), ?_⟩
        refine ⟨_, zs ++ [⟨cs.toArray⟩], rfl, fun b o z => ?_, ?_, by simp [hlen], fun z hz => ?_, fun a z hz => ?_⟩
        · rw [upd_ne (ne_of_none z hl)]
          exact s3 _ _ (s2 b o z)
        · rw [upd_same, List.map_append]
          rfl
        · rcases List.mem_append.mp hz with hz | hz
          · exact hzs z hz
          · simp only [List.mem_cons, List.not_mem_nil, or_false] at hz
            subst hz
            refine ⟨hyl, ?_⟩
            refine fun c hc => ?_
            refine hcs c hc
        · rcases Nat.lt_or_ge a zs.length with ha | ha
          · rw [List.getElem?_append_left ha] at hz
            exact hat a z hz
          · rw [List.getElem?_append_right ha] at hz
            have ea : a - zs.length = 0 := by
              rcases Nat.eq_zero_or_pos (a - zs.length) with h | h
              · exact h
              · rw [List.getElem?_eq_none_iff.mpr (show 1 ≤ a - zs.length by omega)] at hz
                cases hz
            rw [ea] at hz
            cases hz
            have hc0 : at0 < cs.length := by omega
            have hy0 : ((cs.map one).map V.str)[at0]? = some (.str (one cs[at0])) := by rw [List.getElem?_map, List.getElem?_map, List.getElem?_eq_getElem hc0]; rfl
            obtain ⟨c, _, h2, h3⟩ := hyr at0 _ hy0
            have := one_inj h2
            show cs[at0]? = _
            rw [List.getElem?_eq_getElem hc0, this, h3 rfl]
            have : i = a := by omega
            rw [this]
    · rintro σ H2 ⟨x6, zs, rfl, s2, hl2, hlen, hzs, hat⟩
      first | refine wV rfl ?_ | refine ⟨_, rfl, ?_⟩
      refine k l H2 zs (s1.trans s2) ⟨hlen, ?_, ds.length, hd1.1, hd1.2, hzs⟩ hl2
      unfold List.Nodup
      rw [List.pairwise_iff_getElem]
      intro a b ha hb hab e
      have h1 := hat a _ (List.getElem?_eq_getElem ha)
      have h2 := hat b _ (List.getElem?_eq_getElem hb)
      rw [e] at h1
      have := shift_inj (by omega) (by omega) (Option.some.inj (h1.symm.trans h2))
      omega
def fresh (z : Str) (k : Nat) : Str := z ++ one (97 + k % 26) ++ one (97 + k / 26 % 26)
abbrev sFresh : Stmt := top 15
abbrev psFresh : List Str := ["_law_names_here", "_law_k"]
abbrev nFresh : List Str := ["_law_names_here", "_law_k", "_law_letters"]
def spFresh : Sp := fun vs H Q _ => ∃ (l : Addr) (zs : List Str) (z0 : Str) (k : Nat), vs = [.ref l, .int k] ∧ H l = some (.lst (zs.map V.str)) ∧ zs[0]? = some z0 ∧ z0.length ≤ 100 ∧ Q (.str (fresh z0 k)) H
theorem scFresh : FnScope nFresh psFresh (defScope sFresh) := ⟨rfl, rfl, rfl, by decide +kernel, rfl, by decide +kernel, by decide +kernel⟩
theorem okFresh {f : Addr} {fd : FuncData} (D : Fn K mg "_law_fresh" sFresh psFresh f fd) : FnOk P w K mg base CX0 1 f fd psFresh spFresh := by
  refine D.F.ok scFresh (fun vs H Q E h => ?_) (fun cdv A outer s H vs Q E hr h => ?_)
  · obtain ⟨_, _, _, _, rfl, _⟩ := h
    rfl
  · refine Classical.byContradiction fun hG0 => ?_
    obtain ⟨l, zs, z0, k, rfl, hl, hz, hz2, q⟩ := h
    refine hG0 ?_
    clear hG0
    have nd := scFresh.nd
    refine ⟨_, (@pss_cons _ _ _ _ _ (@ps_set _ _ (2) _ _ _ _ nd rfl (Or.inl rfl) pe_str (by rfl) (by first | exact .inl rfl | exact .inr rfl | assumption)) (@pss_one _ _ _ (@ps_ret _ _ _ _ (@pe_op _ _ _ _ _ _ _ _ op_add_str (@pe_op _ _ _ _ _ _ _ _ op_add_str (@pe_ix _ _ _ _ _ _ _ ixL0 (pv 0) pe_int (fun _ _ => rfl)) (@pe_ix _ _ _ _ _ _ _ ix_str (pv 2) (@pe_op _ _ _ _ _ _ _ _ op_mod (pv 1) pe_int) (fun _ _ => rfl))) (@pe_ix _ _ _ _ _ _ _ ix_str (pv 2) (@pe_op _ _ _ _ _ _ _ _ op_mod (@pe_op _ _ _ _ _ _ _ _ op_fdiv (pv 1) pe_int) pe_int) (fun _ _ => rfl)))))), ?_⟩
    have h0 : atI (zs.map V.str) 0 = some (.str z0) := atI_nat (j := 0) (by rw [List.getElem?_map, hz]; rfl)
    first | refine wV rfl ?_ | refine ⟨_, rfl, ?_⟩
    refine ⟨l, _, _, _, rfl, rfl, id hl, h0, _, rfl, _, rfl, _, _, rfl, rfl, (show (0 : Int) < 26 by decide), abc, _, _, rfl, rfl, abc_len, abc_at (Int.emod_nonneg _ (by decide)) (Int.emod_lt_of_pos _ (by decide)), _, _, rfl, rfl, ?_, ?_⟩
    · show z0.length + 1 ≤ sizeLine
      exact Nat.le_trans (show z0.length + 1 ≤ 101 by omega) (by decide)
    · first | refine wV rfl ?_ | refine ⟨_, rfl, ?_⟩
      first | refine wV rfl ?_ | refine ⟨_, rfl, ?_⟩
      first | refine wC ⟨by decide, by decide⟩ ?_ | refine wCc ⟨by decide, by decide⟩ ?_ | refine ⟨_, _, rfl, rfl, ⟨by decide, by decide⟩, ?_⟩
      first | refine wC (show (0 : Int) < 26 by decide) ?_ | refine wCc (show (0 : Int) < 26 by decide) ?_ | refine ⟨_, _, rfl, rfl, (show (0 : Int) < 26 by decide), ?_⟩
      refine ⟨abc, _, _, rfl, rfl, abc_len, abc_at (Int.emod_nonneg _ (by decide)) (Int.emod_lt_of_pos _ (by decide)), _, _, rfl, rfl, ?_, ?_⟩
      · have e : (z0 ++ (⟨#[97 + ((k : Int) % 26).toNat]⟩ : Str)).length = z0.length + 1 := by show (z0.cps ++ #[_]).size = _; rw [Array.size_append]; rfl
        rw [e]
        show z0.length + 1 + 1 ≤ sizeLine
        exact Nat.le_trans (show z0.length + 1 + 1 ≤ 102 by omega) (by decide)
      · have e1 : ((k : Int) % 26).toNat = k % 26 := by omega
        have e2 : ((k : Int) / 26 % 26).toNat = k / 26 % 26 := by omega
        rw [e1, e2]
        exact q
theorem cps_cat (a b : Str) : (a ++ b).cps.toList = a.cps.toList ++ b.cps.toList := Array.toList_append
theorem len_cat (a b : Str) : (a ++ b).length = a.length + b.length := Array.size_append
theorem len_fresh (z : Str) (k : Nat) : (fresh z k).length = z.length + 2 := by
  unfold fresh
  rw [len_cat, len_cat]
  rfl
theorem fresh_ne {z : Str} {k j : Nat} (hk : k < 676) (hj : j < 676) (e : fresh z k = fresh z j) : k = j := by
  have h := congrArg (fun s : Str => s.cps.toList) e
  simp only [fresh, cps_cat] at h
  rw [List.append_assoc, List.append_assoc] at h
  have h2 := List.append_cancel_left h
  simp only [one, List.cons_append, List.nil_append, List.cons.injEq, and_true] at h2
  have h3 : 97 + k % 26 = 97 + j % 26 ∧ 97 + k / 26 % 26 = 97 + j / 26 % 26 := h2
  omega
end
end VK
namespace VK
open PySem PySem.Spec PyProof.Rows L2
section
variable {P : Program} {w : World} {K : PySem.W.Frag} {mg : Str → Option Value} {base : Heap}
theorem Parts.nil {R : V → List Int → Int → Prop} : Parts R [] [] := ⟨nofun, .nil⟩
theorem Parts.int {R : V → List Int → Int → Prop} {i : Int} {xs : List V} {q : List PS'} (h : Parts R xs q) : Parts R (.int i :: xs) q := ⟨fun v hv => by
  rcases List.mem_cons.mp hv with rfl | hv
  · exact .inr ⟨i, rfl⟩
  · exact h.1 v hv, h.2⟩
theorem Parts.ref {R : V → List Int → Int → Prop} {t : Addr} {p : List Int} {s : Int} {xs : List V} {q : List PS'} (r : R (.ref t) p s) (h : Parts R xs q) : Parts R (.ref t :: xs) ((p, s) :: q) := ⟨fun v hv => by
  rcases List.mem_cons.mp hv with rfl | hv
  · exact .inl rfl
  · exact h.1 v hv, .cons r h.2⟩
theorem Tr.mk {n : Nat} {H : Hp} {t : Addr} {w : Str} {xs : List V} {q : List PS'} (h : H t = some (.tup (.str w :: xs))) (hp : Parts (Tr n H) xs q) (hw : w ≠ "at" := by decide +kernel) (hl : Nat.ble xs.length 12 = true := by rfl) : Tr (n + 1) H (.ref t) (flat q) (1 + tot q) := ⟨t, w, xs, rfl, h, Nat.le_of_ble_eq_true hl, q, hp, rfl, .inr ⟨hw, rfl⟩⟩
theorem Tr.at {n : Nat} {H : Hp} {t : Addr} {p : Int} (h : H t = some (.tup [.str "at", .int p])) : Tr (n + 1) H (.ref t) [p] 1 := ⟨t, "at", [.int p], rfl, h, Nat.le_of_ble_eq_true rfl, [], Parts.nil.int, rfl, .inl ⟨rfl, p, rfl, rfl⟩⟩
theorem l4 {n : Nat} (h : Nat.ble n 16 = true) : n ≤ sizeLine := Nat.le_trans (Nat.le_of_ble_eq_true h) (by decide)
def Term (H : Hp) (t : Addr) (w : Int) : Prop := ∃ u ps sz, H t = some (.tup [u, .int sz]) ∧ Tr 4 H u ps sz ∧ ∀ p ∈ ps, p < w
theorem Term.mk {H : Hp} {t : Addr} {w sz s : Int} {u : V} {ps : List Int} (h : H t = some (.tup [u, .int sz])) (hT : Tr 4 H u ps s) (e : s = sz) (hp : ∀ p ∈ ps, p < w) : Term H t w := ⟨u, ps, sz, h, e ▸ hT, hp⟩
theorem Term.same {H H' : Hp} (e : SameT H H') {t : Addr} {w : Int} : Term H t w → Term H' t w := fun ⟨u, ps, sz, h1, h2, h3⟩ => ⟨u, ps, sz, e _ _ h1, h2.sameT e, h3⟩
abbrev psTerm : List Str := ["_law_number", "_law_wide_here"]
abbrev nTerm : List Str := ["_law_number", "_law_wide_here", "_law_first", "_law_other"]
def spTerm : Sp := fun vs H Q _ => ∃ n w : Int, vs = [.int n, .int w] ∧ 0 < w ∧ ∀ t H', Same H H' → Term H' t w → Q (.ref t) H'
abbrev sTerm : Stmt := top 16
theorem scTerm : FnScope nTerm psTerm (defScope sTerm) := ⟨rfl, rfl, rfl, by decide +kernel, rfl, by decide +kernel, by decide +kernel⟩
abbrev sAsked : Stmt := top 17
theorem scAsked : FnScope nTerm psTerm (defScope sAsked) := ⟨rfl, rfl, rfl, by decide +kernel, rfl, by decide +kernel, by decide +kernel⟩
theorem flat_nil {w : Int} : ∀ p ∈ flat [], p < w := nofun
theorem flat_cons {w : Int} {a : List Int} {s : Int} {q : List PS'} (h : ∀ p ∈ a, p < w) (hq : ∀ p ∈ flat q, p < w) : ∀ p ∈ flat ((a, s) :: q), p < w := fun p hp => by
  have e : flat ((a, s) :: q) = a ++ flat q := rfl
  rw [e] at hp
  rcases List.mem_append.mp hp with hp | hp
  · exact h p hp
  · exact hq p hp
theorem in1 {w a : Int} (h : a < w) : ∀ p ∈ [a], p < w := fun p hp => by
  simp only [List.mem_cons, List.not_mem_nil, or_false] at hp
  subst hp
  exact h
theorem okTerm {f : Addr} {fd : FuncData} (D : Fn K mg "_law_term" sTerm psTerm f fd) : FnOk P w K mg base CX0 1 f fd psTerm spTerm := by
  refine D.F.ok scTerm (fun vs H Q E h => ?_) (fun cdv A outer s H vs Q E hr h => ?_)
  · obtain ⟨_, _, rfl, _⟩ := h
    rfl
  · refine Classical.byContradiction fun hG0 => ?_
    obtain ⟨n, w', rfl, hw, k⟩ := h
    refine hG0 ?_
    clear hG0
    have nd := scTerm.nd
    refine ⟨_, (@pss_cons _ _ _ _ _ (@ps_set _ _ (2) _ _ _ _ nd rfl (Or.inl rfl) (@pe_tupS _ _ _ _ _ (@pa_cons _ _ _ _ _ pe_str (@pa_cons _ _ _ _ _ (@pe_op _ _ _ _ _ _ _ _ op_mod (@pe_op _ _ _ _ _ _ _ _ op_fdiv (pv 0) pe_int) (pv 1)) pa_nil (by rfl)) (by rfl))) (by rfl) (by first | exact .inl rfl | exact .inr rfl | assumption)) (@pss_cons _ _ _ _ _ (@ps_set _ _ (3) _ _ _ _ nd rfl (Or.inl rfl) (@pe_tupS _ _ _ _ _ (@pa_cons _ _ _ _ _ pe_str (@pa_cons _ _ _ _ _ (@pe_op _ _ _ _ _ _ _ _ op_mod (@pe_op _ _ _ _ _ _ _ _ op_fdiv (pv 0) pe_int) (pv 1)) pa_nil (by rfl)) (by rfl))) (by rfl) (by first | exact .inl rfl | exact .inr rfl | assumption)) (@pss_cons _ _ _ _ _ (@ps_if _ _ _ _ _ _ _ _ (@pt_cmpR _ _ _ _ _ _ _ _ op_eq (@pe_op _ _ _ _ _ _ _ _ op_mod (pv 0) pe_int) pe_int (nomark _)) (@pss_one _ _ _ (@ps_ret _ _ _ _ (@pe_tupS _ _ _ _ _ (@pa_cons _ _ _ _ _ (@pe_tupS _ _ _ _ _ (@pa_cons _ _ _ _ _ pe_str (@pa_cons _ _ _ _ _ (@pe_op _ _ _ _ _ _ _ _ op_sub (@pe_op _ _ _ _ _ _ _ _ op_mod (pv 0) (@pe_op _ _ _ _ _ _ _ _ op_pow pe_int pe_int)) (@pe_op _ _ _ _ _ _ _ _ op_mod (@pe_op _ _ _ _ _ _ _ _ op_fdiv (pv 0) pe_int) (@pe_op _ _ _ _ _ _ _ _ op_pow pe_int pe_int))) pa_nil (by rfl)) (by rfl))) (@pa_cons _ _ _ _ _ pe_int pa_nil (by rfl)) (by rfl))))) pss_nil) (@pss_cons _ _ _ _ _ (@ps_if _ _ _ _ _ _ _ _ (@pt_cmpR _ _ _ _ _ _ _ _ op_eq (@pe_op _ _ _ _ _ _ _ _ op_mod (pv 0) pe_int) pe_int (nomark _)) (@pss_one _ _ _ (@ps_ret _ _ _ _ (@pe_tupS _ _ _ _ _ (@pa_cons _ _ _ _ _ (@pe_tupS _ _ _ _ _ (@pa_cons _ _ _ _ _ pe_str pa_nil (by rfl))) (@pa_cons _ _ _ _ _ pe_int pa_nil (by rfl)) (by rfl))))) pss_nil) (@pss_cons _ _ _ _ _ (@ps_if _ _ _ _ _ _ _ _ (@pt_cmpR _ _ _ _ _ _ _ _ op_eq (@pe_op _ _ _ _ _ _ _ _ op_mod (pv 0) pe_int) pe_int (nomark _)) (@pss_one _ _ _ (@ps_ret _ _ _ _ (@pe_tupS _ _ _ _ _ (@pa_cons _ _ _ _ _ (@pe_tupS _ _ _ _ _ (@pa_cons _ _ _ _ _ pe_str (@pa_cons _ _ _ _ _ pe_int (@pa_cons _ _ _ _ _ (pv 2) pa_nil (by rfl)) (by rfl)) (by rfl))) (@pa_cons _ _ _ _ _ pe_int pa_nil (by rfl)) (by rfl))))) pss_nil) (@pss_cons _ _ _ _ _ (@ps_if _ _ _ _ _ _ _ _ (@pt_cmpR _ _ _ _ _ _ _ _ op_eq (@pe_op _ _ _ _ _ _ _ _ op_mod (pv 0) pe_int) pe_int (nomark _)) (@pss_one _ _ _ (@ps_ret _ _ _ _ (@pe_tupS _ _ _ _ _ (@pa_cons _ _ _ _ _ (@pe_tupS _ _ _ _ _ (@pa_cons _ _ _ _ _ pe_str (@pa_cons _ _ _ _ _ (pv 2) (@pa_cons _ _ _ _ _ (@pe_tupS _ _ _ _ _ (@pa_cons _ _ _ _ _ pe_str (@pa_cons _ _ _ _ _ (pv 3) (@pa_cons _ _ _ _ _ (@pe_tupS _ _ _ _ _ (@pa_cons _ _ _ _ _ pe_str (@pa_cons _ _ _ _ _ pe_int pa_nil (by rfl)) (by rfl))) pa_nil (by rfl)) (by rfl)) (by rfl))) pa_nil (by rfl)) (by rfl)) (by rfl))) (@pa_cons _ _ _ _ _ pe_int pa_nil (by rfl)) (by rfl))))) pss_nil) (@pss_cons _ _ _ _ _ (@ps_if _ _ _ _ _ _ _ _ (@pt_cmpR _ _ _ _ _ _ _ _ op_eq (@pe_op _ _ _ _ _ _ _ _ op_mod (pv 0) pe_int) pe_int (nomark _)) (@pss_one _ _ _ (@ps_ret _ _ _ _ (@pe_tupS _ _ _ _ _ (@pa_cons _ _ _ _ _ (@pe_tupS _ _ _ _ _ (@pa_cons _ _ _ _ _ pe_str (@pa_cons _ _ _ _ _ (@pe_tupS _ _ _ _ _ (@pa_cons _ _ _ _ _ pe_str (@pa_cons _ _ _ _ _ (@pe_tupS _ _ _ _ _ (@pa_cons _ _ _ _ _ pe_str (@pa_cons _ _ _ _ _ (pv 2) (@pa_cons _ _ _ _ _ (@pe_tupS _ _ _ _ _ (@pa_cons _ _ _ _ _ pe_str pa_nil (by rfl))) pa_nil (by rfl)) (by rfl)) (by rfl))) pa_nil (by rfl)) (by rfl))) (@pa_cons _ _ _ _ _ (pv 3) (@pa_cons _ _ _ _ _ (@pe_tupS _ _ _ _ _ (@pa_cons _ _ _ _ _ pe_str (@pa_cons _ _ _ _ _ pe_int (@pa_cons _ _ _ _ _ (pv 2) pa_nil (by rfl)) (by rfl)) (by rfl))) pa_nil (by rfl)) (by rfl)) (by rfl)) (by rfl))) (@pa_cons _ _ _ _ _ pe_int pa_nil (by rfl)) (by rfl))))) pss_nil) (@pss_one _ _ _ (@ps_ret _ _ _ _ (@pe_tupS _ _ _ _ _ (@pa_cons _ _ _ _ _ (pv 2) (@pa_cons _ _ _ _ _ pe_int pa_nil (by rfl)) (by rfl)))))))))))), ?_⟩
    first | refine wV rfl ?_ | refine ⟨_, rfl, ?_⟩
    first | refine wC ⟨by decide, by decide⟩ ?_ | refine wCc ⟨by decide, by decide⟩ ?_ | refine ⟨_, _, rfl, rfl, ⟨by decide, by decide⟩, ?_⟩
    first | refine wV rfl ?_ | refine ⟨_, rfl, ?_⟩
    first | refine wC hw ?_ | refine wCc hw ?_ | refine ⟨_, _, rfl, rfl, hw, ?_⟩
    refine ⟨l4 rfl, ?_⟩
    refine fun t1 H1 s1 e1 => ?_
    first | refine wV rfl ?_ | refine ⟨_, rfl, ?_⟩
    first | refine wC ⟨by decide, by decide⟩ ?_ | refine wCc ⟨by decide, by decide⟩ ?_ | refine ⟨_, _, rfl, rfl, ⟨by decide, by decide⟩, ?_⟩
    first | refine wV rfl ?_ | refine ⟨_, rfl, ?_⟩
    first | refine wC hw ?_ | refine wCc hw ?_ | refine ⟨_, _, rfl, rfl, hw, ?_⟩
    refine ⟨l4 rfl, ?_⟩
    refine fun t2 H2 s2 e2 => ?_
    have pA := Int.emod_lt_of_pos (n / 6) hw
    have pB := Int.emod_lt_of_pos (n / 72) hw
    first | refine wV rfl ?_ | refine ⟨_, rfl, ?_⟩
    first | refine wC (show (0 : Int) < 6 by decide) ?_ | refine wCc (show (0 : Int) < 6 by decide) ?_ | refine ⟨_, _, rfl, rfl, (show (0 : Int) < 6 by decide), ?_⟩
    refine ⟨rfl, ?_⟩
    first | refine wV rfl ?_ | refine ⟨_, rfl, ?_⟩
    refine ite2 (fun _ => ?_) (fun _ => ?_)
    · first | refine wV rfl ?_ | refine ⟨_, rfl, ?_⟩
      first | refine wC (c10 (by decide) (by decide) (by decide)) ?_ | refine wCc (c10 (by decide) (by decide) (by decide)) ?_ | refine ⟨_, _, rfl, rfl, c10 (by decide) (by decide) (by decide), ?_⟩
      first | refine wC p30 ?_ | refine wCc p30 ?_ | refine ⟨_, _, rfl, rfl, p30, ?_⟩
      first | refine wV rfl ?_ | refine ⟨_, rfl, ?_⟩
      first | refine wC ⟨by decide, by decide⟩ ?_ | refine wCc ⟨by decide, by decide⟩ ?_ | refine ⟨_, _, rfl, rfl, ⟨by decide, by decide⟩, ?_⟩
      first | refine wC (c10 (by decide) (by decide) (by decide)) ?_ | refine wCc (c10 (by decide) (by decide) (by decide)) ?_ | refine ⟨_, _, rfl, rfl, c10 (by decide) (by decide) (by decide), ?_⟩
      first | refine wC (show (0 : Int) < 10 ^ (29 : Int).toNat by decide +kernel) ?_ | refine wCc (show (0 : Int) < 10 ^ (29 : Int).toNat by decide +kernel) ?_ | refine ⟨_, _, rfl, rfl, (show (0 : Int) < 10 ^ (29 : Int).toNat by decide +kernel), ?_⟩
      first | refine wI ?_ | refine wIc ?_ | refine ⟨_, _, rfl, rfl, ?_⟩
      refine ⟨l4 rfl, ?_⟩
      refine fun x1 K1 c1 d1 => ?_
      refine ⟨l4 rfl, ?_⟩
      refine fun r Hr cr dr => ?_
      exact k r Hr ((s1.trans s2).trans (c1.trans cr)) (Term.mk dr (Tr.mk (cr _ _ d1) (Parts.nil).int) rfl flat_nil)
    first | refine wV rfl ?_ | refine ⟨_, rfl, ?_⟩
    first | refine wC (show (0 : Int) < 6 by decide) ?_ | refine wCc (show (0 : Int) < 6 by decide) ?_ | refine ⟨_, _, rfl, rfl, (show (0 : Int) < 6 by decide), ?_⟩
    refine ⟨rfl, ?_⟩
    first | refine wV rfl ?_ | refine ⟨_, rfl, ?_⟩
    refine ite2 (fun _ => ?_) (fun _ => ?_)
    · refine ⟨l4 rfl, ?_⟩
      refine fun x1 K1 c1 d1 => ?_
      refine ⟨l4 rfl, ?_⟩
      refine fun r Hr cr dr => ?_
      exact k r Hr ((s1.trans s2).trans (c1.trans cr)) (Term.mk dr (Tr.mk (cr _ _ d1) Parts.nil) rfl flat_nil)
    first | refine wV rfl ?_ | refine ⟨_, rfl, ?_⟩
    first | refine wC (show (0 : Int) < 6 by decide) ?_ | refine wCc (show (0 : Int) < 6 by decide) ?_ | refine ⟨_, _, rfl, rfl, (show (0 : Int) < 6 by decide), ?_⟩
    refine ⟨rfl, ?_⟩
    first | refine wV rfl ?_ | refine ⟨_, rfl, ?_⟩
    refine ite2 (fun _ => ?_) (fun _ => ?_)
    · first | refine wV rfl ?_ | refine ⟨_, rfl, ?_⟩
      refine ⟨l4 rfl, ?_⟩
      refine fun x1 K1 c1 d1 => ?_
      refine ⟨l4 rfl, ?_⟩
      refine fun r Hr cr dr => ?_
      have g1 := cr _ _ d1
      have gA := cr _ _ (c1 _ _ (s2 _ _ e1))
      have gB := cr _ _ (c1 _ _ e2)
      exact k r Hr (((s1.trans s2).trans c1).trans cr) (Term.mk dr (Tr.mk g1 ((Parts.ref (Tr.at gA) Parts.nil)).int) rfl (flat_cons (in1 pA) flat_nil))
    first | refine wV rfl ?_ | refine ⟨_, rfl, ?_⟩
    first | refine wC (show (0 : Int) < 6 by decide) ?_ | refine wCc (show (0 : Int) < 6 by decide) ?_ | refine ⟨_, _, rfl, rfl, (show (0 : Int) < 6 by decide), ?_⟩
    refine ⟨rfl, ?_⟩
    first | refine wV rfl ?_ | refine ⟨_, rfl, ?_⟩
    refine ite2 (fun _ => ?_) (fun _ => ?_)
    · first | refine wV rfl ?_ | refine ⟨_, rfl, ?_⟩
      first | refine wV rfl ?_ | refine ⟨_, rfl, ?_⟩
      refine ⟨l4 rfl, ?_⟩
      refine fun x1 K1 c1 d1 => ?_
      refine ⟨l4 rfl, ?_⟩
      refine fun x2 K2 c2 d2 => ?_
      refine ⟨l4 rfl, ?_⟩
      refine fun x3 K3 c3 d3 => ?_
      refine ⟨l4 rfl, ?_⟩
      refine fun r Hr cr dr => ?_
      have g1 := cr _ _ (c3 _ _ (c2 _ _ d1))
      have g2 := cr _ _ (c3 _ _ d2)
      have g3 := cr _ _ d3
      have gA := cr _ _ (c3 _ _ (c2 _ _ (c1 _ _ (s2 _ _ e1))))
      have gB := cr _ _ (c3 _ _ (c2 _ _ (c1 _ _ e2)))
      exact k r Hr (((((s1.trans s2).trans c1).trans c2).trans c3).trans cr) (Term.mk dr (Tr.mk g3 (Parts.ref (Tr.at gA) (Parts.ref (Tr.mk g2 (Parts.ref (Tr.at gB) (Parts.ref (Tr.mk g1 (Parts.nil).int) Parts.nil))) Parts.nil))) rfl (flat_cons (in1 pA) (flat_cons (flat_cons (in1 pB) (flat_cons flat_nil flat_nil)) flat_nil)))
    first | refine wV rfl ?_ | refine ⟨_, rfl, ?_⟩
    first | refine wC (show (0 : Int) < 6 by decide) ?_ | refine wCc (show (0 : Int) < 6 by decide) ?_ | refine ⟨_, _, rfl, rfl, (show (0 : Int) < 6 by decide), ?_⟩
    refine ⟨rfl, ?_⟩
    first | refine wV rfl ?_ | refine ⟨_, rfl, ?_⟩
    refine ite2 (fun _ => ?_) (fun _ => ?_)
    · first | refine wV rfl ?_ | refine ⟨_, rfl, ?_⟩
      refine ⟨l4 rfl, ?_⟩
      refine fun x1 K1 c1 d1 => ?_
      refine ⟨l4 rfl, ?_⟩
      refine fun x2 K2 c2 d2 => ?_
      refine ⟨l4 rfl, ?_⟩
      refine fun x3 K3 c3 d3 => ?_
      first | refine wV rfl ?_ | refine ⟨_, rfl, ?_⟩
      first | refine wV rfl ?_ | refine ⟨_, rfl, ?_⟩
      refine ⟨l4 rfl, ?_⟩
      refine fun x4 K4 c4 d4 => ?_
      refine ⟨l4 rfl, ?_⟩
      refine fun x5 K5 c5 d5 => ?_
      refine ⟨l4 rfl, ?_⟩
      refine fun r Hr cr dr => ?_
      have g1 := cr _ _ (c5 _ _ (c4 _ _ (c3 _ _ (c2 _ _ d1))))
      have g2 := cr _ _ (c5 _ _ (c4 _ _ (c3 _ _ d2)))
      have g3 := cr _ _ (c5 _ _ (c4 _ _ d3))
      have g4 := cr _ _ (c5 _ _ d4)
      have g5 := cr _ _ d5
      have gA := cr _ _ (c5 _ _ (c4 _ _ (c3 _ _ (c2 _ _ (c1 _ _ (s2 _ _ e1))))))
      have gB := cr _ _ (c5 _ _ (c4 _ _ (c3 _ _ (c2 _ _ (c1 _ _ e2)))))
      exact k r Hr (((((((s1.trans s2).trans c1).trans c2).trans c3).trans c4).trans c5).trans cr) (Term.mk dr (Tr.mk g5 (Parts.ref (Tr.mk g3 (Parts.ref (Tr.mk g2 (Parts.ref (Tr.at gA) (Parts.ref (Tr.mk g1 Parts.nil) Parts.nil))) Parts.nil)) (Parts.ref (Tr.at gB) (Parts.ref (Tr.mk g4 ((Parts.ref (Tr.at gA) Parts.nil)).int) Parts.nil)))) rfl (flat_cons (flat_cons (flat_cons (in1 pA) (flat_cons flat_nil flat_nil)) flat_nil) (flat_cons (in1 pB) (flat_cons (flat_cons (in1 pA) flat_nil) flat_nil))))
    first | refine wV rfl ?_ | refine ⟨_, rfl, ?_⟩
    refine ⟨l4 rfl, ?_⟩
    refine fun r Hr cr dr => ?_
    exact k r Hr ((s1.trans s2).trans cr) (Term.mk dr (Tr.at (cr _ _ (s2 _ _ e1))) rfl (in1 pA))
theorem okAsked {f : Addr} {fd : FuncData} (D : Fn K mg "_law_asked" sAsked psTerm f fd) : FnOk P w K mg base CX0 1 f fd psTerm spTerm := by
  refine D.F.ok scAsked (fun vs H Q E h => ?_) (fun cdv A outer s H vs Q E hr h => ?_)
  · obtain ⟨_, _, rfl, _⟩ := h
    rfl
  · refine Classical.byContradiction fun hG0 => ?_
    obtain ⟨n, w', rfl, hw, k⟩ := h
    refine hG0 ?_
    clear hG0
    have nd := scAsked.nd
    refine ⟨_, (@pss_cons _ _ _ _ _ (@ps_set _ _ (2) _ _ _ _ nd rfl (Or.inl rfl) (@pe_tupS _ _ _ _ _ (@pa_cons _ _ _ _ _ pe_str (@pa_cons _ _ _ _ _ (@pe_op _ _ _ _ _ _ _ _ op_mod (@pe_op _ _ _ _ _ _ _ _ op_fdiv (pv 0) pe_int) (pv 1)) pa_nil (by rfl)) (by rfl))) (by rfl) (by first | exact .inl rfl | exact .inr rfl | assumption)) (@pss_cons _ _ _ _ _ (@ps_set _ _ (3) _ _ _ _ nd rfl (Or.inl rfl) (@pe_tupS _ _ _ _ _ (@pa_cons _ _ _ _ _ pe_str (@pa_cons _ _ _ _ _ (@pe_op _ _ _ _ _ _ _ _ op_mod (@pe_op _ _ _ _ _ _ _ _ op_fdiv (pv 0) pe_int) (pv 1)) pa_nil (by rfl)) (by rfl))) (by rfl) (by first | exact .inl rfl | exact .inr rfl | assumption)) (@pss_cons _ _ _ _ _ (@ps_if _ _ _ _ _ _ _ _ (@pt_cmpR _ _ _ _ _ _ _ _ op_eq (@pe_op _ _ _ _ _ _ _ _ op_mod (pv 0) pe_int) pe_int (nomark _)) (@pss_one _ _ _ (@ps_ret _ _ _ _ (@pe_tupS _ _ _ _ _ (@pa_cons _ _ _ _ _ (@pe_tupS _ _ _ _ _ (@pa_cons _ _ _ _ _ pe_str (@pa_cons _ _ _ _ _ (@pe_tupS _ _ _ _ _ (@pa_cons _ _ _ _ _ pe_str (@pa_cons _ _ _ _ _ (@pe_tupS _ _ _ _ _ (@pa_cons _ _ _ _ _ pe_str (@pa_cons _ _ _ _ _ (pv 2) (@pa_cons _ _ _ _ _ (@pe_tupS _ _ _ _ _ (@pa_cons _ _ _ _ _ pe_str (@pa_cons _ _ _ _ _ pe_int pa_nil (by rfl)) (by rfl))) pa_nil (by rfl)) (by rfl)) (by rfl))) pa_nil (by rfl)) (by rfl))) (@pa_cons _ _ _ _ _ (@pe_tupS _ _ _ _ _ (@pa_cons _ _ _ _ _ pe_str (@pa_cons _ _ _ _ _ (pv 3) (@pa_cons _ _ _ _ _ (@pe_tupS _ _ _ _ _ (@pa_cons _ _ _ _ _ pe_str pa_nil (by rfl))) pa_nil (by rfl)) (by rfl)) (by rfl))) pa_nil (by rfl)) (by rfl)) (by rfl))) (@pa_cons _ _ _ _ _ pe_int pa_nil (by rfl)) (by rfl))))) pss_nil) (@pss_cons _ _ _ _ _ (@ps_if _ _ _ _ _ _ _ _ (@pt_cmpR _ _ _ _ _ _ _ _ op_eq (@pe_op _ _ _ _ _ _ _ _ op_mod (pv 0) pe_int) pe_int (nomark _)) (@pss_one _ _ _ (@ps_ret _ _ _ _ (@pe_tupS _ _ _ _ _ (@pa_cons _ _ _ _ _ (@pe_tupS _ _ _ _ _ (@pa_cons _ _ _ _ _ pe_str (@pa_cons _ _ _ _ _ (@pe_tupS _ _ _ _ _ (@pa_cons _ _ _ _ _ pe_str (@pa_cons _ _ _ _ _ (@pe_tupS _ _ _ _ _ (@pa_cons _ _ _ _ _ pe_str (@pa_cons _ _ _ _ _ pe_int (@pa_cons _ _ _ _ _ (pv 2) pa_nil (by rfl)) (by rfl)) (by rfl))) (@pa_cons _ _ _ _ _ (pv 3) pa_nil (by rfl)) (by rfl)) (by rfl))) (@pa_cons _ _ _ _ _ (@pe_tupS _ _ _ _ _ (@pa_cons _ _ _ _ _ pe_str (@pa_cons _ _ _ _ _ (pv 3) (@pa_cons _ _ _ _ _ (pv 2) pa_nil (by rfl)) (by rfl)) (by rfl))) pa_nil (by rfl)) (by rfl)) (by rfl))) (@pa_cons _ _ _ _ _ pe_int pa_nil (by rfl)) (by rfl))))) pss_nil) (@pss_one _ _ _ (@ps_ret _ _ _ _ (@pe_tupS _ _ _ _ _ (@pa_cons _ _ _ _ _ (@pe_tupS _ _ _ _ _ (@pa_cons _ _ _ _ _ pe_str (@pa_cons _ _ _ _ _ (pv 2) (@pa_cons _ _ _ _ _ (pv 3) pa_nil (by rfl)) (by rfl)) (by rfl))) (@pa_cons _ _ _ _ _ pe_int pa_nil (by rfl)) (by rfl))))))))), ?_⟩
    first | refine wV rfl ?_ | refine ⟨_, rfl, ?_⟩
    first | refine wC ⟨by decide, by decide⟩ ?_ | refine wCc ⟨by decide, by decide⟩ ?_ | refine ⟨_, _, rfl, rfl, ⟨by decide, by decide⟩, ?_⟩
    first | refine wV rfl ?_ | refine ⟨_, rfl, ?_⟩
    first | refine wC hw ?_ | refine wCc hw ?_ | refine ⟨_, _, rfl, rfl, hw, ?_⟩
    refine ⟨l4 rfl, ?_⟩
    refine fun t1 H1 s1 e1 => ?_
    first | refine wV rfl ?_ | refine ⟨_, rfl, ?_⟩
    first | refine wC ⟨by decide, by decide⟩ ?_ | refine wCc ⟨by decide, by decide⟩ ?_ | refine ⟨_, _, rfl, rfl, ⟨by decide, by decide⟩, ?_⟩
    first | refine wV rfl ?_ | refine ⟨_, rfl, ?_⟩
    first | refine wC hw ?_ | refine wCc hw ?_ | refine ⟨_, _, rfl, rfl, hw, ?_⟩
    refine ⟨l4 rfl, ?_⟩
    refine fun t2 H2 s2 e2 => ?_
    have pA := Int.emod_lt_of_pos (n / 3) hw
    have pB := Int.emod_lt_of_pos (n / 36) hw
    first | refine wV rfl ?_ | refine ⟨_, rfl, ?_⟩
    first | refine wC (show (0 : Int) < 3 by decide) ?_ | refine wCc (show (0 : Int) < 3 by decide) ?_ | refine ⟨_, _, rfl, rfl, (show (0 : Int) < 3 by decide), ?_⟩
    refine ⟨rfl, ?_⟩
    first | refine wV rfl ?_ | refine ⟨_, rfl, ?_⟩
    refine ite2 (fun _ => ?_) (fun _ => ?_)
    · first | refine wV rfl ?_ | refine ⟨_, rfl, ?_⟩
      refine ⟨l4 rfl, ?_⟩
      refine fun x1 K1 c1 d1 => ?_
      refine ⟨l4 rfl, ?_⟩
      refine fun x2 K2 c2 d2 => ?_
      refine ⟨l4 rfl, ?_⟩
      refine fun x3 K3 c3 d3 => ?_
      first | refine wV rfl ?_ | refine ⟨_, rfl, ?_⟩
      refine ⟨l4 rfl, ?_⟩
      refine fun x4 K4 c4 d4 => ?_
      refine ⟨l4 rfl, ?_⟩
      refine fun x5 K5 c5 d5 => ?_
      refine ⟨l4 rfl, ?_⟩
      refine fun x6 K6 c6 d6 => ?_
      refine ⟨l4 rfl, ?_⟩
      refine fun r Hr cr dr => ?_
      have g1 := cr _ _ (c6 _ _ (c5 _ _ (c4 _ _ (c3 _ _ (c2 _ _ d1)))))
      have g2 := cr _ _ (c6 _ _ (c5 _ _ (c4 _ _ (c3 _ _ d2))))
      have g3 := cr _ _ (c6 _ _ (c5 _ _ (c4 _ _ d3)))
      have g4 := cr _ _ (c6 _ _ (c5 _ _ d4))
      have g5 := cr _ _ (c6 _ _ d5)
      have g6 := cr _ _ d6
      have gA := cr _ _ (c6 _ _ (c5 _ _ (c4 _ _ (c3 _ _ (c2 _ _ (c1 _ _ (s2 _ _ e1)))))))
      have gB := cr _ _ (c6 _ _ (c5 _ _ (c4 _ _ (c3 _ _ (c2 _ _ (c1 _ _ e2))))))
      exact k r Hr ((((((((s1.trans s2).trans c1).trans c2).trans c3).trans c4).trans c5).trans c6).trans cr) (Term.mk dr (Tr.mk g6 (Parts.ref (Tr.mk g3 (Parts.ref (Tr.mk g2 (Parts.ref (Tr.at gA) (Parts.ref (Tr.mk g1 (Parts.nil).int) Parts.nil))) Parts.nil)) (Parts.ref (Tr.mk g5 (Parts.ref (Tr.at gB) (Parts.ref (Tr.mk g4 Parts.nil) Parts.nil))) Parts.nil))) rfl (flat_cons (flat_cons (flat_cons (in1 pA) (flat_cons flat_nil flat_nil)) flat_nil) (flat_cons (flat_cons (in1 pB) (flat_cons flat_nil flat_nil)) flat_nil)))
    first | refine wV rfl ?_ | refine ⟨_, rfl, ?_⟩
    first | refine wC (show (0 : Int) < 3 by decide) ?_ | refine wCc (show (0 : Int) < 3 by decide) ?_ | refine ⟨_, _, rfl, rfl, (show (0 : Int) < 3 by decide), ?_⟩
    refine ⟨rfl, ?_⟩
    first | refine wV rfl ?_ | refine ⟨_, rfl, ?_⟩
    refine ite2 (fun _ => ?_) (fun _ => ?_)
    · first | refine wV rfl ?_ | refine ⟨_, rfl, ?_⟩
      refine ⟨l4 rfl, ?_⟩
      refine fun x1 K1 c1 d1 => ?_
      first | refine wV rfl ?_ | refine ⟨_, rfl, ?_⟩
      refine ⟨l4 rfl, ?_⟩
      refine fun x2 K2 c2 d2 => ?_
      first | refine wV rfl ?_ | refine ⟨_, rfl, ?_⟩
      first | refine wV rfl ?_ | refine ⟨_, rfl, ?_⟩
      refine ⟨l4 rfl, ?_⟩
      refine fun x3 K3 c3 d3 => ?_
      refine ⟨l4 rfl, ?_⟩
      refine fun x4 K4 c4 d4 => ?_
      refine ⟨l4 rfl, ?_⟩
      refine fun r Hr cr dr => ?_
      have g1 := cr _ _ (c4 _ _ (c3 _ _ (c2 _ _ d1)))
      have g2 := cr _ _ (c4 _ _ (c3 _ _ d2))
      have g3 := cr _ _ (c4 _ _ d3)
      have g4 := cr _ _ d4
      have gA := cr _ _ (c4 _ _ (c3 _ _ (c2 _ _ (c1 _ _ (s2 _ _ e1)))))
      have gB := cr _ _ (c4 _ _ (c3 _ _ (c2 _ _ (c1 _ _ e2))))
      exact k r Hr ((((((s1.trans s2).trans c1).trans c2).trans c3).trans c4).trans cr) (Term.mk dr (Tr.mk g4 (Parts.ref (Tr.mk g2 (Parts.ref (Tr.mk g1 ((Parts.ref (Tr.at gA) Parts.nil)).int) (Parts.ref (Tr.at gB) Parts.nil))) (Parts.ref (Tr.mk g3 (Parts.ref (Tr.at gB) (Parts.ref (Tr.at gA) Parts.nil))) Parts.nil))) rfl (flat_cons (flat_cons (flat_cons (in1 pA) flat_nil) (flat_cons (in1 pB) flat_nil)) (flat_cons (flat_cons (in1 pB) (flat_cons (in1 pA) flat_nil)) flat_nil)))
    first | refine wV rfl ?_ | refine ⟨_, rfl, ?_⟩
    first | refine wV rfl ?_ | refine ⟨_, rfl, ?_⟩
    refine ⟨l4 rfl, ?_⟩
    refine fun x1 K1 c1 d1 => ?_
    refine ⟨l4 rfl, ?_⟩
    refine fun r Hr cr dr => ?_
    have g1 := cr _ _ d1
    have gA := cr _ _ (c1 _ _ (s2 _ _ e1))
    have gB := cr _ _ (c1 _ _ e2)
    exact k r Hr (((s1.trans s2).trans c1).trans cr) (Term.mk dr (Tr.mk g1 (Parts.ref (Tr.at gA) (Parts.ref (Tr.at gB) Parts.nil))) rfl (flat_cons (in1 pA) (flat_cons (in1 pB) flat_nil)))
def EV (te : TE) (σ : L2.St) (H : Hp) (v : V) : Prop := ∀ Q : VK, Q v H → te σ H Q
def EVA (t : TA) (σ : L2.St) (H : Hp) (vs : List V) : Prop := ∀ Q : List V → Hp → Prop, Q vs H → t σ H Q
section
variable {σ : L2.St} {H : Hp} {v : V} {n : Nat} {i j : Int} {ta tb te : TE} {K' : PySem.W.Frag} {t : Addr} {xs : List V} {f : Int → Int → V} {C : Int → Int → Prop} {Q : VK} {vs : List V} {tl : TA}
theorem EV.c : EV (tC v) σ H v := fun _ q => q
theorem EV.var (h : σ[n]? = some (some v)) : EV (tVar n) σ H v := fun _ q => ⟨v, h, q⟩
theorem EV.ix (h : σ[n]? = some (some (.ref t))) (hs : H t = some (.tup xs)) (e : atI xs i = some v) : EV (tOp rIxT0 (tVar n) (tC (.int i))) σ H v := fun _ q => ⟨_, h, t, xs, i, v, rfl, rfl, hs, e, q⟩
theorem EV.op0 (ha : EV ta σ H (.int i)) (hb : EV tb σ H (.int j)) : EV (tOp (rI0 f) ta tb) σ H (f i j) := fun _ q => ha _ (hb _ ⟨i, j, rfl, rfl, q⟩)
theorem EV.opC (ha : EV ta σ H (.int i)) (hb : EV tb σ H (.int j)) (c : C i j) : EV (tOp (rI C f) ta tb) σ H (f i j) := fun _ q => ha _ (hb _ ⟨i, j, rfl, rfl, c, q⟩)
theorem EVA.nil : EVA tNil σ H [] := fun _ q => q
theorem EVA.cons (ha : EV te σ H v) (ht : EVA tl σ H vs) : EVA (tCons te tl) σ H (v :: vs) := fun _ q => ha _ (ht _ q)
theorem EV.max2 (ht : EVA tl σ H [.int i, .int j]) : EV (tCB (fun xs H Q => ∃ i j, xs = [.int i, .int j] ∧ Q (.int (if j > i then j else i)) H) tl) σ H (.int (if j > i then j else i)) := fun _ q => ht _ ⟨i, j, rfl, q⟩
theorem EVA.tup (ht : EVA tl σ H vs) (hl : vs.length ≤ sizeLine) (k : ∀ p H', Same H H' → H' p = some (.tup vs) → Q (.ref p) H') : tTupS tl σ H Q := ht _ ⟨hl, k⟩
end
end
end VK
namespace VK
open PySem PySem.Spec PyProof.Rows L2
section
variable {P : Program} {w : World} {K : PySem.W.Frag} {mg : Str → Option Value} {base : Heap}
theorem pairs_of {α : Type} {F : V → α → Prop} : ∀ {ys : List V}, (∀ y ∈ ys, ∃ q, F y q) → ∃ qs : List α, Paired F ys qs
  | [], _ => ⟨[], .nil⟩
  | y :: ys, h => by
    obtain ⟨q, hq⟩ := h y (.head _)
    obtain ⟨qs, hs⟩ := pairs_of (ys := ys) fun z hz => h z (.tail _ hz)
    exact ⟨q :: qs, .cons hq hs⟩
theorem pair_right {α : Type} {F : V → α → Prop} {ys : List V} {qs : List α} (h : Paired F ys qs) : ∀ q ∈ qs, ∃ y ∈ ys, F y q := fun q hq => by
  induction h with
  | nil => cases hq
  | cons r _ ih =>
    rcases List.mem_cons.mp hq with rfl | hq
    · exact ⟨_, .head _, r⟩
    · obtain ⟨y, h1, h2⟩ := ih hq
      exact ⟨y, .tail _ h1, h2⟩
theorem paired_of {α : Type} {F : V → α → Prop} : ∀ {ys : List V} {qs : List α}, ys.length = qs.length → (∀ (i : Nat) (y : V), ys[i]? = some y → ∃ q, qs[i]? = some q ∧ F y q) → Paired F ys qs
  | [], [], _, _ => .nil
  | y :: ys, q :: qs, hl, h => by
    obtain ⟨q', e, hf⟩ := h 0 y rfl
    cases e
    refine .cons hf (paired_of (by simpa using hl) fun i z ez => ?_)
    obtain ⟨q', e1, e2⟩ := h (i + 1) z (by simpa using ez)
    exact ⟨q', by simpa using e1, e2⟩
theorem all_of {ys : List V} {R : V → Prop} (h : ∀ (i : Nat) (y : V), ys[i]? = some y → R y) : ∀ y ∈ ys, R y := fun y hy => by
  obtain ⟨i, hi⟩ := List.getElem?_of_mem hy
  exact h i y hi
theorem flat_all {w : Int} {qs : List PS'} (h : ∀ q ∈ qs, ∀ p ∈ q.1, p < w) : ∀ p ∈ flat qs, p < w := fun p hp => by
  unfold flat at hp
  obtain ⟨l, hl, hpl⟩ := List.mem_flatten.mp hp
  obtain ⟨q, hq, rfl⟩ := List.mem_map.mp hl
  exact h q hq p hpl
theorem Vw.one {n : Nat} {H : Hp} {E : Env} {tv : Addr} {wd : Str} {v : V} {bs : List V} {w s w' m : Int} (h : H tv = some (.tup (.str wd :: v :: bs))) (hv : Vw n H E v w s) (hb : OneB H wd bs w w' m) (hw : w' ≤ 12) : Vw (n + 1) H E (.ref tv) w' (1 + m + s) :=
  ⟨hw, tv, rfl, .inr (.inl ⟨wd, [v], bs, [(w, s)], m, h, .cons hv .nil, .one hb, by simp; omega⟩)⟩
theorem Vw.two {n : Nat} {H : Hp} {E : Env} {tv : Addr} {wd : Str} {v1 v2 : V} {bs : List V} {w1 s1 w2 s2 w' m : Int} (h : H tv = some (.tup (.str wd :: v1 :: v2 :: bs))) (hv1 : Vw n H E v1 w1 s1) (hv2 : Vw n H E v2 w2 s2) (hb : TwoB H wd bs w1 w2 w' m) (hw : w' ≤ 12) : Vw (n + 1) H E (.ref tv) w' (1 + m + s1 + s2) :=
  ⟨hw, tv, rfl, .inr (.inl ⟨wd, [v1, v2], bs, [(w1, s1), (w2, s2)], m, h, .cons hv1 (.cons hv2 .nil), .two hb, by simp; omega⟩)⟩
theorem Vw.name {n : Nat} {H : Hp} {E : Env} {tv : Addr} {x : Str} {w s : Int} (h : H tv = some (.tup [.str "name", .str x])) (he : E x = some (w, s)) (hw : w ≤ 12) : Vw (n + 1) H E (.ref tv) w s := ⟨hw, tv, rfl, .inl ⟨x, h, he⟩⟩
theorem Vw.rounds {n : Nat} {H : Hp} {E : Env} {tv : Addr} {x : Str} {k : Int} {v1 v2 : V} {w s1 s2 : Int} (h : H tv = some (.tup [.str "rounds", .str x, .int k, v1, v2])) (h0 : 1 ≤ k) (h1 : k ≤ 64) (he : E x = none) (hv1 : Vw n H E v1 w s1) (hv2 : Vw n H (E.put x (w, 1)) v2 w s2) (hw : w ≤ 12) : Vw (n + 1) H E (.ref tv) w (s1 + k * (2 + s2)) :=
  ⟨hw, tv, rfl, .inr (.inr ⟨x, k, v1, v2, s1, s2, h, h0, h1, he, hv1, hv2, rfl⟩)⟩
def Rc (H : Hp) (C : Env → Prop) (r : Addr) (w d : Int) : Prop := ∃ (v : V) (s sg : Int), H r = some (.tup [v, .int w, .int s, .int sg, .int d]) ∧ 1 ≤ w ∧ w ≤ 12 ∧ 0 ≤ d ∧ ∀ E, C E → Vw (d.toNat + 1) H E v w s
theorem Rc.same {H H' : Hp} (e : SameT H H') {C : Env → Prop} {r : Addr} {w d : Int} : Rc H C r w d → Rc H' C r w d := fun ⟨v, s, sg, h1, h2, h3, h4, h5⟩ => ⟨v, s, sg, e _ _ h1, h2, h3, h4, fun E hE => (h5 E hE).same e⟩
theorem Rc.imp {H : Hp} {C C' : Env → Prop} {r : Addr} {w d : Int} (f : ∀ E, C' E → C E) : Rc H C r w d → Rc H C' r w d := fun ⟨v, s, sg, h1, h2, h3, h4, h5⟩ => ⟨v, s, sg, h1, h2, h3, h4, fun E hE => h5 E (f E hE)⟩
abbrev sGrp : Stmt := top 18
abbrev psGrp : List Str := ["_law_number", "_law_word", "_law_now"]
abbrev nGrp : List Str := ["_law_number", "_law_word", "_law_now", "_law_wide_here", "_law_by", "_law_order"]
def GrW (wd : Str) : Prop := wd = "count" ∨ wd = "sum" ∨ wd = "least" ∨ wd = "most" ∨ wd = "first"
def spGrp : Sp := fun vs H Q _ => ∃ (n : Int) (wd : Str) (r : Addr) (v : V) (w : Int) (x2 x3 x4 : V), vs = [.int n, .str wd, .ref r] ∧ H r = some (.tup [v, .int w, x2, x3, x4]) ∧ 1 ≤ w ∧ w ≤ 12 ∧ GrW wd ∧ ∀ t tv bs w' m H', Same H H' → H' t = some (.tup [.ref tv, .int w', .int m]) → H' tv = some (.tup (.str wd :: v :: bs)) → OneB H' wd bs w w' m → 1 ≤ w' → w' ≤ 12 → Q (.ref t) H'
theorem scGrp : FnScope nGrp psGrp (defScope sGrp) := ⟨rfl, rfl, rfl, by decide +kernel, rfl, by decide +kernel, by decide +kernel⟩
theorem okGrp {f fD : Addr} {fd fdD : FuncData} (D : Fn K mg "_law_grouped" sGrp psGrp f fd) (X : Txt mg) (DD : Fn K mg "_law_digits" sDigits psDigits fD fdD) : FnOk P w K mg base CX0 2 f fd psGrp spGrp := by
  have GD : FnOk P w K mg base CX0 1 fD fdD psDigits spDigits := okDigits DD X
  refine D.F.ok (k := 1) scGrp (fun vs H Q E h => ?_) (fun cdv A outer s H vs Q E hr h => ?_)
  · obtain ⟨_, _, _, _, _, _, _, _, rfl, _⟩ := h
    rfl
  · refine Classical.byContradiction fun hG0 => ?_
    obtain ⟨n, wd, r, v, w', x2, x3, x4, rfl, hr0, hw1, hw2, hg, k⟩ := h
    refine hG0 ?_
    clear hG0
    have nd := scGrp.nd
    refine ⟨_, (@pss_cons _ _ _ _ _ (@ps_set _ _ (3) _ _ _ _ nd rfl (Or.inl rfl) (@pe_ix _ _ _ _ _ _ _ ixT0 (pv 2) pe_int (fun _ _ => rfl)) (by rfl) (by first | exact .inl rfl | exact .inr rfl | assumption)) (@pss_cons _ _ _ _ _ (@ps_set _ _ (4) _ _ _ _ nd rfl (Or.inl rfl) (@pe_callTy _ _ _ _ _ _ _ _ _ (tupK K) rfl X.tuple b_tuple (@pa_cons _ _ _ _ _ (@pe_call _ _ _ _ _ _ _ _ _ _ _ _ _ _ _ _ GD hr rfl DD.m DD.F.kp DD.b .nil pass0 (@pa_cons _ _ _ _ _ (@pe_op _ _ _ _ _ _ _ _ op_fdiv (pv 0) pe_int) (@pa_cons _ _ _ _ _ (@pe_op _ _ _ _ _ _ _ _ op_mod (pv 0) pe_int) (@pa_cons _ _ _ _ _ (pv 3) pa_nil (by rfl)) (by rfl)) (by rfl)) (by decide) (by rfl) (by rfl)) pa_nil (by rfl)) (by decide) (by decide) (by rfl) (by rfl)) (by rfl) (by first | exact .inl rfl | exact .inr rfl | assumption)) (@pss_cons _ _ _ _ _ (@ps_if _ _ _ _ _ _ _ _ (@pt_cmpR _ _ _ _ _ _ _ _ op_eq (pv 1) pe_str (nomark _)) (@pss_one _ _ _ (@ps_ret _ _ _ _ (@pe_tupS _ _ _ _ _ (@pa_cons _ _ _ _ _ (@pe_tupS _ _ _ _ _ (@pa_cons _ _ _ _ _ (pv 1) (@pa_cons _ _ _ _ _ (@pe_ix _ _ _ _ _ _ _ ixT0 (pv 2) pe_int (fun _ _ => rfl)) (@pa_cons _ _ _ _ _ (pv 4) pa_nil (by rfl)) (by rfl)) (by rfl))) (@pa_cons _ _ _ _ _ (@pe_op _ _ _ _ _ _ _ _ op_add (@pe_callB _ _ _ _ _ _ _ _ _ (lenK K) (by rfl) X.len b_len (@pa_cons _ _ _ _ _ (pv 4) pa_nil (by rfl)) (by decide) (by decide) (by rfl) (by rfl)) pe_int) (@pa_cons _ _ _ _ _ (@pe_callB _ _ _ _ _ _ _ _ _ (lenK K) (by rfl) X.len b_len (@pa_cons _ _ _ _ _ (pv 4) pa_nil (by rfl)) (by decide) (by decide) (by rfl) (by rfl)) pa_nil (by rfl)) (by rfl)) (by rfl))))) pss_nil) (@pss_cons _ _ _ _ _ (@ps_if _ _ _ _ _ _ _ _ (@pt_cmpR _ _ _ _ _ _ _ _ op_eq (pv 1) pe_str (nomark _)) (@pss_cons _ _ _ _ _ (@ps_set _ _ (5) _ _ _ _ nd rfl (Or.inl rfl) (@pe_callTy _ _ _ _ _ _ _ _ _ (tupK K) rfl X.tuple b_tuple (@pa_cons _ _ _ _ _ (@pe_slice _ _ _ _ _ _ _ _ _ _ sl_list (@pe_comp _ _ _ _ _ _ _ _ (_) (["_law_place"]) ([("_law_number", 0)]) (defScope sGrp) (nGrp) rfl rfl ⟨rfl, by decide +kernel, by decide +kernel, by decide +kernel, by decide +kernel⟩ rfl (@pi_tup _ _ _ _ (@pe_rev _ _ _ _ _ _ _ _ (pv 4))) (fun s H fp => pg_name (i := 0) (show (["_law_place", "_law_number"] : List Str).Nodup by decide +kernel) rfl (Or.inl rfl) (Or.inr rfl)) (fun s H fp => (@pe_tupS _ _ _ _ _ (@pa_cons _ _ _ _ _ (pv 0) (@pa_cons _ _ _ _ _ (@pe_cmpR _ _ _ _ _ _ _ _ op_eq (@pe_op _ _ _ _ _ _ _ _ op_mod (@pe_op _ _ _ _ _ _ _ _ op_add (pv 0) (@pe_op _ _ _ _ _ _ _ _ op_fdiv (pv 1) pe_int)) pe_int) pe_int (nomark _)) pa_nil (by rfl)) (by rfl)))) (by intro _; rfl)) po_none (@po_some _ _ _ (@pe_op _ _ _ _ _ _ _ _ op_mod (@pe_op _ _ _ _ _ _ _ _ op_fdiv (pv 0) pe_int) pe_int))) pa_nil (by rfl)) (by decide) (by decide) (by rfl) (by rfl)) (by rfl) (by first | exact .inl rfl | exact .inr rfl | assumption)) (@pss_one _ _ _ (@ps_ret _ _ _ _ (@pe_tupS _ _ _ _ _ (@pa_cons _ _ _ _ _ (@pe_tupS _ _ _ _ _ (@pa_cons _ _ _ _ _ (pv 1) (@pa_cons _ _ _ _ _ (@pe_ix _ _ _ _ _ _ _ ixT0 (pv 2) pe_int (fun _ _ => rfl)) (@pa_cons _ _ _ _ _ (@pe_op _ _ _ _ _ _ _ _ op_mod (@pe_op _ _ _ _ _ _ _ _ op_fdiv (pv 0) pe_int) pe_int) (@pa_cons _ _ _ _ _ (pv 4) (@pa_cons _ _ _ _ _ (pv 5) pa_nil (by rfl)) (by rfl)) (by rfl)) (by rfl)) (by rfl))) (@pa_cons _ _ _ _ _ (pv 3) (@pa_cons _ _ _ _ _ (@pe_op _ _ _ _ _ _ _ _ op_add (@pe_callB _ _ _ _ _ _ _ _ _ (lenK K) (by rfl) X.len b_len (@pa_cons _ _ _ _ _ (pv 4) pa_nil (by rfl)) (by decide) (by decide) (by rfl) (by rfl)) (@pe_callB _ _ _ _ _ _ _ _ _ (lenK K) (by rfl) X.len b_len (@pa_cons _ _ _ _ _ (pv 5) pa_nil (by rfl)) (by decide) (by decide) (by rfl) (by rfl))) pa_nil (by rfl)) (by rfl)) (by rfl)))))) pss_nil) (@pss_one _ _ _ (@ps_ret _ _ _ _ (@pe_tupS _ _ _ _ _ (@pa_cons _ _ _ _ _ (@pe_tupS _ _ _ _ _ (@pa_cons _ _ _ _ _ (pv 1) (@pa_cons _ _ _ _ _ (@pe_ix _ _ _ _ _ _ _ ixT0 (pv 2) pe_int (fun _ _ => rfl)) (@pa_cons _ _ _ _ _ (@pe_op _ _ _ _ _ _ _ _ op_mod (@pe_op _ _ _ _ _ _ _ _ op_fdiv (pv 0) pe_int) (pv 3)) (@pa_cons _ _ _ _ _ (pv 4) pa_nil (by rfl)) (by rfl)) (by rfl)) (by rfl))) (@pa_cons _ _ _ _ _ (@pe_op _ _ _ _ _ _ _ _ op_add (@pe_callB _ _ _ _ _ _ _ _ _ (lenK K) (by rfl) X.len b_len (@pa_cons _ _ _ _ _ (pv 4) pa_nil (by rfl)) (by decide) (by decide) (by rfl) (by rfl)) pe_int) (@pa_cons _ _ _ _ _ (@pe_callB _ _ _ _ _ _ _ _ _ (lenK K) (by rfl) X.len b_len (@pa_cons _ _ _ _ _ (pv 4) pa_nil (by rfl)) (by decide) (by decide) (by rfl) (by rfl)) pa_nil (by rfl)) (by rfl)) (by rfl))))))))), ?_⟩
    first | refine wT0 rfl (id hr0) rfl ?_ | refine ⟨_, rfl, r, _, _, _, rfl, rfl, id hr0, rfl, ?_⟩
    first | refine wV rfl ?_ | refine ⟨_, rfl, ?_⟩
    first | refine wC ⟨by decide, by decide⟩ ?_ | refine wCc ⟨by decide, by decide⟩ ?_ | refine ⟨_, _, rfl, rfl, ⟨by decide, by decide⟩, ?_⟩
    first | refine wV rfl ?_ | refine ⟨_, rfl, ?_⟩
    first | refine wC (show (0 : Int) < 12 by decide) ?_ | refine wCc (show (0 : Int) < 12 by decide) ?_ | refine ⟨_, _, rfl, rfl, (show (0 : Int) < 12 by decide), ?_⟩
    first | refine wV rfl ?_ | refine ⟨_, rfl, ?_⟩
    refine ⟨n / 144, n % 12, w', rfl, Int.emod_nonneg _ (by decide), by have := Int.emod_lt_of_pos n (show (0 : Int) < 12 by decide); omega, by omega, by omega, ?_⟩
    refine fun ld H1 ds s1 hdl hds e1 => ?_
    have hd11 : ds.length ≤ 11 := by have := Int.emod_lt_of_pos n (show (0 : Int) < 12 by decide); omega
    refine ⟨ld, _, rfl, .inl ⟨SqL.of e1, fun tb htb => ?_⟩⟩
    have s2 : Same H (upd H1 tb (.tup (ds.map V.int))) := s1.trans ((Same.refl H1).upd htb)
    have hb : (upd H1 tb (.tup (ds.map V.int))) tb = some (.tup (ds.map V.int)) := upd_same
    generalize upd H1 tb (.tup (ds.map V.int)) = H2 at s2 hb ⊢
    have hns : ∀ {H'}, Same H2 H' → Ns H' (.ref tb) ds w' := fun s' => ⟨tb, rfl, s' _ _ hb, by omega, fun p hp => (hds p hp).2⟩
    have fin : ∀ (t tv : Addr) (bs : List V) (w1 m : Int) (H' : Hp), Same H2 H' → H' t = some (.tup [.ref tv, .int w1, .int m]) → H' tv = some (.tup (.str wd :: v :: bs)) → OneB H' wd bs w' w1 m → 1 ≤ w1 → w1 ≤ 12 → Q (.ref t) H' := fun t tv bs w1 m H' s' => k t tv bs w1 m H' (s2.trans s')
    have hr2 := s2 _ _ hr0
    have hml : ((ds.map V.int).length : Int) = ds.length := by rw [List.length_map]
    rcases hg with rfl | hg
    · first | refine wY rfl (by decide +kernel) ?_ | refine ⟨_, rfl, rfl, _, rfl, iteP (by decide +kernel) ?_⟩
      first | refine wV rfl ?_ | refine ⟨_, rfl, ?_⟩
      first | refine wT0 rfl (id hr2) rfl ?_ | refine ⟨_, rfl, r, _, _, _, rfl, rfl, id hr2, rfl, ?_⟩
      first | refine wV rfl ?_ | refine ⟨_, rfl, ?_⟩
      refine ⟨l4 rfl, ?_⟩
      refine fun tv H3 s3 e3 => ?_
      have hb3 := s3 _ _ hb
      first | refine wV rfl ?_ | refine ⟨_, rfl, ?_⟩
      refine ⟨tb, _, rfl, .inr (SqT.of hb3), ?_⟩
      first | refine wI ?_ | refine wIc ?_ | refine ⟨_, _, rfl, rfl, ?_⟩
      first | refine wV rfl ?_ | refine ⟨_, rfl, ?_⟩
      refine ⟨tb, _, rfl, .inr (SqT.of hb3), ?_⟩
      refine ⟨l4 rfl, ?_⟩
      refine fun t H4 s4 e4 => ?_
      rw [List.length_map] at e4
      exact fin t tv _ _ _ H4 (s3.trans s4) e4 (s4 _ _ e3) (.count (hns (s3.trans s4))) (by omega) (by omega)
    · have hw0 : decide (V.str wd = V.str "count") = false := by rcases hg with rfl | rfl | rfl | rfl <;> decide +kernel
      first | refine wN rfl hw0 ?_ | refine ⟨_, rfl, rfl, _, rfl, iteQ hw0 ?_⟩
      by_cases hF : wd = "first"
      · subst hF
        first | refine wY rfl (by decide +kernel) ?_ | refine ⟨_, rfl, rfl, _, rfl, iteP (by decide +kernel) ?_⟩
        first | refine wV rfl ?_ | refine ⟨_, rfl, ?_⟩
        refine ⟨tb, _, rfl, SqT.of hb, fun tr H3 s3 e3 => ⟨tr, rfl, ⟨_, SqT.of e3⟩, fun l hl => ?_⟩⟩
        refine comp_T (K := K) e3 (fun σ => ∃ a, σ = [a, some (.int n)]) (fun i y H => ∃ (u : Addr) (q : Int × Bool), y = .ref u ∧ H u = some (.tup [.int q.1, .bl q.2]) ∧ q.1 < w') (fun _ _ _ _ z ⟨u, q, h1, h2, h3⟩ => ⟨u, q, h1, z _ _ h2, h3⟩) (by rw [List.length_reverse, List.length_map]; omega) hl ⟨_, rfl⟩ ?_ ?_
        · rintro C i σ H4 x ex s4 ⟨x1, rfl⟩ kk
          have hm := List.mem_of_getElem? ex
          rw [List.mem_reverse, List.mem_map] at hm
          obtain ⟨p, hp, rfl⟩ := hm
          first | refine wV rfl ?_ | refine ⟨_, rfl, ?_⟩
          first | refine wV rfl ?_ | refine ⟨_, rfl, ?_⟩
          first | refine wV rfl ?_ | refine ⟨_, rfl, ?_⟩
          first | refine wC ⟨by decide, by decide⟩ ?_ | refine wCc ⟨by decide, by decide⟩ ?_ | refine ⟨_, _, rfl, rfl, ⟨by decide, by decide⟩, ?_⟩
          first | refine wI ?_ | refine wIc ?_ | refine ⟨_, _, rfl, rfl, ?_⟩
          first | refine wC (show (0 : Int) < 2 by decide) ?_ | refine wCc (show (0 : Int) < 2 by decide) ?_ | refine ⟨_, _, rfl, rfl, (show (0 : Int) < 2 by decide), ?_⟩
          refine ⟨rfl, l4 rfl, ?_⟩
          refine fun u H5 s5 e5 => ?_
          exact kk _ _ _ s5 ⟨_, rfl⟩ ⟨u, (p, _), rfl, e5, (hds p hp).2⟩
        · intro H4 ys s4 e4 hyl hyr
          rw [List.length_reverse, List.length_map] at hyl
          first | refine wV rfl ?_ | refine ⟨_, rfl, ?_⟩
          first | refine wC ⟨by decide, by decide⟩ ?_ | refine wCc ⟨by decide, by decide⟩ ?_ | refine ⟨_, _, rfl, rfl, ⟨by decide, by decide⟩, ?_⟩
          first | refine wC (show (0 : Int) < 13 by decide) ?_ | refine wCc (show (0 : Int) < 13 by decide) ?_ | refine ⟨_, _, rfl, rfl, (show (0 : Int) < 13 by decide), ?_⟩
          first | refine wV rfl ?_ | refine ⟨_, rfl, ?_⟩
          refine ⟨l, ys, rfl, SqL.of e4, ?_⟩
          refine fun lc hlc => ?_
          obtain ⟨kk, hkk⟩ : ∃ kk : Nat, n / 12 % 13 = (kk : Int) := ⟨(n / 12 % 13).toNat, by have := Int.emod_nonneg (n / 12) (show (13 : Int) ≠ 0 by decide); omega⟩
          refine ⟨lc, ys.take kk, rfl, ?_⟩
          refine .inl ⟨SqL.of (by rw [upd_same, show cutV ys none (some (n / 12 % 13)) = ys.take kk by rw [hkk]; exact cutV_take ys kk]), fun to hto => ?_⟩
          have s5 : Same H4 (upd (upd H4 lc (.lst (cutV ys none (some (n / 12 % 13))))) to (.tup (ys.take kk))) := ((Same.refl H4).upd hlc).trans ((Same.refl _).upd hto)
          have ho : (upd (upd H4 lc (.lst (cutV ys none (some (n / 12 % 13))))) to (.tup (ys.take kk))) to = some (.tup (ys.take kk)) := upd_same
          generalize upd (upd H4 lc (.lst (cutV ys none (some (n / 12 % 13))))) to (.tup (ys.take kk)) = H5 at s5 ho ⊢
          have hod : ∃ os : List (Int × Bool), Paired (fun x p => ∃ u, x = V.ref u ∧ H5 u = some (.tup [.int p.1, .bl p.2]) ∧ p.1 < w') (ys.take kk) os := pairs_of fun y hy => by
            obtain ⟨u, q, h1, h2, h3⟩ := all_of hyr y (List.mem_of_mem_take hy)
            refine ⟨q, u, h1, s5 _ _ h2, ?_⟩
            refine h3
          obtain ⟨os, hos⟩ := hod
          have hol := Paired.length hos
          have hol2 : os.length ≤ 12 := by rw [← hol, List.length_take]; omega
          have s25 : Same H2 H5 := s3.trans (s4.trans s5)
          have hOd : ∀ {H'}, Same H5 H' → Od H' (.ref to) os w' := fun s' => ⟨to, _, rfl, s' _ _ ho, hol2, Paired.mapP hos fun _ _ ⟨u, a, b, _⟩ => ⟨u, a, s' _ _ b⟩, fun p hp => by
            obtain ⟨y, _, _, _, _, h⟩ := pair_right hos p hp
            exact h⟩
          have hr5 := s25 _ _ hr2
          first | refine wV rfl ?_ | refine ⟨_, rfl, ?_⟩
          first | refine wT0 rfl (id hr5) rfl ?_ | refine ⟨_, rfl, r, _, _, _, rfl, rfl, id hr5, rfl, ?_⟩
          first | refine wV rfl ?_ | refine ⟨_, rfl, ?_⟩
          first | refine wC ⟨by decide, by decide⟩ ?_ | refine wCc ⟨by decide, by decide⟩ ?_ | refine ⟨_, _, rfl, rfl, ⟨by decide, by decide⟩, ?_⟩
          first | refine wC (show (0 : Int) < 61 by decide) ?_ | refine wCc (show (0 : Int) < 61 by decide) ?_ | refine ⟨_, _, rfl, rfl, (show (0 : Int) < 61 by decide), ?_⟩
          first | refine wV rfl ?_ | refine ⟨_, rfl, ?_⟩
          first | refine wV rfl ?_ | refine ⟨_, rfl, ?_⟩
          refine ⟨l4 rfl, ?_⟩
          refine fun tv H6 s6 e6 => ?_
          have hb3 := s6 _ _ (s25 _ _ hb)
          first | refine wV rfl ?_ | refine ⟨_, rfl, ?_⟩
          first | refine wV rfl ?_ | refine ⟨_, rfl, ?_⟩
          refine ⟨tb, _, rfl, .inr (SqT.of hb3), ?_⟩
          first | refine wV rfl ?_ | refine ⟨_, rfl, ?_⟩
          refine ⟨to, _, rfl, .inr (SqT.of (s6 _ _ ho)), ?_⟩
          first | refine wI ?_ | refine wIc ?_ | refine ⟨_, _, rfl, rfl, ?_⟩
          refine ⟨l4 rfl, ?_⟩
          refine fun t H7 s7 e7 => ?_
          rw [List.length_map, hol] at e7
          exact fin t tv _ _ _ H7 (s25.trans (s6.trans s7)) e7 (s7 _ _ e6) (.first (hns (s25.trans (s6.trans s7))) (hOd (s6.trans s7))) hw1 hw2
      · first | refine wN rfl (neD hF) ?_ | refine ⟨_, rfl, rfl, _, rfl, iteQ (neD hF) ?_⟩
        first | refine wV rfl ?_ | refine ⟨_, rfl, ?_⟩
        first | refine wT0 rfl (id hr2) rfl ?_ | refine ⟨_, rfl, r, _, _, _, rfl, rfl, id hr2, rfl, ?_⟩
        first | refine wV rfl ?_ | refine ⟨_, rfl, ?_⟩
        first | refine wC ⟨by decide, by decide⟩ ?_ | refine wCc ⟨by decide, by decide⟩ ?_ | refine ⟨_, _, rfl, rfl, ⟨by decide, by decide⟩, ?_⟩
        first | refine wV rfl ?_ | refine ⟨_, rfl, ?_⟩
        first | refine wC (show (0 : Int) < w' by omega) ?_ | refine wCc (show (0 : Int) < w' by omega) ?_ | refine ⟨_, _, rfl, rfl, (show (0 : Int) < w' by omega), ?_⟩
        first | refine wV rfl ?_ | refine ⟨_, rfl, ?_⟩
        refine ⟨l4 rfl, ?_⟩
        refine fun tv H3 s3 e3 => ?_
        have hb3 := s3 _ _ hb
        first | refine wV rfl ?_ | refine ⟨_, rfl, ?_⟩
        refine ⟨tb, _, rfl, .inr (SqT.of hb3), ?_⟩
        first | refine wI ?_ | refine wIc ?_ | refine ⟨_, _, rfl, rfl, ?_⟩
        first | refine wV rfl ?_ | refine ⟨_, rfl, ?_⟩
        refine ⟨tb, _, rfl, .inr (SqT.of hb3), ?_⟩
        refine ⟨l4 rfl, ?_⟩
        refine fun t H4 s4 e4 => ?_
        rw [List.length_map] at e4
        have hg3 : wd = "sum" ∨ wd = "least" ∨ wd = "most" := by
          rcases hg with h | h | h | h
          · exact .inl h
          · exact .inr (.inl h)
          · exact .inr (.inr h)
          · exact absurd h hF
        exact fin t tv _ _ _ H4 (s3.trans s4) e4 (s4 _ _ e3) (.grp hg3 (Int.emod_lt_of_pos _ (by omega)) (hns (s3.trans s4))) (by omega) (by omega)
end
end VK
namespace VK
open PySem PySem.Spec PyProof.Rows L2
section
variable {P : Program} {w : World} {K : PySem.W.Frag} {mg : Str → Option Value} {base : Heap}
abbrev sOnceR : Stmt := top 22
abbrev psOnceR : List Str := ["_law_now"]
def RcS (H : Hp) (C : Env → Prop) (r : Addr) (w s d : Int) : Prop := ∃ (v : V) (sg : Int), H r = some (.tup [v, .int w, .int s, .int sg, .int d]) ∧ 1 ≤ w ∧ w ≤ 12 ∧ 0 ≤ d ∧ ∀ E, C E → Vw (d.toNat + 1) H E v w s
theorem RcS.rc {H : Hp} {C : Env → Prop} {r : Addr} {w s d : Int} : RcS H C r w s d → Rc H C r w d := fun ⟨v, sg, h⟩ => ⟨v, s, sg, h⟩
theorem Rc.toS {H : Hp} {C : Env → Prop} {r : Addr} {w d : Int} : Rc H C r w d → ∃ s, RcS H C r w s d := fun ⟨v, s, sg, h⟩ => ⟨s, v, sg, h⟩
theorem RcS.same {H H' : Hp} (e : SameT H H') {C : Env → Prop} {r : Addr} {w s d : Int} : RcS H C r w s d → RcS H' C r w s d := fun ⟨v, sg, h1, h2, h3, h4, h5⟩ => ⟨v, sg, e _ _ h1, h2, h3, h4, fun E hE => (h5 E hE).same e⟩
theorem RcS.imp {H : Hp} {C C' : Env → Prop} {r : Addr} {w s d : Int} (f : ∀ E, C' E → C E) : RcS H C r w s d → RcS H C' r w s d := fun ⟨v, sg, h1, h2, h3, h4, h5⟩ => ⟨v, sg, h1, h2, h3, h4, fun E hE => h5 E (f E hE)⟩
def spOnceR : Sp := fun vs H Q _ => ∃ (r : Addr) (C : Env → Prop) (w s d : Int), vs = [.ref r] ∧ RcS H C r w s d ∧ ∀ r' H', Same H H' → RcS H' C r' w (1 + s) (1 + d) → Q (.ref r') H'
theorem scOnceR : FnScope psOnceR psOnceR (defScope sOnceR) := ⟨rfl, rfl, rfl, by decide +kernel, rfl, by decide +kernel, by decide +kernel⟩
theorem okOnceR {f : Addr} {fd : FuncData} (D : Fn K mg "_law_once" sOnceR psOnceR f fd) : FnOk P w K mg base CX0 1 f fd psOnceR spOnceR := by
  refine D.F.ok scOnceR (fun vs H Q E h => ?_) (fun cdv A outer s H vs Q E hr h => ?_)
  · obtain ⟨_, _, _, _, _, rfl, _⟩ := h
    rfl
  · refine Classical.byContradiction fun hG0 => ?_
    obtain ⟨r, C, w', s0, d, rfl, ⟨v, sg, hr0, hw1, hw2, hd, hv⟩, k⟩ := h
    refine hG0 ?_
    clear hG0
    refine ⟨_, (@pss_one _ _ _ (@ps_ret _ _ _ _ (@pe_tupS _ _ _ _ _ (@pa_cons _ _ _ _ _ (@pe_tupS _ _ _ _ _ (@pa_cons _ _ _ _ _ pe_str (@pa_cons _ _ _ _ _ (@pe_ix _ _ _ _ _ _ _ ixT0 (pv 0) pe_int (fun _ _ => rfl)) pa_nil (by rfl)) (by rfl))) (@pa_cons _ _ _ _ _ (@pe_ix _ _ _ _ _ _ _ ixT0 (pv 0) pe_int (fun _ _ => rfl)) (@pa_cons _ _ _ _ _ (@pe_op _ _ _ _ _ _ _ _ op_add pe_int (@pe_ix _ _ _ _ _ _ _ ixT0 (pv 0) pe_int (fun _ _ => rfl))) (@pa_cons _ _ _ _ _ (@pe_op _ _ _ _ _ _ _ _ op_add pe_int (@pe_ix _ _ _ _ _ _ _ ixT0 (pv 0) pe_int (fun _ _ => rfl))) (@pa_cons _ _ _ _ _ (@pe_op _ _ _ _ _ _ _ _ op_add pe_int (@pe_ix _ _ _ _ _ _ _ ixT0 (pv 0) pe_int (fun _ _ => rfl))) pa_nil (by rfl)) (by rfl)) (by rfl)) (by rfl)) (by rfl))))), ?_⟩
    first | refine wT0 rfl (id hr0) rfl ?_ | refine ⟨_, rfl, r, _, _, _, rfl, rfl, id hr0, rfl, ?_⟩
    refine ⟨l4 rfl, ?_⟩
    refine fun tv H1 s1 e1 => ?_
    have hr1 := s1 _ _ hr0
    first | refine wT0 rfl (id hr1) rfl ?_ | refine ⟨_, rfl, r, _, _, _, rfl, rfl, id hr1, rfl, ?_⟩
    first | refine wT0 rfl (id hr1) rfl ?_ | refine ⟨_, rfl, r, _, _, _, rfl, rfl, id hr1, rfl, ?_⟩
    first | refine wI ?_ | refine wIc ?_ | refine ⟨_, _, rfl, rfl, ?_⟩
    first | refine wT0 rfl (id hr1) rfl ?_ | refine ⟨_, rfl, r, _, _, _, rfl, rfl, id hr1, rfl, ?_⟩
    first | refine wI ?_ | refine wIc ?_ | refine ⟨_, _, rfl, rfl, ?_⟩
    first | refine wT0 rfl (id hr1) rfl ?_ | refine ⟨_, rfl, r, _, _, _, rfl, rfl, id hr1, rfl, ?_⟩
    first | refine wI ?_ | refine wIc ?_ | refine ⟨_, _, rfl, rfl, ?_⟩
    refine ⟨l4 rfl, ?_⟩
    refine fun t H2 s2 e2 => ?_
    refine k t H2 (s1.trans s2) ⟨.ref tv, _, e2, hw1, hw2, by omega, fun E hE => ?_⟩
    have := Vw.one (s2 _ _ e1) ((hv E hE).same (s1.trans s2).t) .once hw2
    rw [Int.add_zero] at this
    exact this.mono (by omega)
abbrev sFit : Stmt := top 20
abbrev psFit : List Str := ["_law_now", "_law_wide_here"]
abbrev nFit : List Str := ["_law_now", "_law_wide_here", "_law_terms"]
def spFit : Sp := fun vs H Q _ => ∃ (r : Addr) (C : Env → Prop) (w d w2 : Int), vs = [.ref r, .int w2] ∧ Rc H C r w d ∧ 1 ≤ w2 ∧ w2 ≤ 12 ∧ ∀ r' d' H', Same H H' → Rc H' C r' w2 d' → d ≤ d' → d' ≤ d + 1 → Q (.ref r') H'
theorem scFit : FnScope nFit psFit (defScope sFit) := ⟨rfl, rfl, rfl, by decide +kernel, rfl, by decide +kernel, by decide +kernel⟩
theorem tot_ones : ∀ {n : Nat} {qs : List PS'}, qs.length = n → (∀ q ∈ qs, q.2 = 1) → tot qs = n
  | 0, [], _, _ => rfl
  | n + 1, q :: qs, h, h1 => by
    have e : tot (q :: qs) = q.2 + tot qs := by unfold tot; simp
    rw [e, h1 q (.head _), tot_ones (n := n) (by simpa using h) fun z hz => h1 z (.tail _ hz)]
    omega
theorem okFit {f : Addr} {fd : FuncData} (D : Fn K mg "_law_fitted" sFit psFit f fd) (X : Txt mg) : FnOk P w K mg base CX0 1 f fd psFit spFit := by
  refine D.F.ok scFit (fun vs H Q E h => ?_) (fun cdv A outer s H vs Q E hr h => ?_)
  · obtain ⟨_, _, _, _, _, rfl, _⟩ := h
    rfl
  · refine Classical.byContradiction fun hG0 => ?_
    obtain ⟨r, C, w', d, w2, rfl, hR, hw3, hw4, k⟩ := h
    refine hG0 ?_
    clear hG0
    obtain ⟨v, s0, sg, hr0, hw1, hw2, hd, hv⟩ := id hR
    have nd := scFit.nd
    refine ⟨_, (@pss_cons _ _ _ _ _ (@ps_if _ _ _ _ _ _ _ _ (@pt_cmpR _ _ _ _ _ _ _ _ op_eq (@pe_ix _ _ _ _ _ _ _ ixT0 (pv 0) pe_int (fun _ _ => rfl)) (pv 1) (nomark _)) (@pss_one _ _ _ (@ps_ret _ _ _ _ (pv 0))) pss_nil) (@pss_cons _ _ _ _ _ (@ps_set _ _ (2) _ _ _ _ nd rfl (Or.inl rfl) (@pe_callTy _ _ _ _ _ _ _ _ _ (tupK K) rfl X.tuple b_tuple (@pa_cons _ _ _ _ _ (@pe_comp _ _ _ _ _ _ _ _ (tTupS (tCons (tC (V.str "at")) (tCons (tOp _ (tVar 0) (tOp rIxT0 (tVar 1) (tC (V.int 1)))) tNil))) (["_law_k"]) ([("_law_now", 0)]) (defScope sFit) (nFit) rfl rfl ⟨rfl, by decide +kernel, by decide +kernel, by decide +kernel, by decide +kernel⟩ rfl (@pi_range1 _ _ _ _ _ _ rfl X.range (@pa_cons _ _ _ _ _ (pv 1) pa_nil (by rfl)) (by rfl)) (fun s H fp => pg_name (i := 0) (show (["_law_k", "_law_now"] : List Str).Nodup by decide +kernel) rfl (Or.inl rfl) (Or.inr rfl)) (fun s H fp => (@pe_tupS _ _ _ _ _ (@pa_cons _ _ _ _ _ pe_str (@pa_cons _ _ _ _ _ (@pe_op _ _ _ _ _ _ _ _ op_mod (pv 0) (@pe_ix _ _ _ _ _ _ _ ixT0 (pv 1) pe_int (fun _ _ => rfl))) pa_nil (by rfl)) (by rfl)))) (by intro _; rfl)) pa_nil (by rfl)) (by decide) (by decide) (by rfl) (by rfl)) (by rfl) (by first | exact .inl rfl | exact .inr rfl | assumption)) (@pss_one _ _ _ (@ps_ret _ _ _ _ (@pe_tupS _ _ _ _ _ (@pa_cons _ _ _ _ _ (@pe_tupS _ _ _ _ _ (@pa_cons _ _ _ _ _ pe_str (@pa_cons _ _ _ _ _ (@pe_ix _ _ _ _ _ _ _ ixT0 (pv 0) pe_int (fun _ _ => rfl)) (@pa_cons _ _ _ _ _ (pv 2) pa_nil (by rfl)) (by rfl)) (by rfl))) (@pa_cons _ _ _ _ _ (pv 1) (@pa_cons _ _ _ _ _ (@pe_op _ _ _ _ _ _ _ _ op_add (@pe_op _ _ _ _ _ _ _ _ op_add pe_int (pv 1)) (@pe_ix _ _ _ _ _ _ _ ixT0 (pv 0) pe_int (fun _ _ => rfl))) (@pa_cons _ _ _ _ _ (@pe_op _ _ _ _ _ _ _ _ op_add (@pe_op _ _ _ _ _ _ _ _ op_add pe_int (@pe_op _ _ _ _ _ _ _ _ op_mul pe_int (pv 1))) (@pe_ix _ _ _ _ _ _ _ ixT0 (pv 0) pe_int (fun _ _ => rfl))) (@pa_cons _ _ _ _ _ (@pe_op _ _ _ _ _ _ _ _ op_add pe_int (@pe_ix _ _ _ _ _ _ _ ixT0 (pv 0) pe_int (fun _ _ => rfl))) pa_nil (by rfl)) (by rfl)) (by rfl)) (by rfl)) (by rfl))))))), ?_⟩
    first | refine wT0 rfl (id hr0) rfl ?_ | refine ⟨_, rfl, r, _, _, _, rfl, rfl, id hr0, rfl, ?_⟩
    refine ⟨_, rfl, rfl, _, rfl, ite2 (fun hq => ?_) (fun hq => ?_)⟩
    · have e : w' = w2 := by have := of_decide_eq_true hq; injection this
      subst e
      first | refine wV rfl ?_ | refine ⟨_, rfl, ?_⟩
      refine k r d H (Same.refl H) hR (Int.le_refl _) (by omega)
    · obtain ⟨m2, rfl⟩ : ∃ m2 : Nat, w2 = (m2 : Int) := ⟨w2.toNat, by omega⟩
      first | refine wV rfl ?_ | refine ⟨_, rfl, ?_⟩
      first | refine wV rfl ?_ | refine ⟨_, rfl, ?_⟩
      refine ⟨by omega, by omega, ?_⟩
      refine fun l hl => ?_
      refine comp_R (n := m2) (fun σ => ∃ a, σ = [a, some (.ref r)]) (fun i y H => ∃ q : PS', Tr 4 H y q.1 q.2 ∧ (∀ p ∈ q.1, p < w') ∧ q.2 = 1) (fun _ _ _ _ z ⟨q, h1, h2⟩ => ⟨q, h1.sameT z, h2⟩) (by omega) hl ⟨_, rfl⟩ ?_ ?_
      · rintro CC i σ H1 hi s1 ⟨x1, rfl⟩ kk
        have hr1 := s1 _ _ hr0
        first | refine wV rfl ?_ | refine ⟨_, rfl, ?_⟩
        first | refine wT0 rfl (id hr1) rfl ?_ | refine ⟨_, rfl, r, _, _, _, rfl, rfl, id hr1, rfl, ?_⟩
        first | refine wC (show (0 : Int) < w' by omega) ?_ | refine wCc (show (0 : Int) < w' by omega) ?_ | refine ⟨_, _, rfl, rfl, (show (0 : Int) < w' by omega), ?_⟩
        refine ⟨l4 rfl, ?_⟩
        refine fun t H2 s2 e2 => ?_
        refine kk _ _ _ s2 ⟨_, rfl⟩ ⟨([_], 1), Tr.at e2, in1 (Int.emod_lt_of_pos _ (by omega)), rfl⟩
      · intro H1 ys s1 e1 hyl hyr
        refine ⟨l, ys, rfl, ?_⟩
        refine .inl ⟨SqL.of e1, fun tc htc => ?_⟩
        have s2 : Same H (upd H1 tc (.tup ys)) := s1.trans ((Same.refl H1).upd htc)
        have hc : (upd H1 tc (.tup ys)) tc = some (.tup ys) := upd_same
        have s12 : SameT H1 (upd H1 tc (.tup ys)) := ((Same.refl H1).upd htc).t
        generalize upd H1 tc (.tup ys) = H2 at s2 hc s12 ⊢
        obtain ⟨qs, hqs⟩ : ∃ qs : List PS', Paired (fun y q => Tr 4 H2 y q.1 q.2 ∧ (∀ p ∈ q.1, p < w') ∧ q.2 = 1) ys qs := pairs_of fun y hy => by
          obtain ⟨q, h1, h2⟩ := all_of hyr y hy
          refine ⟨q, h1.sameT s12, ?_⟩
          refine h2
        have hql := Paired.length hqs
        have hto : tot qs = (m2 : Int) := tot_ones (by omega) fun q hq => by
          obtain ⟨y, _, _, _, h⟩ := pair_right hqs q hq
          exact h
        have hr2 := s2 _ _ hr0
        first | refine wT0 rfl (id hr2) rfl ?_ | refine ⟨_, rfl, r, _, _, _, rfl, rfl, id hr2, rfl, ?_⟩
        first | refine wV rfl ?_ | refine ⟨_, rfl, ?_⟩
        refine ⟨l4 rfl, ?_⟩
        refine fun tv H3 s3 e3 => ?_
        have hr3 := s3 _ _ hr2
        first | refine wV rfl ?_ | refine ⟨_, rfl, ?_⟩
        first | refine wV rfl ?_ | refine ⟨_, rfl, ?_⟩
        first | refine wI ?_ | refine wIc ?_ | refine ⟨_, _, rfl, rfl, ?_⟩
        first | refine wT0 rfl (id hr3) rfl ?_ | refine ⟨_, rfl, r, _, _, _, rfl, rfl, id hr3, rfl, ?_⟩
        first | refine wI ?_ | refine wIc ?_ | refine ⟨_, _, rfl, rfl, ?_⟩
        first | refine wV rfl ?_ | refine ⟨_, rfl, ?_⟩
        first | refine wC (.inl ⟨by decide, by decide⟩) ?_ | refine wCc (.inl ⟨by decide, by decide⟩) ?_ | refine ⟨_, _, rfl, rfl, .inl ⟨by decide, by decide⟩, ?_⟩
        first | refine wI ?_ | refine wIc ?_ | refine ⟨_, _, rfl, rfl, ?_⟩
        first | refine wT0 rfl (id hr3) rfl ?_ | refine ⟨_, rfl, r, _, _, _, rfl, rfl, id hr3, rfl, ?_⟩
        first | refine wI ?_ | refine wIc ?_ | refine ⟨_, _, rfl, rfl, ?_⟩
        first | refine wT0 rfl (id hr3) rfl ?_ | refine ⟨_, rfl, r, _, _, _, rfl, rfl, id hr3, rfl, ?_⟩
        first | refine wI ?_ | refine wIc ?_ | refine ⟨_, _, rfl, rfl, ?_⟩
        refine ⟨l4 rfl, ?_⟩
        refine fun t H4 s4 e4 => ?_
        have s24 := s3.trans s4
        refine k t _ H4 (s2.trans s24) ⟨.ref tv, _, _, e4, hw3, hw4, by omega, fun E hE => ?_⟩ (by omega) (by omega)
        have hone : OneB H4 "cols" [.ref tc] w' (ys.length : Int) (tot qs) := .cols (s24 _ _ hc) (by omega) (Paired.mapP hqs fun _ _ z => z.1.same s24) (flat_all fun q hq => by
          obtain ⟨y, _, _, h, _⟩ := pair_right hqs q hq
          exact h)
        have := Vw.one (s4 _ _ e3) ((hv E hE).same (s2.trans s24).t) hone (by omega)
        rw [hto, hyl] at this
        exact this.mono (by omega)
abbrev sOne : Stmt := top 19
abbrev psOne : List Str := ["_law_number", "_law_word", "_law_now"]
abbrev nOne : List Str := ["_law_number", "_law_word", "_law_now", "_law_wide_here", "_law_more", "_law_signs", "_law_asked_here", "_law_view", "_law_terms"]
def OneW (wd : Str) : Prop := wd = "sieve" ∨ wd = "once" ∨ wd = "cols" ∨ GrW wd
def spOne : Sp := fun vs H Q _ => ∃ (n : Int) (wd : Str) (r : Addr) (C : Env → Prop) (w d : Int), vs = [.int n, .str wd, .ref r] ∧ Rc H C r w d ∧ OneW wd ∧ ∀ r' w' H', Same H H' → Rc H' C r' w' (1 + d) → Q (.ref r') H'
theorem scOne : FnScope nOne psOne (defScope sOne) := ⟨rfl, rfl, rfl, by decide +kernel, rfl, by decide +kernel, by decide +kernel⟩
theorem Rc.one {H H' : Hp} {C : Env → Prop} {v : V} {w s d w' m sg' : Int} {t tv : Addr} {wd : Str} {bs : List V} (e : H' t = some (.tup [.ref tv, .int w', .int (1 + m + s), .int sg', .int (1 + d)])) (hv : ∀ E, C E → Vw (d.toNat + 1) H E v w s) (hS : SameT H H') (hd : 0 ≤ d) (h : H' tv = some (.tup (.str wd :: v :: bs))) (hb : OneB H' wd bs w w' m) (h1 : 1 ≤ w') (h2 : w' ≤ 12) : Rc H' C t w' (1 + d) :=
  ⟨.ref tv, _, sg', e, h1, h2, by omega, fun E hE => (Vw.one h ((hv E hE).same hS) hb h2).mono (by omega)⟩
theorem okOne {f fA fT fG fD : Addr} {fd fdA fdT fdG fdD : FuncData} (D : Fn K mg "_law_one" sOne psOne f fd) (X : Txt mg) (DA : Fn K mg "_law_asked" sAsked psTerm fA fdA) (DT : Fn K mg "_law_term" sTerm psTerm fT fdT) (DG : Fn K mg "_law_grouped" sGrp psGrp fG fdG) (DD : Fn K mg "_law_digits" sDigits psDigits fD fdD) : FnOk P w K mg base CX0 3 f fd psOne spOne := by
  have GA : FnOk P w K mg base CX0 2 fA fdA psTerm spTerm := (okAsked DA).mono (by decide)
  have GT : FnOk P w K mg base CX0 2 fT fdT psTerm spTerm := (okTerm DT).mono (by decide)
  have GG : FnOk P w K mg base CX0 2 fG fdG psGrp spGrp := okGrp DG X DD
  refine D.F.ok (k := 2) scOne (fun vs H Q E h => ?_) (fun cdv A outer s H vs Q E hr h => ?_)
  · obtain ⟨_, _, _, _, _, _, rfl, _⟩ := h
    rfl
  · refine Classical.byContradiction fun hG0 => ?_
    obtain ⟨n, wd, r, C, w', d, rfl, ⟨v, s0, sg, hr0, hw1, hw2, hd, hv⟩, hW, k⟩ := h
    refine hG0 ?_
    clear hG0
    have nd := scOne.nd
    refine ⟨_, (@pss_cons _ _ _ _ _ (@ps_set _ _ (3) _ _ _ _ nd rfl (Or.inr rfl) (@pe_ix _ _ _ _ _ _ _ ixT0 (pv 2) pe_int (fun _ _ => rfl)) (by rfl) (by first | exact .inl rfl | exact .inr rfl | assumption)) (@pss_cons _ _ _ _ _ (@ps_set _ _ (4) _ _ _ _ nd rfl (Or.inl rfl) pe_int (by rfl) (by first | exact .inl rfl | exact .inr rfl | assumption)) (@pss_cons _ _ _ _ _ (@ps_set _ _ (5) _ _ _ _ nd rfl (Or.inl rfl) pe_int (by rfl) (by first | exact .inl rfl | exact .inr rfl | assumption)) (@pss_cons _ _ _ _ _ (@ps_if _ _ _ _ _ _ _ _ (@pt_cmpR _ _ _ _ _ _ _ _ op_eq (pv 1) pe_str (nomark _)) (@pss_cons _ _ _ _ _ (@ps_asg _ _ _ _ _ _ (@pe_call _ _ _ _ _ _ _ _ _ _ _ _ _ _ _ _ GA hr rfl DA.m DA.F.kp DA.b .nil pass0 (@pa_cons _ _ _ _ _ (pv 0) (@pa_cons _ _ _ _ _ (pv 3) pa_nil (by rfl)) (by rfl)) (by decide) (by rfl) (by rfl)) (@pg_tup _ _ _ _ _ _ rfl (@pgs_cons _ _ _ _ _ (@pg_name _ _ (6) _ nd rfl (Or.inl rfl) (by first | exact .inl rfl | exact .inr rfl | assumption)) (@pgs_cons _ _ _ _ _ (@pg_name _ _ (4) _ nd rfl (Or.inl rfl) (by first | exact .inl rfl | exact .inr rfl | assumption)) pgs_nil (by rfl)) (by rfl)) (by rfl) (by rfl)) (by rfl) (by rfl) (by rfl)) (@pss_cons _ _ _ _ _ (@ps_set _ _ (7) _ _ _ _ nd rfl (Or.inl rfl) (@pe_tupS _ _ _ _ _ (@pa_cons _ _ _ _ _ (pv 1) (@pa_cons _ _ _ _ _ (@pe_ix _ _ _ _ _ _ _ ixT0 (pv 2) pe_int (fun _ _ => rfl)) (@pa_cons _ _ _ _ _ (pv 6) pa_nil (by rfl)) (by rfl)) (by rfl))) (by rfl) (by first | exact .inl rfl | exact .inr rfl | assumption)) (@pss_one _ _ _ (@ps_set _ _ (5) _ _ _ _ nd rfl (Or.inl rfl) pe_int (by rfl) (by first | exact .inl rfl | exact .inr rfl | assumption))))) (@pss_one _ _ _ (@ps_if _ _ _ _ _ _ _ _ (@pt_cmpR _ _ _ _ _ _ _ _ op_eq (pv 1) pe_str (nomark _)) (@pss_one _ _ _ (@ps_set _ _ (7) _ _ _ _ nd rfl (Or.inl rfl) (@pe_tupS _ _ _ _ _ (@pa_cons _ _ _ _ _ (pv 1) (@pa_cons _ _ _ _ _ (@pe_ix _ _ _ _ _ _ _ ixT0 (pv 2) pe_int (fun _ _ => rfl)) pa_nil (by rfl)) (by rfl))) (by rfl) (by first | exact .inl rfl | exact .inr rfl | assumption))) (@pss_one _ _ _ (@ps_if _ _ _ _ _ _ _ _ (@pt_cmpR _ _ _ _ _ _ _ _ op_eq (pv 1) pe_str (nomark _)) (@pss_cons _ _ _ _ _ (@ps_comp _ _ _ _ _ _ _ _ (tCall spTerm [] E0 (tCons _ (tCons (tVar 2) tNil))) (["_law_k"]) ([("_law_number", 0), ("_law_wide_here", 3)]) (defScope sOne) (nOne) (8) _ _ _ nd rfl (Or.inl rfl) rfl rfl ⟨rfl, by decide +kernel, by decide +kernel, by decide +kernel, by decide +kernel⟩ rfl (@pi_range1 _ _ _ _ _ _ rfl X.range (@pa_cons _ _ _ _ _ (@pe_op _ _ _ _ _ _ _ _ op_add pe_int (@pe_op _ _ _ _ _ _ _ _ op_mod (pv 0) pe_int)) pa_nil (by rfl)) (by rfl)) (fun s H fp => pg_name (i := 0) (show (["_law_k", "_law_number", "_law_wide_here"] : List Str).Nodup by decide +kernel) rfl (Or.inl rfl) (Or.inr rfl)) (fun s H fp => pe_call GT hr rfl DT.m DT.F.kp DT.b .nil pass0 (@pa_cons _ _ _ _ _ (@pe_op _ _ _ _ _ _ _ _ op_fdiv (pv 1) (@pe_op _ _ _ _ _ _ _ _ op_add (@pe_op _ _ _ _ _ _ _ _ op_mul pe_int (pv 0)) pe_int)) (@pa_cons _ _ _ _ _ (pv 2) pa_nil (by rfl)) (by rfl))) (by rfl) (by intro _; rfl) (by first | exact .inl rfl | exact .inr rfl | assumption)) (@pss_cons _ _ _ _ _ (@ps_set _ _ (4) _ _ _ _ nd rfl (Or.inl rfl) (@pe_callB _ _ _ _ _ _ _ _ _ (sumK K rfl) (by rfl) X.sum b_sum (@pa_cons _ _ _ _ _ (@pe_comp _ _ _ _ _ _ _ _ (tOp rIxT0 (tVar 0) _) (["_law_term_here"]) ([]) (defScope sOne) (nOne) rfl rfl ⟨rfl, by decide +kernel, by decide +kernel, by decide +kernel, by decide +kernel⟩ rfl (@pi_list _ _ _ _ (pv 8)) (fun s H fp => pg_name (i := 0) (show (["_law_term_here"] : List Str).Nodup by decide +kernel) rfl (Or.inl rfl) (Or.inr rfl)) (fun s H fp => (@pe_ix _ _ _ _ _ _ _ ixT0 (pv 0) pe_int (fun _ _ => rfl))) (by intro _; rfl)) pa_nil (by rfl)) (by decide) (by decide) (by rfl) (by rfl)) (by rfl) (by first | exact .inl rfl | exact .inr rfl | assumption)) (@pss_cons _ _ _ _ _ (@ps_set _ _ (5) _ _ _ _ nd rfl (Or.inl rfl) (@pe_op _ _ _ _ _ _ _ _ op_add pe_int (@pe_op _ _ _ _ _ _ _ _ op_mul pe_int (@pe_callB _ _ _ _ _ _ _ _ _ (lenK K) (by rfl) X.len b_len (@pa_cons _ _ _ _ _ (pv 8) pa_nil (by rfl)) (by decide) (by decide) (by rfl) (by rfl)))) (by rfl) (by first | exact .inl rfl | exact .inr rfl | assumption)) (@pss_cons _ _ _ _ _ (@ps_set _ _ (3) _ _ _ _ nd rfl (Or.inr rfl) (@pe_callB _ _ _ _ _ _ _ _ _ (lenK K) (by rfl) X.len b_len (@pa_cons _ _ _ _ _ (pv 8) pa_nil (by rfl)) (by decide) (by decide) (by rfl) (by rfl)) (by rfl) (by first | exact .inl rfl | exact .inr rfl | assumption)) (@pss_one _ _ _ (@ps_set _ _ (7) _ _ _ _ nd rfl (Or.inl rfl) (@pe_tupS _ _ _ _ _ (@pa_cons _ _ _ _ _ (pv 1) (@pa_cons _ _ _ _ _ (@pe_ix _ _ _ _ _ _ _ ixT0 (pv 2) pe_int (fun _ _ => rfl)) (@pa_cons _ _ _ _ _ (@pe_callTy _ _ _ _ _ _ _ _ _ (tupK K) rfl X.tuple b_tuple (@pa_cons _ _ _ _ _ (@pe_comp _ _ _ _ _ _ _ _ (tOp rIxT0 (tVar 0) _) (["_law_term_here"]) ([]) (defScope sOne) (nOne) rfl rfl ⟨rfl, by decide +kernel, by decide +kernel, by decide +kernel, by decide +kernel⟩ rfl (@pi_list _ _ _ _ (pv 8)) (fun s H fp => pg_name (i := 0) (show (["_law_term_here"] : List Str).Nodup by decide +kernel) rfl (Or.inl rfl) (Or.inr rfl)) (fun s H fp => (@pe_ix _ _ _ _ _ _ _ ixT0 (pv 0) pe_int (fun _ _ => rfl))) (by intro _; rfl)) pa_nil (by rfl)) (by decide) (by decide) (by rfl) (by rfl)) pa_nil (by rfl)) (by rfl)) (by rfl))) (by rfl) (by first | exact .inl rfl | exact .inr rfl | assumption))))))) (@pss_cons _ _ _ _ _ (@ps_asg _ _ _ _ _ _ (@pe_call _ _ _ _ _ _ _ _ _ _ _ _ _ _ _ _ GG hr rfl DG.m DG.F.kp DG.b .nil pass0 (@pa_cons _ _ _ _ _ (pv 0) (@pa_cons _ _ _ _ _ (pv 1) (@pa_cons _ _ _ _ _ (pv 2) pa_nil (by rfl)) (by rfl)) (by rfl)) (by decide) (by rfl) (by rfl)) (@pg_tup _ _ _ _ _ _ rfl (@pgs_cons _ _ _ _ _ (@pg_name _ _ (7) _ nd rfl (Or.inl rfl) (by first | exact .inl rfl | exact .inr rfl | assumption)) (@pgs_cons _ _ _ _ _ (@pg_name _ _ (3) _ nd rfl (Or.inr rfl) (by first | exact .inl rfl | exact .inr rfl | assumption)) (@pgs_cons _ _ _ _ _ (@pg_name _ _ (4) _ nd rfl (Or.inl rfl) (by first | exact .inl rfl | exact .inr rfl | assumption)) pgs_nil (by rfl)) (by rfl)) (by rfl)) (by rfl) (by rfl)) (by rfl) (by rfl) (by rfl)) (@pss_one _ _ _ (@ps_set _ _ (5) _ _ _ _ nd rfl (Or.inl rfl) (@pe_op _ _ _ _ _ _ _ _ op_add pe_int (@pe_op _ _ _ _ _ _ _ _ op_mul pe_int (pv 4))) (by rfl) (by first | exact .inl rfl | exact .inr rfl | assumption))))))))) (@pss_one _ _ _ (@ps_ret _ _ _ _ (@pe_tupS _ _ _ _ _ (@pa_cons _ _ _ _ _ (pv 7) (@pa_cons _ _ _ _ _ (pv 3) (@pa_cons _ _ _ _ _ (@pe_op _ _ _ _ _ _ _ _ op_add (@pe_op _ _ _ _ _ _ _ _ op_add pe_int (pv 4)) (@pe_ix _ _ _ _ _ _ _ ixT0 (pv 2) pe_int (fun _ _ => rfl))) (@pa_cons _ _ _ _ _ (@pe_op _ _ _ _ _ _ _ _ op_add (pv 5) (@pe_ix _ _ _ _ _ _ _ ixT0 (pv 2) pe_int (fun _ _ => rfl))) (@pa_cons _ _ _ _ _ (@pe_op _ _ _ _ _ _ _ _ op_add pe_int (@pe_ix _ _ _ _ _ _ _ ixT0 (pv 2) pe_int (fun _ _ => rfl))) pa_nil (by rfl)) (by rfl)) (by rfl)) (by rfl)) (by rfl))))))))), ?_⟩
    first | refine wT0 rfl (id hr0) rfl ?_ | refine ⟨_, rfl, r, _, _, _, rfl, rfl, id hr0, rfl, ?_⟩
    rcases hW with rfl | rfl | rfl | hG
    · first | refine wY rfl (by decide +kernel) ?_ | refine ⟨_, rfl, rfl, _, rfl, iteP (by decide +kernel) ?_⟩
      first | refine wV rfl ?_ | refine ⟨_, rfl, ?_⟩
      first | refine wV rfl ?_ | refine ⟨_, rfl, ?_⟩
      refine ⟨n, w', rfl, by omega, ?_⟩
      refine fun ta H1 s1 ⟨u, ps, sz, ha, hT, hp⟩ => ?_
      have hr1 := s1 _ _ hr0
      refine ⟨ta, _, rfl, SqT.of ha, rfl, _, _, rfl, _, _, rfl, rfl, ?_⟩
      first | refine wV rfl ?_ | refine ⟨_, rfl, ?_⟩
      first | refine wT0 rfl (id hr1) rfl ?_ | refine ⟨_, rfl, r, _, _, _, rfl, rfl, id hr1, rfl, ?_⟩
      first | refine wV rfl ?_ | refine ⟨_, rfl, ?_⟩
      refine ⟨l4 rfl, ?_⟩
      refine fun tv H2 s2 e2 => ?_
      have hr2 := s2 _ _ hr1
      refine EVA.tup (EVA.cons (EV.var rfl) (EVA.cons (EV.var rfl) (EVA.cons (EV.op0 (EV.op0 EV.c (EV.var rfl)) (EV.ix rfl (id hr2) rfl)) (EVA.cons (EV.op0 (EV.var rfl) (EV.ix rfl (id hr2) rfl)) (EVA.cons (EV.op0 EV.c (EV.ix rfl (id hr2) rfl)) EVA.nil))))) (l4 rfl) (fun t H3 s3 e3 => ?_)
      have s13 := s2.trans s3
      exact k t _ H3 (s1.trans s13) (Rc.one e3 hv (s1.trans s13).t hd (s3 _ _ e2) (.sieve (hT.same s13) hp) hw1 hw2)
    · first | refine wN rfl (by decide +kernel) ?_ | refine ⟨_, rfl, rfl, _, rfl, iteQ (by decide +kernel) ?_⟩
      first | refine wY rfl (by decide +kernel) ?_ | refine ⟨_, rfl, rfl, _, rfl, iteP (by decide +kernel) ?_⟩
      first | refine wV rfl ?_ | refine ⟨_, rfl, ?_⟩
      first | refine wT0 rfl (id hr0) rfl ?_ | refine ⟨_, rfl, r, _, _, _, rfl, rfl, id hr0, rfl, ?_⟩
      refine ⟨l4 rfl, ?_⟩
      refine fun tv H2 s2 e2 => ?_
      have hr2 := s2 _ _ hr0
      refine EVA.tup (EVA.cons (EV.var rfl) (EVA.cons (EV.var rfl) (EVA.cons (EV.op0 (EV.op0 EV.c (EV.var rfl)) (EV.ix rfl (id hr2) rfl)) (EVA.cons (EV.op0 (EV.var rfl) (EV.ix rfl (id hr2) rfl)) (EVA.cons (EV.op0 EV.c (EV.ix rfl (id hr2) rfl)) EVA.nil))))) (l4 rfl) (fun t H3 s3 e3 => ?_)
      exact k t _ H3 (s2.trans s3) (Rc.one e3 hv (s2.trans s3).t hd (s3 _ _ e2) .once hw1 hw2)
    · first | refine wN rfl (by decide +kernel) ?_ | refine ⟨_, rfl, rfl, _, rfl, iteQ (by decide +kernel) ?_⟩
      first | refine wN rfl (by decide +kernel) ?_ | refine ⟨_, rfl, rfl, _, rfl, iteQ (by decide +kernel) ?_⟩
      first | refine wY rfl (by decide +kernel) ?_ | refine ⟨_, rfl, rfl, _, rfl, iteP (by decide +kernel) ?_⟩
      obtain ⟨m2, hm2⟩ : ∃ m2 : Nat, 1 + n % 12 = (m2 : Int) := ⟨(1 + n % 12).toNat, by have := Int.emod_nonneg n (show (12 : Int) ≠ 0 by decide); omega⟩
      have hm12 : 1 ≤ m2 ∧ m2 ≤ 12 := by
        have h1 := Int.emod_nonneg n (show (12 : Int) ≠ 0 by decide)
        have h2 := Int.emod_lt_of_pos n (show (0 : Int) < 12 by decide)
        omega
      first | refine wV rfl ?_ | refine ⟨_, rfl, ?_⟩
      first | refine wC (show (0 : Int) < 12 by decide) ?_ | refine wCc (show (0 : Int) < 12 by decide) ?_ | refine ⟨_, _, rfl, rfl, (show (0 : Int) < 12 by decide), ?_⟩
      first | refine wI ?_ | refine wIc ?_ | refine ⟨_, _, rfl, rfl, ?_⟩
      refine ⟨(m2 : Int), congrArg (fun z => [V.int z]) hm2, by omega, by omega, ?_⟩
      refine fun l hl => ?_
      refine comp_R (n := m2) (fun σ => ∃ a, σ = [a, some (.int n), some (.int w')]) (fun i y H => ∃ t, y = .ref t ∧ Term H t w') (fun _ _ _ _ z ⟨t, h1, h2⟩ => ⟨t, h1, h2.same z⟩) (by omega) hl ⟨_, rfl⟩ ?_ ?_
      · rintro CC i σ H1 hi s1 ⟨x1, rfl⟩ kk
        first | refine wV rfl ?_ | refine ⟨_, rfl, ?_⟩
        first | refine wV rfl ?_ | refine ⟨_, rfl, ?_⟩
        first | refine wC (.inl ⟨by decide, by decide⟩) ?_ | refine wCc (.inl ⟨by decide, by decide⟩) ?_ | refine ⟨_, _, rfl, rfl, .inl ⟨by decide, by decide⟩, ?_⟩
        first | refine wI ?_ | refine wIc ?_ | refine ⟨_, _, rfl, rfl, ?_⟩
        first | refine wC ⟨by show (0 : Int) < 5 * (0 + (i : Int)) + 1; omega, by show 5 * (0 + (i : Int)) + 1 < 1073741824; omega⟩ ?_ | refine wCc ⟨by show (0 : Int) < 5 * (0 + (i : Int)) + 1; omega, by show 5 * (0 + (i : Int)) + 1 < 1073741824; omega⟩ ?_ | refine ⟨_, _, rfl, rfl, ⟨by show (0 : Int) < 5 * (0 + (i : Int)) + 1; omega, by show 5 * (0 + (i : Int)) + 1 < 1073741824; omega⟩, ?_⟩
        first | refine wV rfl ?_ | refine ⟨_, rfl, ?_⟩
        refine ⟨_, w', rfl, by omega, fun t H2 s2 hT => kk _ _ _ s2 ⟨_, rfl⟩ ⟨t, rfl, hT⟩⟩
      · intro H1 ys s1 e1 hyl hyr
        obtain ⟨qs, hqs⟩ : ∃ qs : List PS', Paired (fun y q => ∃ t u, y = V.ref t ∧ H1 t = some (.tup [u, .int q.2]) ∧ Tr 4 H1 u q.1 q.2 ∧ ∀ p ∈ q.1, p < w') ys qs := pairs_of fun y hy => by
          obtain ⟨t, rfl, u, ps, sz, h1, h2, h3⟩ := all_of hyr y hy
          refine ⟨(ps, sz), t, u, rfl, h1, h2, ?_⟩
          refine h3
        have hql := Paired.length hqs
        first | refine wV rfl ?_ | refine ⟨_, rfl, ?_⟩
        refine ⟨l, rfl, ⟨_, SqL.of e1⟩, ?_⟩
        refine fun l2 hl2 => ?_
        refine comp_L (K := K) e1 (fun σ => ∃ a, σ = [a]) (fun i y H => ∃ q, qs[i]? = some q ∧ y = .int q.2) (fun _ _ _ _ _ z => z) (by omega) hl2 ⟨_, rfl⟩ ?_ ?_
        · rintro CC i σ H2 x ex s2 ⟨x1, rfl⟩ kk
          obtain ⟨q, eq, t, u, rfl, h1, h2, h3⟩ := pair_at hqs ex
          first | refine wT0 rfl (id (s2 _ _ h1)) rfl ?_ | refine ⟨_, rfl, t, _, _, _, rfl, rfl, id (s2 _ _ h1), rfl, ?_⟩
          refine kk _ _ _ (Same.refl _) ⟨_, rfl⟩ ⟨q, eq, rfl⟩
        · intro H2 ys2 s2 e2 hyl2 hyr2
          have h2q : ys2 = (qs.map (·.2)).map V.int := list_of (by omega) hyr2
          rw [h2q] at e2
          refine ⟨l2, _, rfl, SqL.of e2, ?_⟩
          have e12 := s2 _ _ e1
          first | refine wV rfl ?_ | refine ⟨_, rfl, ?_⟩
          refine ⟨l, _, rfl, .inl (SqL.of e12), ?_⟩
          first | refine wC (.inl ⟨by decide, by decide⟩) ?_ | refine wCc (.inl ⟨by decide, by decide⟩) ?_ | refine ⟨_, _, rfl, rfl, .inl ⟨by decide, by decide⟩, ?_⟩
          first | refine wI ?_ | refine wIc ?_ | refine ⟨_, _, rfl, rfl, ?_⟩
          first | refine wV rfl ?_ | refine ⟨_, rfl, ?_⟩
          refine ⟨l, _, rfl, .inl (SqL.of e12), ?_⟩
          have hr2 := s2 _ _ (s1 _ _ hr0)
          first | refine wV rfl ?_ | refine ⟨_, rfl, ?_⟩
          first | refine wT0 rfl (id hr2) rfl ?_ | refine ⟨_, rfl, r, _, _, _, rfl, rfl, id hr2, rfl, ?_⟩
          first | refine wV rfl ?_ | refine ⟨_, rfl, ?_⟩
          refine ⟨l, rfl, ⟨_, SqL.of e12⟩, ?_⟩
          refine fun l3 hl3 => ?_
          refine comp_L (K := K) e12 (fun σ => ∃ a, σ = [a]) (fun i y H => ∃ q, qs[i]? = some q ∧ (Tr 4 H y q.1 q.2 ∧ ∀ p ∈ q.1, p < w')) (fun _ _ _ _ z ⟨q, h1, h2, h3⟩ => ⟨q, h1, h2.sameT z, h3⟩) (by omega) hl3 ⟨_, rfl⟩ ?_ ?_
          · rintro CC i σ H3 x ex s3 ⟨x1, rfl⟩ kk
            obtain ⟨q, eq, t, u, rfl, h1, h2, h3⟩ := pair_at hqs ex
            first | refine wT0 rfl (id (s3 _ _ (s2 _ _ h1))) rfl ?_ | refine ⟨_, rfl, t, _, _, _, rfl, rfl, id (s3 _ _ (s2 _ _ h1)), rfl, ?_⟩
            refine kk _ _ _ (Same.refl _) ⟨_, rfl⟩ ⟨q, eq, h2.same (s2.trans s3), h3⟩
          · intro H3 ys3 s3 e3 hyl3 hyr3
            have hp3 : Paired (fun y (q : PS') => Tr 4 H3 y q.1 q.2 ∧ ∀ p ∈ q.1, p < w') ys3 qs := paired_of (by omega) hyr3
            refine ⟨l3, ys3, rfl, ?_⟩
            refine .inl ⟨SqL.of e3, fun tc htc => ?_⟩
            have s4 : Same H3 (upd H3 tc (.tup ys3)) := (Same.refl H3).upd htc
            have hc : (upd H3 tc (.tup ys3)) tc = some (.tup ys3) := upd_same
            generalize upd H3 tc (.tup ys3) = H4 at s4 hc ⊢
            refine ⟨l4 rfl, ?_⟩
            refine fun tv H5 s5 e5 => ?_
            have hr5 := s5 _ _ (s4 _ _ (s3 _ _ hr2))
            refine EVA.tup (EVA.cons (EV.var rfl) (EVA.cons (EV.var rfl) (EVA.cons (EV.op0 (EV.op0 EV.c (EV.var rfl)) (EV.ix rfl (id hr5) rfl)) (EVA.cons (EV.op0 (EV.var rfl) (EV.ix rfl (id hr5) rfl)) (EVA.cons (EV.op0 EV.c (EV.ix rfl (id hr5) rfl)) EVA.nil))))) (l4 rfl) (fun t H6 s6 e6 => ?_)
            have s46 := s5.trans s6
            have s06 : Same H H6 := s1.trans (s2.trans (s3.trans (s4.trans s46)))
            have hone : OneB H6 "cols" [.ref tc] w' (ys3.length : Int) (tot qs) := .cols (s46 _ _ hc) (by omega) (Paired.mapP hp3 fun _ _ z => z.1.same (s4.trans s46)) (flat_all fun q hq => by
              obtain ⟨y, _, _, h⟩ := pair_right hp3 q hq
              exact h)
            have ewl : (ys3.length : Int) = (ys.length : Int) := by omega
            rw [ewl] at hone
            exact k t _ H6 s06 (Rc.one e6 hv s06.t hd (s6 _ _ e5) hone (by omega) (by omega))
    · have n1 : decide (V.str wd = V.str "sieve") = false := by rcases hG with rfl | rfl | rfl | rfl | rfl <;> decide +kernel
      have n2 : decide (V.str wd = V.str "once") = false := by rcases hG with rfl | rfl | rfl | rfl | rfl <;> decide +kernel
      have n3 : decide (V.str wd = V.str "cols") = false := by rcases hG with rfl | rfl | rfl | rfl | rfl <;> decide +kernel
      first | refine wN rfl n1 ?_ | refine ⟨_, rfl, rfl, _, rfl, iteQ n1 ?_⟩
      first | refine wN rfl n2 ?_ | refine ⟨_, rfl, rfl, _, rfl, iteQ n2 ?_⟩
      first | refine wN rfl n3 ?_ | refine ⟨_, rfl, rfl, _, rfl, iteQ n3 ?_⟩
      first | refine wV rfl ?_ | refine ⟨_, rfl, ?_⟩
      first | refine wV rfl ?_ | refine ⟨_, rfl, ?_⟩
      first | refine wV rfl ?_ | refine ⟨_, rfl, ?_⟩
      refine ⟨n, wd, r, v, w', _, _, _, rfl, hr0, hw1, hw2, hG, fun ta tv bs w1 m H1 s1 ea ev hb h1 h2 => ?_⟩
      have hr1 := s1 _ _ hr0
      refine ⟨ta, _, rfl, SqT.of ea, rfl, _, _, rfl, _, _, rfl, _, _, rfl, rfl, ?_⟩
      first | refine wV rfl ?_ | refine ⟨_, rfl, ?_⟩
      first | refine wC (.inl ⟨by decide, by decide⟩) ?_ | refine wCc (.inl ⟨by decide, by decide⟩) ?_ | refine ⟨_, _, rfl, rfl, .inl ⟨by decide, by decide⟩, ?_⟩
      first | refine wI ?_ | refine wIc ?_ | refine ⟨_, _, rfl, rfl, ?_⟩
      refine EVA.tup (EVA.cons (EV.var rfl) (EVA.cons (EV.var rfl) (EVA.cons (EV.op0 (EV.op0 EV.c (EV.var rfl)) (EV.ix rfl (id hr1) rfl)) (EVA.cons (EV.op0 (EV.var rfl) (EV.ix rfl (id hr1) rfl)) (EVA.cons (EV.op0 EV.c (EV.ix rfl (id hr1) rfl)) EVA.nil))))) (l4 rfl) (fun t H3 s3 e3 => ?_)
      exact k t _ H3 (s1.trans s3) (Rc.one e3 hv (s1.trans s3).t hd (s3 _ _ ev) (hb.same s3.t) h1 h2)
end
end VK
namespace VK
open PySem PySem.Spec PyProof.Rows L2
section
variable {P : Program} {w : World} {K : PySem.W.Frag} {mg : Str → Option Value} {base : Heap}
theorem mxL (a b : Int) : a ≤ (if b > a then b else a) := by split <;> omega
theorem mxR (a b : Int) : b ≤ (if b > a then b else a) := by split <;> omega
theorem mx1 {a : Int} (b : Int) (h : 0 ≤ a) : 1 ≤ 1 + (if b > a then b else a) := by split <;> omega
theorem b_max : bootBuiltins "max" = some (.builtin "max") := by decide +kernel
theorem b_min : bootBuiltins "min" = some (.builtin "min") := by decide +kernel
theorem Rc.two {H H' : Hp} {C : Env → Prop} {v1 v2 : V} {w1 s1 d1 w2 s2 d2 w' m sg' dd : Int} {t tv : Addr} {wd : Str} {bs : List V} (e : H' t = some (.tup [.ref tv, .int w', .int (1 + m + s1 + s2), .int sg', .int (1 + dd)])) (hv1 : ∀ E, C E → Vw (d1.toNat + 1) H E v1 w1 s1) (hv2 : ∀ E, C E → Vw (d2.toNat + 1) H E v2 w2 s2) (hS : SameT H H') (h1 : 0 ≤ d1) (hd1 : d1 ≤ dd) (hd2 : d2 ≤ dd) (h : H' tv = some (.tup (.str wd :: v1 :: v2 :: bs))) (hb : TwoB H' wd bs w1 w2 w' m) (h3 : 1 ≤ w') (h4 : w' ≤ 12) : Rc H' C t w' (1 + dd) :=
  ⟨.ref tv, _, sg', e, h3, h4, by omega, fun E hE => (Vw.two h (((hv1 E hE).same hS).mono (show _ ≤ dd.toNat + 1 by omega)) (((hv2 E hE).same hS).mono (by omega)) hb h4).mono (by omega)⟩
theorem prs_of {H : Hp} : ∀ {ts : List Addr} {as bs : List Int}, TupsOf H ts ((as.map V.int).zip (bs.map V.int)) → Paired (fun x (p : Int × Int) => ∃ u, x = V.ref u ∧ H u = some (.tup [.int p.1, .int p.2])) (ts.map V.ref) (as.zip bs)
  | [], [], _, _ => .nil
  | [], _ :: _, [], _ => .nil
  | [], a :: as, b :: bs, h => nomatch h
  | t :: ts, [], _, h => nomatch h
  | t :: ts, a :: as, [], h => nomatch h
  | t :: ts, a :: as, b :: bs, .cons r h => .cons ⟨t, rfl, r⟩ (prs_of h)
abbrev sTwo : Stmt := top 21
abbrev psTwo : List Str := ["_law_number", "_law_word", "_law_now", "_law_kept"]
abbrev nTwo : List Str := ["_law_number", "_law_word", "_law_now", "_law_kept", "_law_wide_here", "_law_more", "_law_view", "_law_firsts_here"]
def AlW (wd : Str) : Prop := wd = "pour" ∨ wd = "both" ∨ wd = "either" ∨ wd = "less"
def TwoW (wd : Str) : Prop := AlW wd ∨ wd = "join" ∨ wd = "left" ∨ wd = "notin"
def spTwo : Sp := fun vs H Q _ => ∃ (n : Int) (wd : Str) (r1 r2 : Addr) (C : Env → Prop) (w1 d1 w2 d2 : Int), vs = [.int n, .str wd, .ref r1, .ref r2] ∧ Rc H C r1 w1 d1 ∧ Rc H C r2 w2 d2 ∧ TwoW wd ∧ ∀ r' w' d' H', Same H H' → Rc H' C r' w' d' → 1 ≤ d' → ((AlW wd ∨ wd = "notin") → w' = w1) → Q (.ref r') H'
theorem scTwo : FnScope nTwo psTwo (defScope sTwo) := ⟨rfl, rfl, rfl, by decide +kernel, rfl, by decide +kernel, by decide +kernel⟩
theorem okTwo {f fF fD : Addr} {fd fdF fdD : FuncData} (D : Fn K mg "_law_two" sTwo psTwo f fd) (X : Txt mg) (DF : Fn K mg "_law_fitted" sFit psFit fF fdF) (DD : Fn K mg "_law_digits" sDigits psDigits fD fdD) : FnOk P w K mg base CX0 2 f fd psTwo spTwo := by
  have GF : FnOk P w K mg base CX0 1 fF fdF psFit spFit := okFit DF X
  have GD : FnOk P w K mg base CX0 1 fD fdD psDigits spDigits := okDigits DD X
  refine D.F.ok (k := 1) scTwo (fun vs H Q E h => ?_) (fun cdv A outer s H vs Q E hr h => ?_)
  · obtain ⟨_, _, _, _, _, _, _, _, _, rfl, _⟩ := h
    rfl
  · refine Classical.byContradiction fun hG0 => ?_
    obtain ⟨n, wd, r1, r2, C, w1, d1, w2, d2, rfl, hR1, hR2, hW, k⟩ := h
    refine hG0 ?_
    clear hG0
    obtain ⟨v1, s1', sg1, hr1, hw11, hw12, hd1, hv1⟩ := id hR1
    obtain ⟨v2, s2', sg2, hr2, hw21, hw22, hd2, hv2⟩ := id hR2
    have nd := scTwo.nd
    have hm0 := Int.emod_nonneg n (show (13 : Int) ≠ 0 by decide)
    have hm1 : n % 13 ≤ 13 := by have := Int.emod_lt_of_pos n (show (0 : Int) < 13 by decide); omega
    have hm2 := Int.emod_lt_of_pos n (show (0 : Int) < 13 by decide)
    refine ⟨_, (@pss_cons _ _ _ _ _ (@ps_set _ _ (4) _ _ _ _ nd rfl (Or.inl rfl) (@pe_ix _ _ _ _ _ _ _ ixT0 (pv 2) pe_int (fun _ _ => rfl)) (by rfl) (by first | exact .inl rfl | exact .inr rfl | assumption)) (@pss_cons _ _ _ _ _ (@ps_set _ _ (5) _ _ _ _ nd rfl (Or.inl rfl) pe_int (by rfl) (by first | exact .inl rfl | exact .inr rfl | assumption)) (@pss_consM _ _ _ _ _ (@ps_if _ _ _ _ _ _ _ _ (@pt_cmpR _ _ _ _ _ _ _ _ (inK K) (pv 1) (@pe_tupS _ _ _ _ _ (@pa_cons _ _ _ _ _ pe_str (@pa_cons _ _ _ _ _ pe_str (@pa_cons _ _ _ _ _ pe_str (@pa_cons _ _ _ _ _ pe_str pa_nil (by rfl)) (by rfl)) (by rfl)) (by rfl))) (by with_unfolding_all rfl)) (@pss_cons _ _ _ _ _ (@ps_set _ _ (3) _ _ _ _ nd rfl (Or.inl rfl) (@pe_call _ _ _ _ _ _ _ _ _ _ _ _ _ _ _ _ GF hr rfl DF.m DF.F.kp DF.b .nil pass0 (@pa_cons _ _ _ _ _ (pv 3) (@pa_cons _ _ _ _ _ (pv 4) pa_nil (by rfl)) (by rfl)) (by decide) (by rfl) (by rfl)) (by rfl) (by first | exact .inl rfl | exact .inr rfl | assumption)) (@pss_one _ _ _ (@ps_set _ _ (6) _ _ _ _ nd rfl (Or.inl rfl) (@pe_tupS _ _ _ _ _ (@pa_cons _ _ _ _ _ (pv 1) (@pa_cons _ _ _ _ _ (@pe_ix _ _ _ _ _ _ _ ixT0 (pv 2) pe_int (fun _ _ => rfl)) (@pa_cons _ _ _ _ _ (@pe_ix _ _ _ _ _ _ _ ixT0 (pv 3) pe_int (fun _ _ => rfl)) pa_nil (by rfl)) (by rfl)) (by rfl))) (by rfl) (by first | exact .inl rfl | exact .inr rfl | assumption)))) (@pss_consM _ _ _ _ _ (@ps_if _ _ _ _ _ _ _ _ (@pt_cmpR _ _ _ _ _ _ _ _ op_gt (@pe_op _ _ _ _ _ _ _ _ op_add (pv 4) (@pe_ix _ _ _ _ _ _ _ ixT0 (pv 3) pe_int (fun _ _ => rfl))) pe_int (nomark _)) (@pss_one _ _ _ (@ps_set _ _ (1) _ _ _ _ nd rfl (Or.inl rfl) pe_str (by rfl) (by first | exact .inl rfl | exact .inr rfl | assumption))) pss_nil) (@pss_cons _ _ _ _ _ (@ps_set _ _ (5) _ _ _ _ nd rfl (Or.inl rfl) (@pe_op _ _ _ _ _ _ _ _ op_mod (pv 0) pe_int) (by rfl) (by first | exact .inl rfl | exact .inr rfl | assumption)) (@pss_cons _ _ _ _ _ (@ps_set _ _ (7) _ _ _ _ nd rfl (Or.inl rfl) (@pe_call _ _ _ _ _ _ _ _ _ _ _ _ _ _ _ _ GD hr rfl DD.m DD.F.kp DD.b .nil pass0 (@pa_cons _ _ _ _ _ (@pe_op _ _ _ _ _ _ _ _ op_fdiv (pv 0) pe_int) (@pa_cons _ _ _ _ _ (pv 5) (@pa_cons _ _ _ _ _ (pv 4) pa_nil (by rfl)) (by rfl)) (by rfl)) (by decide) (by rfl) (by rfl)) (by rfl) (by first | exact .inl rfl | exact .inr rfl | assumption)) (@pss_cons _ _ _ _ _ (@ps_set _ _ (6) _ _ _ _ nd rfl (Or.inl rfl) (@pe_tupS _ _ _ _ _ (@pa_cons _ _ _ _ _ (pv 1) (@pa_cons _ _ _ _ _ (@pe_ix _ _ _ _ _ _ _ ixT0 (pv 2) pe_int (fun _ _ => rfl)) (@pa_cons _ _ _ _ _ (@pe_ix _ _ _ _ _ _ _ ixT0 (pv 3) pe_int (fun _ _ => rfl)) (@pa_cons _ _ _ _ _ (@pe_callTy _ _ _ _ _ _ _ _ _ (tupK K) rfl X.tuple b_tuple (@pa_cons _ _ _ _ _ (@pe_listzip _ _ _ _ _ _ _ _ rfl X.list rfl X.zip rfl (@pa_cons _ _ _ _ _ (pv 7) (@pa_cons _ _ _ _ _ (@pe_call _ _ _ _ _ _ _ _ _ _ _ _ _ _ _ _ GD hr rfl DD.m DD.F.kp DD.b .nil pass0 (@pa_cons _ _ _ _ _ (@pe_op _ _ _ _ _ _ _ _ op_fdiv (pv 0) pe_int) (@pa_cons _ _ _ _ _ (pv 5) (@pa_cons _ _ _ _ _ (@pe_ix _ _ _ _ _ _ _ ixT0 (pv 3) pe_int (fun _ _ => rfl)) pa_nil (by rfl)) (by rfl)) (by rfl)) (by decide) (by rfl) (by rfl)) pa_nil (by rfl)) (by rfl)) (by rfl) (by rfl) (by rfl)) pa_nil (by rfl)) (by decide) (by decide) (by rfl) (by rfl)) pa_nil (by rfl)) (by rfl)) (by rfl)) (by rfl))) (by rfl) (by first | exact .inl rfl | exact .inr rfl | assumption)) (@pss_one _ _ _ (@ps_if _ _ _ _ _ _ _ _ (@pt_cmpR _ _ _ _ _ _ _ _ op_ne (pv 1) pe_str (nomark _)) (@pss_one _ _ _ (@ps_set _ _ (4) _ _ _ _ nd rfl (Or.inl rfl) (@pe_op _ _ _ _ _ _ _ _ op_add (pv 4) (@pe_ix _ _ _ _ _ _ _ ixT0 (pv 3) pe_int (fun _ _ => rfl))) (by rfl) (by first | exact .inl rfl | exact .inr rfl | assumption))) pss_nil))))))) (@pss_one _ _ _ (@ps_ret _ _ _ _ (@pe_tupS _ _ _ _ _ (@pa_cons _ _ _ _ _ (pv 6) (@pa_cons _ _ _ _ _ (pv 4) (@pa_cons _ _ _ _ _ (@pe_op _ _ _ _ _ _ _ _ op_add (@pe_op _ _ _ _ _ _ _ _ op_add (@pe_op _ _ _ _ _ _ _ _ op_add pe_int (pv 5)) (@pe_ix _ _ _ _ _ _ _ ixT0 (pv 2) pe_int (fun _ _ => rfl))) (@pe_ix _ _ _ _ _ _ _ ixT0 (pv 3) pe_int (fun _ _ => rfl))) (@pa_cons _ _ _ _ _ (@pe_op _ _ _ _ _ _ _ _ op_add (@pe_op _ _ _ _ _ _ _ _ op_add (@pe_op _ _ _ _ _ _ _ _ op_add pe_int (@pe_op _ _ _ _ _ _ _ _ op_mul pe_int (pv 5))) (@pe_ix _ _ _ _ _ _ _ ixT0 (pv 2) pe_int (fun _ _ => rfl))) (@pe_ix _ _ _ _ _ _ _ ixT0 (pv 3) pe_int (fun _ _ => rfl))) (@pa_cons _ _ _ _ _ (@pe_op _ _ _ _ _ _ _ _ op_add pe_int (@pe_callB _ _ _ _ _ _ _ _ _ (call_max2 rfl) (by rfl) X.max b_max (@pa_cons _ _ _ _ _ (@pe_ix _ _ _ _ _ _ _ ixT0 (pv 2) pe_int (fun _ _ => rfl)) (@pa_cons _ _ _ _ _ (@pe_ix _ _ _ _ _ _ _ ixT0 (pv 3) pe_int (fun _ _ => rfl)) pa_nil (by rfl)) (by rfl)) (by decide) (by decide) (by rfl) (by rfl))) pa_nil (by rfl)) (by rfl)) (by rfl)) (by rfl)) (by rfl)))))))), ?_⟩
    first | refine wT0 rfl (id hr1) rfl ?_ | refine ⟨_, rfl, r1, _, _, _, rfl, rfl, id hr1, rfl, ?_⟩
    refine ⟨fun σ' H' => ∃ (wd' : Str) (r2' : Addr) (w' m : Int) (tv : Addr) (bs : List V) (v2' : V) (s2' sg2' d2' w2' : Int) (x7 : Option V), σ' = [some (.int n), some (.str wd'), some (.ref r1), some (.ref r2'), some (.int w'), some (.int m), some (.ref tv), x7] ∧ Same H H' ∧ H' r2' = some (.tup [v2', .int w2', .int s2', .int sg2', .int d2']) ∧ (∀ E, C E → Vw (d2'.toNat + 1) H' E v2' w2' s2') ∧ H' tv = some (.tup (.str wd' :: v1 :: v2' :: bs)) ∧ TwoB H' wd' bs w1 w2' w' m ∧ 1 ≤ w' ∧ w' ≤ 12 ∧ ((AlW wd ∨ wd = "notin") → w' = w1), ?_, ?_⟩
    case refine_2 =>
      rintro _ H6 ⟨wd', r2', w', m, tv, bs, v2', s2', sg2', d2', w2', x7, rfl, s6, hr2', hv2', htv, hB, h1, h2, hw⟩
      have hr16 := s6 _ _ hr1
      refine EVA.tup (EVA.cons (EV.var rfl) (EVA.cons (EV.var rfl) (EVA.cons (EV.op0 (EV.op0 (EV.op0 EV.c (EV.var rfl)) (EV.ix rfl (id hr16) rfl)) (EV.ix rfl (id hr2') rfl)) (EVA.cons (EV.op0 (EV.op0 (EV.op0 EV.c (EV.opC EV.c (EV.var rfl) (.inl ⟨by decide, by decide⟩))) (EV.ix rfl (id hr16) rfl)) (EV.ix rfl (id hr2') rfl)) (EVA.cons (EV.op0 EV.c (EV.max2 (EVA.cons (EV.ix rfl (id hr16) rfl) (EVA.cons (EV.ix rfl (id hr2') rfl) EVA.nil)))) EVA.nil))))) (l4 rfl) (fun t H7 s7 e7 => ?_)
      exact k t _ _ H7 (s6.trans s7) (Rc.two e7 (fun E hE => (hv1 E hE).same s6.t) hv2' s7.t hd1 (mxL _ _) (mxR _ _) (s7 _ _ htv) (hB.same s7.t) h1 h2) (mx1 _ hd1) hw
    first | refine wV rfl ?_ | refine ⟨_, rfl, ?_⟩
    refine ⟨l4 rfl, ?_⟩
    refine fun tw H0 s0 ew => ?_
    refine ⟨tw, _, rfl, .inr (SqT.of ew), rfl, rfl, _, rfl, ?_⟩
    have hr10 := s0 _ _ hr1
    have hr20 := s0 _ _ hr2
    rcases hW with hA | hW
    · refine iteP (by rcases hA with rfl | rfl | rfl | rfl <;> decide +kernel) ?_
      first | refine wV rfl ?_ | refine ⟨_, rfl, ?_⟩
      first | refine wV rfl ?_ | refine ⟨_, rfl, ?_⟩
      refine ⟨r2, C, w2, d2, w1, rfl, hR2.same s0.t, hw11, hw12, ?_⟩
      refine fun r3 d3 H1 e1 hR3 hd31 hd32 => ?_
      obtain ⟨v3, s3, sg3, hr3, hw31, hw32, hd3, hv3⟩ := hR3
      have hr11 := e1 _ _ hr10
      first | refine wV rfl ?_ | refine ⟨_, rfl, ?_⟩
      first | refine wT0 rfl (id hr11) rfl ?_ | refine ⟨_, rfl, r1, _, _, _, rfl, rfl, id hr11, rfl, ?_⟩
      first | refine wT0 rfl (id hr3) rfl ?_ | refine ⟨_, rfl, r3, _, _, _, rfl, rfl, id hr3, rfl, ?_⟩
      refine ⟨l4 rfl, ?_⟩
      refine fun tv H2 e2 ev => ?_
      refine ⟨wd, r3, w1, 0, tv, [], v3, s3, sg3, d3, w1, none, rfl, s0.trans (e1.trans e2), e2 _ _ hr3, fun E hE => (hv3 E hE).same e2.t, ev, .alike hA, hw11, hw12, ?_⟩
      refine fun _ => ?_
      refine rfl
    · refine iteQ (by rcases hW with rfl | rfl | rfl <;> decide +kernel) ?_
      refine ⟨fun σ' H' => H' = H0 ∧ ∃ wd', σ' = [some (.int n), some (.str wd'), some (.ref r1), some (.ref r2), some (.int w1), some (.int 0), none, none] ∧ (wd' = "notin" ∨ ((wd' = "join" ∨ wd' = "left") ∧ w1 + w2 ≤ 12)) ∧ ((AlW wd ∨ wd = "notin") → wd' = "notin"), ⟨_, rfl, _, rfl, r2, _, _, _, rfl, rfl, id hr20, rfl, _, _, rfl, rfl, _, _, rfl, rfl, _, rfl, ite2 (fun _ => ⟨rfl, _, rfl, .inl rfl, fun _ => rfl⟩) (fun hgt => ⟨rfl, wd, rfl, ?_, ?_⟩)⟩, ?_⟩
      · have hle : w1 + w2 ≤ 12 := by
          have : ¬ (12 : Int) < w1 + w2 := fun z => hgt (decide_eq_true z)
          omega
        rcases hW with rfl | rfl | rfl
        · exact .inr ⟨.inl rfl, hle⟩
        · exact .inr ⟨.inr rfl, hle⟩
        · exact .inl rfl
      · intro z
        rcases hW with rfl | rfl | rfl
        · exact absurd z (by unfold AlW; decide +kernel)
        · exact absurd z (by unfold AlW; decide +kernel)
        · rfl
      · rintro _ _ ⟨rfl, u, rfl, hu, hun⟩
        first | refine wV rfl ?_ | refine ⟨_, rfl, ?_⟩
        first | refine wC (show (0 : Int) < 13 by decide) ?_ | refine wCc (show (0 : Int) < 13 by decide) ?_ | refine ⟨_, _, rfl, rfl, (show (0 : Int) < 13 by decide), ?_⟩
        first | refine wV rfl ?_ | refine ⟨_, rfl, ?_⟩
        first | refine wC ⟨by decide, by decide⟩ ?_ | refine wCc ⟨by decide, by decide⟩ ?_ | refine ⟨_, _, rfl, rfl, ⟨by decide, by decide⟩, ?_⟩
        first | refine wV rfl ?_ | refine ⟨_, rfl, ?_⟩
        first | refine wV rfl ?_ | refine ⟨_, rfl, ?_⟩
        refine ⟨n / 13, n % 13, w1, rfl, hm0, hm1, by omega, by omega, ?_⟩
        refine fun la H1 as s1 hal has e1 => ?_
        have hr11 := s1 _ _ hr10
        have hr21 := s1 _ _ hr20
        first | refine wV rfl ?_ | refine ⟨_, rfl, ?_⟩
        first | refine wT0 rfl (id hr11) rfl ?_ | refine ⟨_, rfl, r1, _, _, _, rfl, rfl, id hr11, rfl, ?_⟩
        first | refine wT0 rfl (id hr21) rfl ?_ | refine ⟨_, rfl, r2, _, _, _, rfl, rfl, id hr21, rfl, ?_⟩
        first | refine wV rfl ?_ | refine ⟨_, rfl, ?_⟩
        first | refine wV rfl ?_ | refine ⟨_, rfl, ?_⟩
        first | refine wC ⟨by decide, by decide⟩ ?_ | refine wCc ⟨by decide, by decide⟩ ?_ | refine ⟨_, _, rfl, rfl, ⟨by decide, by decide⟩, ?_⟩
        first | refine wV rfl ?_ | refine ⟨_, rfl, ?_⟩
        first | refine wT0 rfl (id hr21) rfl ?_ | refine ⟨_, rfl, r2, _, _, _, rfl, rfl, id hr21, rfl, ?_⟩
        refine ⟨n / 17, n % 13, w2, rfl, hm0, hm1, by omega, by omega, ?_⟩
        refine fun lb H2 bs s2 hbl hbs e2 => ?_
        refine ⟨la, lb, _, _, rfl, SqL.of (s2 _ _ e1), SqL.of e2, by rw [List.length_map, List.length_map]; omega, by rw [List.length_map]; omega, fun l ts H3 s3 e3 hts => ?_⟩
        refine ⟨l, _, rfl, .inl ⟨SqL.of e3, fun tp htp => ?_⟩⟩
        have s4 : Same H3 (upd H3 tp (.tup (ts.map V.ref))) := (Same.refl H3).upd htp
        have hp : (upd H3 tp (.tup (ts.map V.ref))) tp = some (.tup (ts.map V.ref)) := upd_same
        refine ⟨l4 rfl, ?_⟩
        refine fun tv H5 s5 e5 => ?_
        have s05 := s0.trans (s1.trans (s2.trans (s3.trans (s4.trans s5))))
        have hzl : (as.zip bs).length = as.length := by rw [List.length_zip]; omega
        have hP : Prs H5 (.ref tp) (as.zip bs) w1 w2 := ⟨tp, _, rfl, s5 _ _ hp, by omega, Paired.mapP (prs_of hts) fun _ _ ⟨u, a, b⟩ => ⟨u, a, s5 _ _ (s4 _ _ b)⟩, fun p hp' => ⟨(has _ (List.of_mem_zip hp').1).2, (hbs _ (List.of_mem_zip hp').2).2⟩⟩
        have hml : ((as.zip bs).length : Int) = n % 13 := by omega
        have hr25 := s05 _ _ hr2
        have hv25 : ∀ E, C E → Vw (d2.toNat + 1) H5 E v2 w2 s2' := fun E hE => (hv2 E hE).same s05.t
        refine ⟨_, rfl, rfl, _, rfl, ?_⟩
        rcases hu with rfl | ⟨hu, hle⟩
        · refine iteQ (by decide +kernel) ?_
          refine ⟨"notin", r2, w1, n % 13, tv, [.ref tp], v2, s2', sg2, d2, w2, _, rfl, s05, hr25, hv25, e5, hml ▸ .notin hP, hw11, hw12, fun _ => rfl⟩
        · refine iteP (by rcases hu with rfl | rfl <;> decide +kernel) ?_
          first | refine wV rfl ?_ | refine ⟨_, rfl, ?_⟩
          first | refine wT0 rfl (id hr25) rfl ?_ | refine ⟨_, rfl, r2, _, _, _, rfl, rfl, id hr25, rfl, ?_⟩
          first | refine wI ?_ | refine wIc ?_ | refine ⟨_, _, rfl, rfl, ?_⟩
          refine ⟨u, r2, w1 + w2, n % 13, tv, [.ref tp], v2, s2', sg2, d2, w2, _, rfl, s05, hr25, hv25, e5, hml ▸ .join hu hP, by omega, hle, fun z => by have := hun z; rcases hu with h | h <;> · rw [h] at this; exact absurd this (by decide +kernel)⟩
end
end VK
namespace VK
open PySem PySem.Spec PyProof.Rows L2
section
variable {P : Program} {w : World} {K : PySem.W.Frag} {mg : Str → Option Value} {base : Heap}
/-- environments before and behind a new name for rounds -/
structure NewC (C C' : Env → Prop) (x : Str) : Prop where
  sub : ∀ E, C' E → C E
  non : ∀ E, C' E → E x = Option.none
  put : ∀ E p, C' E → C (E.put x p)
  xi : ∀ E p, C' E → (E.put x p) (x ++ "i") = Option.none
theorem mxN {a b : Int} (h : a ≤ b) : a.toNat + 1 ≤ b.toNat + 1 := by omega
theorem mxU {b : Int} (h : 0 ≤ b) : b.toNat + 1 + 1 ≤ (1 + b).toNat + 1 := by omega
theorem put_same {E : Env} {x : Str} {p : Int × Int} : (E.put x p) x = some p := if_pos rfl
theorem x_xi (x : Str) : x ≠ x ++ "i" := fun e => by
  have h := congrArg Str.length e
  rw [len_cat] at h
  have h1 : (Str.ofString "i").length = 1 := by decide +kernel
  omega
abbrev sRnd : Stmt := top 23
abbrev psRnd : List Str := ["_law_number", "_law_now", "_law_kept", "_law_name"]
abbrev nRnd : List Str := ["_law_number", "_law_now", "_law_kept", "_law_name", "_law_leaf", "_law_one_here", "_law_other", "_law_word", "_law_inner", "_law_view", "_law_many"]
def spRnd : Sp := fun vs H Q _ => ∃ (n : Int) (r1 r2 : Addr) (x : Str) (C C' : Env → Prop) (w1 d1 w2 d2 : Int), vs = [.int n, .ref r1, .ref r2, .str x] ∧ Rc H C r1 w1 d1 ∧ Rc H C r2 w2 d2 ∧ x.length ≤ 100 ∧ NewC C C' x ∧ ∀ r' w' d' H', Same H H' → Rc H' C' r' w' d' → Q (.ref r') H'
theorem scRnd : FnScope nRnd psRnd (defScope sRnd) := ⟨rfl, rfl, rfl, by decide +kernel, rfl, by decide +kernel, by decide +kernel⟩
def w6 : List Str := ["pour", "both", "either", "less", "notin", "left"]
theorem all6 : ∀ k : Fin 6, TwoW (w6.getD k.val "") ∧ atI [V.str "pour", .str "both", .str "either", .str "less", .str "notin", .str "left"] (k.val : Int) = some (.str (w6.getD k.val "")) := by
  unfold TwoW AlW
  decide +kernel
theorem pick6 (c : Int) : ∃ u : Str, TwoW u ∧ atI [V.str "pour", .str "both", .str "either", .str "less", .str "notin", .str "left"] (c % 6) = some (.str u) := by
  have h1 := Int.emod_nonneg c (show (6 : Int) ≠ 0 by decide)
  have h2 := Int.emod_lt_of_pos c (show (0 : Int) < 6 by decide)
  rw [show c % 6 = (((⟨(c % 6).toNat, by omega⟩ : Fin 6)).val : Int) from (Int.toNat_of_nonneg h1).symm]
  exact ⟨_, all6 _⟩
theorem okRnd {f fF fT fO fD : Addr} {fd fdF fdT fdO fdD : FuncData} (D : Fn K mg "_law_rounds" sRnd psRnd f fd) (X : Txt mg) (DF : Fn K mg "_law_fitted" sFit psFit fF fdF) (DT : Fn K mg "_law_two" sTwo psTwo fT fdT) (DO : Fn K mg "_law_once" sOnceR psOnceR fO fdO) (DD : Fn K mg "_law_digits" sDigits psDigits fD fdD) : FnOk P w K mg base CX0 3 f fd psRnd spRnd := by
  have GF : FnOk P w K mg base CX0 2 fF fdF psFit spFit := (okFit DF X).mono (by decide)
  have GT : FnOk P w K mg base CX0 2 fT fdT psTwo spTwo := okTwo DT X DF DD
  have GO : FnOk P w K mg base CX0 2 fO fdO psOnceR spOnceR := (okOnceR DO).mono (by decide)
  refine D.F.ok (k := 2) scRnd (fun vs H Q E h => ?_) (fun cdv A outer s H vs Q E hr h => ?_)
  · obtain ⟨_, _, _, _, _, _, _, _, _, _, rfl, _⟩ := h
    rfl
  · refine Classical.byContradiction fun hG0 => ?_
    obtain ⟨n, r1, r2, x, C, C', w1, d1, w2, d2, rfl, hR1, hR2, hx, hC, k⟩ := h
    refine hG0 ?_
    clear hG0
    obtain ⟨v1, s1, sg1, hr1, hw11, hw12, hd1, hv1⟩ := id hR1
    have nd := scRnd.nd
    have hxl : x.length + (Str.ofString "i").length ≤ sizeLine := by
      have h1 : (Str.ofString "i").length = 1 := by decide +kernel
      rw [h1]
      exact Nat.le_trans (show x.length + 1 ≤ 101 by omega) (by decide)
    refine ⟨_, (@pss_cons _ _ _ _ _ (@ps_set _ _ (4) _ _ _ _ nd rfl (Or.inl rfl) (@pe_tupS _ _ _ _ _ (@pa_cons _ _ _ _ _ (@pe_tupS _ _ _ _ _ (@pa_cons _ _ _ _ _ pe_str (@pa_cons _ _ _ _ _ (pv 3) pa_nil (by rfl)) (by rfl))) (@pa_cons _ _ _ _ _ (@pe_ix _ _ _ _ _ _ _ ixT0 (pv 1) pe_int (fun _ _ => rfl)) (@pa_cons _ _ _ _ _ pe_int (@pa_cons _ _ _ _ _ pe_int (@pa_cons _ _ _ _ _ pe_int pa_nil (by rfl)) (by rfl)) (by rfl)) (by rfl)) (by rfl))) (by rfl) (by first | exact .inl rfl | exact .inr rfl | assumption)) (@pss_cons _ _ _ _ _ (@ps_swap _ (5) (6) _ _ _ _ _ _ _ _ _ _ _ nd rfl rfl (Or.inl rfl) (Or.inl rfl) rfl (@pa_cons _ _ _ _ _ (pv 4) (@pa_cons _ _ _ _ _ (@pe_call _ _ _ _ _ _ _ _ _ _ _ _ _ _ _ _ GF hr rfl DF.m DF.F.kp DF.b .nil pass0 (@pa_cons _ _ _ _ _ (pv 2) (@pa_cons _ _ _ _ _ (@pe_ix _ _ _ _ _ _ _ ixT0 (pv 1) pe_int (fun _ _ => rfl)) pa_nil (by rfl)) (by rfl)) (by decide) (by rfl) (by rfl)) pa_nil (by rfl)) (by rfl)) (by rfl) (by rfl) (by first | exact .inl rfl | exact .inr rfl | assumption) (by first | exact .inl rfl | exact .inr rfl | assumption)) (@pss_consM _ _ _ _ _ (@ps_if _ _ _ _ _ _ _ _ (@pt_cmpR _ _ _ _ _ _ _ _ op_eq (@pe_op _ _ _ _ _ _ _ _ op_mod (pv 0) pe_int) pe_int (nomark _)) (@pss_one _ _ _ (@ps_swap _ (5) (6) _ _ _ _ _ _ _ _ _ _ _ nd rfl rfl (Or.inl rfl) (Or.inl rfl) rfl (@pa_cons _ _ _ _ _ (pv 6) (@pa_cons _ _ _ _ _ (pv 4) pa_nil (by rfl)) (by rfl)) (by rfl) (by rfl) (by first | exact .inl rfl | exact .inr rfl | assumption) (by first | exact .inl rfl | exact .inr rfl | assumption))) pss_nil) (@pss_consM _ _ _ _ _ (@ps_if _ _ _ _ _ _ _ _ (@pt_cmpR _ _ _ _ _ _ _ _ op_eq (@pe_op _ _ _ _ _ _ _ _ op_mod (pv 0) pe_int) pe_int (nomark _)) (@pss_one _ _ _ (@ps_set _ _ (6) _ _ _ _ nd rfl (Or.inl rfl) (pv 4) (by rfl) (by first | exact .inl rfl | exact .inr rfl | assumption))) pss_nil) (@pss_cons _ _ _ _ _ (@ps_set _ _ (7) _ _ _ _ nd rfl (Or.inl rfl) (@pe_ix _ _ _ _ _ _ _ ixL0 (@pe_lstS _ _ _ _ (@pa_cons _ _ _ _ _ pe_str (@pa_cons _ _ _ _ _ pe_str (@pa_cons _ _ _ _ _ pe_str (@pa_cons _ _ _ _ _ pe_str (@pa_cons _ _ _ _ _ pe_str (@pa_cons _ _ _ _ _ pe_str pa_nil (by rfl)) (by rfl)) (by rfl)) (by rfl)) (by rfl)) (by rfl))) (@pe_op _ _ _ _ _ _ _ _ op_mod (@pe_op _ _ _ _ _ _ _ _ op_fdiv (pv 0) pe_int) pe_int) (fun _ _ => rfl)) (by rfl) (by first | exact .inl rfl | exact .inr rfl | assumption)) (@pss_cons _ _ _ _ _ (@ps_set _ _ (8) _ _ _ _ nd rfl (Or.inl rfl) (@pe_call _ _ _ _ _ _ _ _ _ _ _ _ _ _ _ _ GF hr rfl DF.m DF.F.kp DF.b .nil pass0 (@pa_cons _ _ _ _ _ (@pe_call _ _ _ _ _ _ _ _ _ _ _ _ _ _ _ _ GT hr rfl DT.m DT.F.kp DT.b .nil pass0 (@pa_cons _ _ _ _ _ (@pe_op _ _ _ _ _ _ _ _ op_fdiv (pv 0) pe_int) (@pa_cons _ _ _ _ _ (pv 7) (@pa_cons _ _ _ _ _ (pv 5) (@pa_cons _ _ _ _ _ (pv 6) pa_nil (by rfl)) (by rfl)) (by rfl)) (by rfl)) (by decide) (by rfl) (by rfl)) (@pa_cons _ _ _ _ _ (@pe_ix _ _ _ _ _ _ _ ixT0 (pv 1) pe_int (fun _ _ => rfl)) pa_nil (by rfl)) (by rfl)) (by decide) (by rfl) (by rfl)) (by rfl) (by first | exact .inl rfl | exact .inr rfl | assumption)) (@pss_consM _ _ _ _ _ (@ps_if _ _ _ _ _ _ _ _ (@pt_cmpR _ _ _ _ _ _ _ _ op_eq (@pe_op _ _ _ _ _ _ _ _ op_mod (@pe_op _ _ _ _ _ _ _ _ op_fdiv (pv 0) pe_int) pe_int) pe_int (nomark _)) (@pss_one _ _ _ (@ps_set _ _ (8) _ _ _ _ nd rfl (Or.inl rfl) (@pe_call _ _ _ _ _ _ _ _ _ _ _ _ _ _ _ _ GO hr rfl DO.m DO.F.kp DO.b .nil pass0 (@pa_cons _ _ _ _ _ (pv 8) pa_nil (by rfl)) (by decide) (by rfl) (by rfl)) (by rfl) (by first | exact .inl rfl | exact .inr rfl | assumption))) pss_nil) (@pss_consM _ _ _ _ _ (@ps_if _ _ _ _ _ _ _ _ (@pt_cmpR _ _ _ _ _ _ _ _ op_eq (@pe_op _ _ _ _ _ _ _ _ op_mod (@pe_op _ _ _ _ _ _ _ _ op_fdiv (pv 0) pe_int) pe_int) pe_int (nomark _)) (@pss_cons _ _ _ _ _ (@ps_set _ _ (9) _ _ _ _ nd rfl (Or.inl rfl) (@pe_tupS _ _ _ _ _ (@pa_cons _ _ _ _ _ pe_str (@pa_cons _ _ _ _ _ (@pe_op _ _ _ _ _ _ _ _ op_add_str (pv 3) pe_str) (@pa_cons _ _ _ _ _ pe_int (@pa_cons _ _ _ _ _ (@pe_ix _ _ _ _ _ _ _ ixT0 (pv 8) pe_int (fun _ _ => rfl)) (@pa_cons _ _ _ _ _ (@pe_tupS _ _ _ _ _ (@pa_cons _ _ _ _ _ pe_str (@pa_cons _ _ _ _ _ (@pe_tupS _ _ _ _ _ (@pa_cons _ _ _ _ _ pe_str (@pa_cons _ _ _ _ _ (pv 3) pa_nil (by rfl)) (by rfl))) (@pa_cons _ _ _ _ _ (@pe_ix _ _ _ _ _ _ _ ixT0 (@pe_call _ _ _ _ _ _ _ _ _ _ _ _ _ _ _ _ GO hr rfl DO.m DO.F.kp DO.b .nil pass0 (@pa_cons _ _ _ _ _ (pv 4) pa_nil (by rfl)) (by decide) (by rfl) (by rfl)) pe_int (fun _ _ => rfl)) pa_nil (by rfl)) (by rfl)) (by rfl))) pa_nil (by rfl)) (by rfl)) (by rfl)) (by rfl)) (by rfl))) (by rfl) (by first | exact .inl rfl | exact .inr rfl | assumption)) (@pss_cons _ _ _ _ _ (@ps_set _ _ (9) _ _ _ _ nd rfl (Or.inl rfl) (@pe_tupS _ _ _ _ _ (@pa_cons _ _ _ _ _ (@pe_ix _ _ _ _ _ _ _ ixT0 (pv 9) pe_int (fun _ _ => rfl)) (@pa_cons _ _ _ _ _ (@pe_ix _ _ _ _ _ _ _ ixT0 (pv 9) pe_int (fun _ _ => rfl)) (@pa_cons _ _ _ _ _ (@pe_ix _ _ _ _ _ _ _ ixT0 (pv 9) pe_int (fun _ _ => rfl)) (@pa_cons _ _ _ _ _ (@pe_ix _ _ _ _ _ _ _ ixT0 (pv 9) pe_int (fun _ _ => rfl)) (@pa_cons _ _ _ _ _ (@pe_tupS _ _ _ _ _ (@pa_cons _ _ _ _ _ pe_str (@pa_cons _ _ _ _ _ (@pe_ix _ _ _ _ _ _ _ ixT0 (pv 9) pe_int (fun _ _ => rfl)) (@pa_cons _ _ _ _ _ (@pe_tupS _ _ _ _ _ (@pa_cons _ _ _ _ _ pe_str (@pa_cons _ _ _ _ _ (@pe_op _ _ _ _ _ _ _ _ op_add_str (pv 3) pe_str) pa_nil (by rfl)) (by rfl))) pa_nil (by rfl)) (by rfl)) (by rfl))) pa_nil (by rfl)) (by rfl)) (by rfl)) (by rfl)) (by rfl))) (by rfl) (by first | exact .inl rfl | exact .inr rfl | assumption)) (@pss_one _ _ _ (@ps_set _ _ (8) _ _ _ _ nd rfl (Or.inl rfl) (@pe_tupS _ _ _ _ _ (@pa_cons _ _ _ _ _ (pv 9) (@pa_cons _ _ _ _ _ (@pe_ix _ _ _ _ _ _ _ ixT0 (pv 1) pe_int (fun _ _ => rfl)) (@pa_cons _ _ _ _ _ (@pe_op _ _ _ _ _ _ _ _ op_add (@pe_ix _ _ _ _ _ _ _ ixT0 (pv 8) pe_int (fun _ _ => rfl)) pe_int) (@pa_cons _ _ _ _ _ (@pe_op _ _ _ _ _ _ _ _ op_add pe_int (@pe_ix _ _ _ _ _ _ _ ixT0 (pv 8) pe_int (fun _ _ => rfl))) (@pa_cons _ _ _ _ _ (@pe_op _ _ _ _ _ _ _ _ op_add pe_int (@pe_ix _ _ _ _ _ _ _ ixT0 (pv 8) pe_int (fun _ _ => rfl))) pa_nil (by rfl)) (by rfl)) (by rfl)) (by rfl)) (by rfl))) (by rfl) (by first | exact .inl rfl | exact .inr rfl | assumption))))) pss_nil) (@pss_cons _ _ _ _ _ (@ps_set _ _ (10) _ _ _ _ nd rfl (Or.inl rfl) (@pe_op _ _ _ _ _ _ _ _ op_add pe_int (@pe_op _ _ _ _ _ _ _ _ op_mod (@pe_op _ _ _ _ _ _ _ _ op_fdiv (pv 0) pe_int) pe_int)) (by rfl) (by first | exact .inl rfl | exact .inr rfl | assumption)) (@pss_cons _ _ _ _ _ (@ps_set _ _ (9) _ _ _ _ nd rfl (Or.inl rfl) (@pe_tupS _ _ _ _ _ (@pa_cons _ _ _ _ _ pe_str (@pa_cons _ _ _ _ _ (pv 3) (@pa_cons _ _ _ _ _ (pv 10) (@pa_cons _ _ _ _ _ (@pe_ix _ _ _ _ _ _ _ ixT0 (pv 1) pe_int (fun _ _ => rfl)) (@pa_cons _ _ _ _ _ (@pe_ix _ _ _ _ _ _ _ ixT0 (pv 8) pe_int (fun _ _ => rfl)) pa_nil (by rfl)) (by rfl)) (by rfl)) (by rfl)) (by rfl))) (by rfl) (by first | exact .inl rfl | exact .inr rfl | assumption)) (@pss_one _ _ _ (@ps_ret _ _ _ _ (@pe_tupS _ _ _ _ _ (@pa_cons _ _ _ _ _ (pv 9) (@pa_cons _ _ _ _ _ (@pe_ix _ _ _ _ _ _ _ ixT0 (pv 1) pe_int (fun _ _ => rfl)) (@pa_cons _ _ _ _ _ (@pe_op _ _ _ _ _ _ _ _ op_add (@pe_ix _ _ _ _ _ _ _ ixT0 (pv 1) pe_int (fun _ _ => rfl)) (@pe_op _ _ _ _ _ _ _ _ op_mul (pv 10) (@pe_op _ _ _ _ _ _ _ _ op_add pe_int (@pe_ix _ _ _ _ _ _ _ ixT0 (pv 8) pe_int (fun _ _ => rfl))))) (@pa_cons _ _ _ _ _ (@pe_op _ _ _ _ _ _ _ _ op_add (@pe_op _ _ _ _ _ _ _ _ op_add pe_int (@pe_ix _ _ _ _ _ _ _ ixT0 (pv 1) pe_int (fun _ _ => rfl))) (@pe_ix _ _ _ _ _ _ _ ixT0 (pv 8) pe_int (fun _ _ => rfl))) (@pa_cons _ _ _ _ _ (@pe_op _ _ _ _ _ _ _ _ op_add pe_int (@pe_callB _ _ _ _ _ _ _ _ _ (call_max2 rfl) (by rfl) X.max b_max (@pa_cons _ _ _ _ _ (@pe_ix _ _ _ _ _ _ _ ixT0 (pv 1) pe_int (fun _ _ => rfl)) (@pa_cons _ _ _ _ _ (@pe_ix _ _ _ _ _ _ _ ixT0 (pv 8) pe_int (fun _ _ => rfl)) pa_nil (by rfl)) (by rfl)) (by decide) (by decide) (by rfl) (by rfl))) pa_nil (by rfl)) (by rfl)) (by rfl)) (by rfl)) (by rfl))))))))))))))), ?_⟩
    first | refine wV rfl ?_ | refine ⟨_, rfl, ?_⟩
    refine ⟨l4 rfl, ?_⟩
    refine fun tn H1 e1 hn => ?_
    replace hr1 := e1 _ _ hr1
    first | refine wT0 rfl (id hr1) rfl ?_ | refine ⟨_, rfl, r1, _, _, _, rfl, rfl, id hr1, rfl, ?_⟩
    refine ⟨l4 rfl, ?_⟩
    refine fun tl H2 e2 hl => ?_
    replace hr1 := e2 _ _ hr1
    have e02 := e1.trans e2
    have hleaf : RcS H2 (fun E => E x = some (w1, 1)) tl w1 1 0 := ⟨.ref tn, 9, hl, hw11, hw12, Int.le_refl _, fun E hE => Vw.name (e2 _ _ hn) hE hw12⟩
    first | refine wV rfl ?_ | refine ⟨_, rfl, ?_⟩
    first | refine wV rfl ?_ | refine ⟨_, rfl, ?_⟩
    first | refine wT0 rfl (id hr1) rfl ?_ | refine ⟨_, rfl, r1, _, _, _, rfl, rfl, id hr1, rfl, ?_⟩
    refine ⟨r2, C, w2, d2, w1, rfl, hR2.same e02.t, hw11, hw12, ?_⟩
    refine fun rf df H3 e3 hRf hdf1 hdf2 => ?_
    refine ⟨l4 rfl, ?_⟩
    refine fun ts H4 e4 hts => ?_
    refine ⟨ts, _, _, rfl, hts, ?_⟩
    have e34 := e3.trans e4
    have hD1 : ∀ E' : Env, (∃ E, C' E ∧ E' = E.put x (w1, 1)) → C E' := fun E' ⟨E, hE, e⟩ => e ▸ hC.put E _ hE
    have hD2 : ∀ E' : Env, (∃ E, C' E ∧ E' = E.put x (w1, 1)) → E' x = some (w1, 1) := fun E' ⟨E, hE, e⟩ => e ▸ put_same
    have hLf : Rc H4 (fun E' => ∃ E, C' E ∧ E' = E.put x (w1, 1)) tl w1 0 := ((hleaf.same e34.t).imp hD2).rc
    have hFi : Rc H4 (fun E' => ∃ E, C' E ∧ E' = E.put x (w1, 1)) rf w1 df := (hRf.same e4.t).imp hD1
    have hleaf4 := hleaf.same e34.t
    have hr14 := e34 _ _ hr1
    have hv4 : ∀ E, C E → Vw (d1.toNat + 1) H4 E v1 w1 s1 := fun E hE => (hv1 E hE).same (e02.trans e34).t
    have k4 : ∀ r' w' d' H', Same H4 H' → Rc H' C' r' w' d' → Q (.ref r') H' := fun r' w' d' H' s' => k r' w' d' H' ((e02.trans e34).trans s')
    have hdf : 0 ≤ df := by
      obtain ⟨_, _, _, _, _, _, h, _⟩ := hFi
      exact h
    clear hleaf hRf hR2 hR1 hts e34 e4 e3 e02 e2 e1 hn hl k hv1 hr1
    generalize H4 = H at *
    have k := k4
    have hr1 := hr14
    have hv1 := hv4
    clear k4 hr14 hv4
    refine ⟨fun σ' H' => ∃ (ra rb : Addr) (da db : Int), σ' = [some (.int n), some (.ref r1), some (.ref r2), some (.str x), some (.ref tl), some (.ref ra), some (.ref rb), none, none, none, none] ∧ Same H H' ∧ Rc H' (fun E' => ∃ E, C' E ∧ E' = E.put x (w1, 1)) ra w1 da ∧ Rc H' (fun E' => ∃ E, C' E ∧ E' = E.put x (w1, 1)) rb w1 db, ⟨_, rfl, _, _, rfl, rfl, (show (0 : Int) < 4 by decide), rfl, _, rfl, ite2 (fun _ => ?_) (fun _ => ⟨tl, rf, 0, df, rfl, Same.refl H, hLf, hFi⟩)⟩, ?_⟩
    · first | refine wV rfl ?_ | refine ⟨_, rfl, ?_⟩
      first | refine wV rfl ?_ | refine ⟨_, rfl, ?_⟩
      refine ⟨l4 rfl, ?_⟩
      refine fun t1 H1 e1 h1 => ?_
      refine ⟨t1, _, _, rfl, h1, rf, tl, df, 0, rfl, e1, hFi.same e1.t, hLf.same e1.t⟩
    rintro _ H1 ⟨ra, rb, da, db, rfl, e1, hRa, hRb⟩
    refine ⟨fun σ' H' => ∃ (ra rb : Addr) (da db : Int), σ' = [some (.int n), some (.ref r1), some (.ref r2), some (.str x), some (.ref tl), some (.ref ra), some (.ref rb), none, none, none, none] ∧ Same H H' ∧ Rc H' (fun E' => ∃ E, C' E ∧ E' = E.put x (w1, 1)) ra w1 da ∧ Rc H' (fun E' => ∃ E, C' E ∧ E' = E.put x (w1, 1)) rb w1 db, ⟨_, rfl, _, _, rfl, rfl, (show (0 : Int) < 4 by decide), rfl, _, rfl, ite2 (fun _ => ?_) (fun _ => ⟨ra, rb, da, db, rfl, e1, hRa, hRb⟩)⟩, ?_⟩
    · first | refine wV rfl ?_ | refine ⟨_, rfl, ?_⟩
      refine ⟨ra, tl, da, 0, rfl, e1, hRa, ?_⟩
      refine hLf.same e1.t
    clear hRa hRb
    rintro _ H2 ⟨ra, rb, da, db, rfl, e2, hRa, hRb⟩
    obtain ⟨u, hu, hpick⟩ := pick6 (n / 4)
    refine ⟨l4 rfl, ?_⟩
    refine fun lw H3 e3 hlw => ?_
    first | refine wV rfl ?_ | refine ⟨_, rfl, ?_⟩
    first | refine wC ⟨by decide, by decide⟩ ?_ | refine wCc ⟨by decide, by decide⟩ ?_ | refine ⟨_, _, rfl, rfl, ⟨by decide, by decide⟩, ?_⟩
    first | refine wC (show (0 : Int) < 6 by decide) ?_ | refine wCc (show (0 : Int) < 6 by decide) ?_ | refine ⟨_, _, rfl, rfl, (show (0 : Int) < 6 by decide), ?_⟩
    refine ⟨lw, _, _, .str u, rfl, rfl, id hlw, hpick, ?_⟩
    first | refine wV rfl ?_ | refine ⟨_, rfl, ?_⟩
    first | refine wC ⟨by decide, by decide⟩ ?_ | refine wCc ⟨by decide, by decide⟩ ?_ | refine ⟨_, _, rfl, rfl, ⟨by decide, by decide⟩, ?_⟩
    first | refine wV rfl ?_ | refine ⟨_, rfl, ?_⟩
    first | refine wV rfl ?_ | refine ⟨_, rfl, ?_⟩
    first | refine wV rfl ?_ | refine ⟨_, rfl, ?_⟩
    refine ⟨n / 24, u, ra, rb, _, w1, da, w1, db, rfl, hRa.same e3.t, hRb.same e3.t, hu, fun rq wq dq Hq eq hRq hdq _ => ?_⟩
    first | refine wT0 rfl (id (eq _ _ (e3 _ _ (e2 _ _ hr1)))) rfl ?_ | refine ⟨_, rfl, r1, _, _, _, rfl, rfl, id (eq _ _ (e3 _ _ (e2 _ _ hr1))), rfl, ?_⟩
    refine ⟨rq, _, wq, dq, w1, rfl, hRq, hw11, hw12, fun ri di H4 e4' hRi hdi1 hdi2 => ?_⟩
    have hdi : 1 ≤ di := by omega
    have e4 : Same H3 H4 := eq.trans e4'
    have e04 := e2.trans (e3.trans e4)
    refine ⟨fun σ' H' => ∃ (ri : Addr) (di : Int), σ' = [some (.int n), some (.ref r1), some (.ref r2), some (.str x), some (.ref tl), some (.ref ra), some (.ref rb), some (.str u), some (.ref ri), none, none] ∧ Same H H' ∧ Rc H' (fun E' => ∃ E, C' E ∧ E' = E.put x (w1, 1)) ri w1 di ∧ 1 ≤ di, ⟨_, rfl, _, _, rfl, rfl, ⟨by decide, by decide⟩, _, _, rfl, rfl, (show (0 : Int) < 3 by decide), rfl, _, rfl, ite2 (fun _ => ?_) (fun _ => ⟨ri, di, rfl, e04, hRi, hdi⟩)⟩, ?_⟩
    · obtain ⟨s3, hS3⟩ := hRi.toS
      first | refine wV rfl ?_ | refine ⟨_, rfl, ?_⟩
      refine ⟨ri, _, w1, s3, di, rfl, hS3, fun ro H5 e5 hR5 => ⟨ro, _, rfl, e04.trans e5, hR5.rc, by omega⟩⟩
    clear hRi hdi e04
    rintro _ H5 ⟨ri, di, rfl, e5, hRi, hdi⟩
    refine ⟨fun σ' H' => ∃ (ri : Addr) (di : Int) (x8 : Option V), σ' = [some (.int n), some (.ref r1), some (.ref r2), some (.str x), some (.ref tl), some (.ref ra), some (.ref rb), some (.str u), some (.ref ri), x8, none] ∧ Same H H' ∧ Rc H' (fun E' => ∃ E, C' E ∧ E' = E.put x (w1, 1)) ri w1 di, ⟨_, rfl, _, _, rfl, rfl, ⟨by decide, by decide⟩, _, _, rfl, rfl, (show (0 : Int) < 3 by decide), rfl, _, rfl, ite2 (fun _ => ?_) (fun _ => ⟨ri, di, none, rfl, e5, hRi⟩)⟩, ?_⟩
    · obtain ⟨vi, si, sgi, hri, _, _, hdi0, hvi⟩ := hRi
      first | refine wV rfl ?_ | refine ⟨_, rfl, ?_⟩
      first | refine wI ?_ | refine wIc ?_ | refine ⟨_, _, rfl, rfl, ?_⟩
      refine ⟨hxl, ?_⟩
      first | refine wT0 rfl (id hri) rfl ?_ | refine ⟨_, rfl, ri, _, _, _, rfl, rfl, id hri, rfl, ?_⟩
      first | refine wV rfl ?_ | refine ⟨_, rfl, ?_⟩
      refine ⟨l4 rfl, ?_⟩
      refine fun ta Ha ea ha => ?_
      first | refine wV rfl ?_ | refine ⟨_, rfl, ?_⟩
      refine ⟨tl, _, w1, 1, 0, rfl, hleaf4.same (e5.trans ea).t, fun ro Ho eo hRo => ?_⟩
      obtain ⟨vo, sgo, hro, _, _, _, hvo⟩ := hRo
      refine ⟨ro, _, _, _, rfl, rfl, id hro, rfl, l4 rfl, fun tb Hb eb hb => ⟨l4 rfl, fun tc Hc ec hc => ?_⟩⟩
      first | refine wT0 rfl (id hc) rfl ?_ | refine ⟨_, rfl, tc, _, _, _, rfl, rfl, id hc, rfl, ?_⟩
      first | refine wT0 rfl (id hc) rfl ?_ | refine ⟨_, rfl, tc, _, _, _, rfl, rfl, id hc, rfl, ?_⟩
      first | refine wT0 rfl (id hc) rfl ?_ | refine ⟨_, rfl, tc, _, _, _, rfl, rfl, id hc, rfl, ?_⟩
      first | refine wT0 rfl (id hc) rfl ?_ | refine ⟨_, rfl, tc, _, _, _, rfl, rfl, id hc, rfl, ?_⟩
      first | refine wT0 rfl (id hc) rfl ?_ | refine ⟨_, rfl, tc, _, _, _, rfl, rfl, id hc, rfl, ?_⟩
      first | refine wV rfl ?_ | refine ⟨_, rfl, ?_⟩
      first | refine wI ?_ | refine wIc ?_ | refine ⟨_, _, rfl, rfl, ?_⟩
      refine ⟨hxl, l4 rfl, ?_⟩
      refine fun td Hd ed hd => ?_
      refine ⟨l4 rfl, ?_⟩
      refine fun te He ee he => ?_
      refine ⟨l4 rfl, ?_⟩
      refine fun tf Hf ef hf => ?_
      have e5f : Same H5 Hf := ea.trans (eo.trans (eb.trans (ec.trans (ed.trans (ee.trans ef)))))
      have eof : Same Ho Hf := eb.trans (ec.trans (ed.trans (ee.trans ef)))
      have hr1f := e5f _ _ (e5 _ _ hr1)
      have hrif := e5f _ _ hri
      first | refine wV rfl ?_ | refine ⟨_, rfl, ?_⟩
      first | refine wT0 rfl (id hr1f) rfl ?_ | refine ⟨_, rfl, r1, _, _, _, rfl, rfl, id hr1f, rfl, ?_⟩
      first | refine wT0 rfl (id hrif) rfl ?_ | refine ⟨_, rfl, ri, _, _, _, rfl, rfl, id hrif, rfl, ?_⟩
      first | refine wI ?_ | refine wIc ?_ | refine ⟨_, _, rfl, rfl, ?_⟩
      first | refine wT0 rfl (id hrif) rfl ?_ | refine ⟨_, rfl, ri, _, _, _, rfl, rfl, id hrif, rfl, ?_⟩
      first | refine wI ?_ | refine wIc ?_ | refine ⟨_, _, rfl, rfl, ?_⟩
      first | refine wT0 rfl (id hrif) rfl ?_ | refine ⟨_, rfl, ri, _, _, _, rfl, rfl, id hrif, rfl, ?_⟩
      first | refine wI ?_ | refine wIc ?_ | refine ⟨_, _, rfl, rfl, ?_⟩
      refine ⟨l4 rfl, ?_⟩
      refine fun tg Hg eg hg => ?_
      have e5g := e5f.trans eg
      have eog := eof.trans eg
      refine ⟨tg, _, _, rfl, e5.trans e5g, .ref tf, _, _, hg, hw11, hw12, by omega, fun E' hE' => ?_⟩
      have hx1 : (E'.put (x ++ "i") (w1, 1)) x = some (w1, 1) := by
        unfold Env.put
        rw [if_neg (x_xi x)]
        exact hD2 E' hE'
      have hxi : E' (x ++ "i") = none := by
        obtain ⟨E, hE, rfl⟩ := hE'
        exact hC.xi E _ hE
      have w1v : Vw 2 Hg (E'.put (x ++ "i") (w1, 1)) (.ref ta) w1 1 := Vw.name (eog _ _ (eo _ _ ha)) hx1 hw12
      have w2v : Vw 2 Hg (E'.put (x ++ "i") (w1, 1)) vo w1 (1 + 1) := (hvo _ hx1).same eog.t
      have w3v : Vw 3 Hg (E'.put (x ++ "i") (w1, 1)) (.ref tb) w1 _ := Vw.two ((ec.trans (ed.trans (ee.trans (ef.trans eg)))) _ _ hb) w1v w2v (.alike (.inr (.inr (.inl rfl)))) hw12
      have w4v : Vw 3 Hg (E'.put (x ++ "i") (w1, 1)) (.ref td) w1 1 := Vw.name ((ee.trans (ef.trans eg)) _ _ hd) put_same hw12
      have w5v : Vw 4 Hg (E'.put (x ++ "i") (w1, 1)) (.ref te) w1 _ := Vw.two ((ef.trans eg) _ _ he) w3v w4v (.alike (.inr (.inr (.inr rfl)))) hw12
      have w6v := Vw.rounds (n := (3 + di).toNat) (eg _ _ hf) (show (1 : Int) ≤ 2 by decide) (show (2 : Int) ≤ 64 by decide) hxi (((hvi E' hE').same e5g.t).mono (by omega)) (w5v.mono (by omega)) hw12
      exact w6v
    clear hRi hdi
    rintro _ H6 ⟨ri, di, x8, rfl, e6, hRi⟩
    obtain ⟨vi, si, sgi, hrB, _, _, hdi, hvi⟩ := hRi
    have hrA := e6 _ _ hr1
    first | refine wV rfl ?_ | refine ⟨_, rfl, ?_⟩
    first | refine wC ⟨by decide, by decide⟩ ?_ | refine wCc ⟨by decide, by decide⟩ ?_ | refine ⟨_, _, rfl, rfl, ⟨by decide, by decide⟩, ?_⟩
    first | refine wC (show (0 : Int) < 6 by decide) ?_ | refine wCc (show (0 : Int) < 6 by decide) ?_ | refine ⟨_, _, rfl, rfl, (show (0 : Int) < 6 by decide), ?_⟩
    first | refine wI ?_ | refine wIc ?_ | refine ⟨_, _, rfl, rfl, ?_⟩
    first | refine wV rfl ?_ | refine ⟨_, rfl, ?_⟩
    first | refine wV rfl ?_ | refine ⟨_, rfl, ?_⟩
    first | refine wT0 rfl (id hrA) rfl ?_ | refine ⟨_, rfl, r1, _, _, _, rfl, rfl, id hrA, rfl, ?_⟩
    first | refine wT0 rfl (id hrB) rfl ?_ | refine ⟨_, rfl, ri, _, _, _, rfl, rfl, id hrB, rfl, ?_⟩
    refine ⟨l4 rfl, ?_⟩
    refine fun tv Ha ea ev => ?_
    replace hrA := ea _ _ hrA
    replace hrB := ea _ _ hrB
    have hmn := Int.emod_nonneg (n / 65) (show (6 : Int) ≠ 0 by decide)
    have hml := Int.emod_lt_of_pos (n / 65) (show (0 : Int) < 6 by decide)
    refine EVA.tup (EVA.cons (EV.var rfl) (EVA.cons (EV.ix rfl (id hrA) rfl) (EVA.cons (EV.op0 (EV.ix rfl (id hrA) rfl) (EV.opC (EV.var rfl) (EV.op0 EV.c (EV.ix rfl (id hrB) rfl)) (.inl ⟨by show -(2 ^ 64) < 1 + n / 65 % 6; omega, by show 1 + n / 65 % 6 < 2 ^ 64; omega⟩))) (EVA.cons (EV.op0 (EV.op0 EV.c (EV.ix rfl (id hrA) rfl)) (EV.ix rfl (id hrB) rfl)) (EVA.cons (EV.op0 EV.c (EV.max2 (EVA.cons (EV.ix rfl (id hrA) rfl) (EVA.cons (EV.ix rfl (id hrB) rfl) EVA.nil)))) EVA.nil))))) (l4 rfl) (fun t Hb eb et => ?_)
    have sA : Same H Ha := e6.trans ea
    refine k t _ _ Hb (sA.trans eb) ⟨.ref tv, _, _, et, hw11, hw12, by have := mxL d1 di; omega, fun E hE => ?_⟩
    refine (Vw.rounds (n := (if di > d1 then di else d1).toNat + 1) (eb _ _ ev) (by omega) (by omega) (hC.non E hE) (((hv1 E (hC.sub E hE)).same (sA.trans eb).t).mono (mxN (mxL _ _))) (((hvi _ ⟨E, hE, rfl⟩).same (ea.trans eb).t).mono (mxN (mxR _ _))) hw12).mono (mxU (Int.le_trans hd1 (mxL _ _)))
end
end VK
namespace VK
open PySem PySem.Spec PyProof.Rows L2
section
variable {P : Program} {w : World} {K : PySem.W.Frag} {mg : Str → Option Value} {base : Heap}
def strOf : Expr → Option Str
  | .Constant (.str x) _ _ => some x
  | _ => none
def strsOf : List Expr → Option (List Str)
  | [] => some []
  | e :: es => match strOf e, strsOf es with
    | some x, some xs => some (x :: xs)
    | _, _ => none
def tStrs (ss : List Str) : TA := fun _ H Q => Q (ss.map V.str) H
theorem pa_strs {X : Cx} : ∀ {es : List Expr} {ss : List Str}, strsOf es = some ss → PA X es (tStrs ss)
  | [], ss, h => by
    cases h
    exact pa_nil
  | e :: es, ss, h => by
    unfold strsOf at h
    cases h1 : strOf e with
    | none => rw [h1] at h; cases h
    | some x =>
      cases h2 : strsOf es with
      | none => rw [h1, h2] at h; cases h
      | some xs =>
        rw [h1, h2] at h
        cases h
        have ih : PA X es (tStrs xs) := pa_strs h2
        unfold strOf at h1
        split at h1
        · cases h1
          exact pa_cons pe_str ih (by rfl)
        · cases h1
def w16 : List Str := ["sieve", "cols", "once", "count", "sum", "least", "most", "first", "join", "left", "notin", "pour", "both", "either", "less", "rounds"]
theorem all16 : ∀ k : Fin 16, ((w16.getD k.val "" = "rounds" ∨ TwoW (w16.getD k.val "") ∨ OneW (w16.getD k.val "")) ∧ atI [V.str "sieve", V.str "cols", V.str "once", V.str "count", V.str "sum", V.str "least", V.str "most", V.str "first", V.str "join", V.str "left", V.str "notin", V.str "pour", V.str "both", V.str "either", V.str "less", V.str "rounds"] (k.val : Int) = some (.str (w16.getD k.val ""))) := by
  unfold TwoW OneW AlW GrW
  decide +kernel
theorem pick16 (c : Int) (h : 2 ≤ c % 18) : ∃ u : Str, (u = "rounds" ∨ TwoW u ∨ OneW u) ∧ atI [V.str "sieve", V.str "cols", V.str "once", V.str "count", V.str "sum", V.str "least", V.str "most", V.str "first", V.str "join", V.str "left", V.str "notin", V.str "pour", V.str "both", V.str "either", V.str "less", V.str "rounds"] (c % 18 - 2) = some (.str u) := by
  have h2 := Int.emod_lt_of_pos c (show (0 : Int) < 18 by decide)
  obtain ⟨k, hk⟩ : ∃ k : Fin 16, c % 18 - 2 = (k.val : Int) := ⟨⟨(c % 18 - 2).toNat, by omega⟩, by show c % 18 - 2 = ((c % 18 - 2).toNat : Int); omega⟩
  rw [hk]
  exact ⟨_, all16 k⟩
abbrev sNext : Stmt := top 24
abbrev psNext : List Str := ["_law_cell", "_law_number", "_law_now", "_law_kept", "_law_name"]
abbrev nNext : List Str := ["_law_cell", "_law_number", "_law_now", "_law_kept", "_law_name", "_law_word"]
def spNext : Sp := fun vs H Q _ => ∃ (c n : Int) (r1 r2 : Addr) (x : Str) (C C' : Env → Prop) (w1 d1 w2 d2 : Int), vs = [.int c, .int n, .ref r1, .ref r2, .str x] ∧ 2 ≤ c % 18 ∧ Rc H C r1 w1 d1 ∧ Rc H C r2 w2 d2 ∧ x.length ≤ 100 ∧ NewC C C' x ∧ ∀ r' w' d' H', Same H H' → Rc H' C' r' w' d' → Q (.ref r') H'
theorem scNext : FnScope nNext psNext (defScope sNext) := ⟨rfl, rfl, rfl, by decide +kernel, rfl, by decide +kernel, by decide +kernel⟩
theorem okNext {f fR fT fO fF fN fD fA fE fG : Addr} {fd fdR fdT fdO fdF fdN fdD fdA fdE fdG : FuncData} (DZ : Fn K mg "_law_next" sNext psNext f fd) (X : Txt mg) (DR : Fn K mg "_law_rounds" sRnd psRnd fR fdR) (DT : Fn K mg "_law_two" sTwo psTwo fT fdT) (DO : Fn K mg "_law_one" sOne psOne fO fdO) (DF : Fn K mg "_law_fitted" sFit psFit fF fdF) (DN : Fn K mg "_law_once" sOnceR psOnceR fN fdN) (DD : Fn K mg "_law_digits" sDigits psDigits fD fdD) (DA : Fn K mg "_law_asked" sAsked psTerm fA fdA) (DE : Fn K mg "_law_term" sTerm psTerm fE fdE) (DG : Fn K mg "_law_grouped" sGrp psGrp fG fdG) : FnOk P w K mg base CX0 4 f fd psNext spNext := by
  have GR : FnOk P w K mg base CX0 3 fR fdR psRnd spRnd := okRnd DR X DF DT DN DD
  have GT : FnOk P w K mg base CX0 3 fT fdT psTwo spTwo := (okTwo DT X DF DD).mono (by decide)
  have GO : FnOk P w K mg base CX0 3 fO fdO psOne spOne := okOne DO X DA DE DG DD
  refine DZ.F.ok (k := 3) scNext (fun vs H Q E h => ?_) (fun cdv A outer s H vs Q E hr h => ?_)
  · obtain ⟨_, _, _, _, _, _, _, _, _, _, _, rfl, _⟩ := h
    rfl
  · refine Classical.byContradiction fun hG0 => ?_
    obtain ⟨c, n, r1, r2, x, C, C', w1, d1, w2, d2, rfl, hc, hR1, hR2, hx, hC, k⟩ := h
    refine hG0 ?_
    clear hG0
    have nd := scNext.nd
    obtain ⟨u, hu, hpick⟩ := pick16 c hc
    refine ⟨_, (@pss_cons _ _ _ _ _ (@ps_set _ _ (5) _ _ _ _ nd rfl (Or.inl rfl) (@pe_ix _ _ _ _ _ _ _ ixL0 (@pe_lstS _ _ _ _ (@pa_strs _ _ ["sieve", "cols", "once", "count", "sum", "least", "most", "first", "join", "left", "notin", "pour", "both", "either", "less", "rounds"] (by rfl))) (@pe_op _ _ _ _ _ _ _ _ op_sub (@pe_op _ _ _ _ _ _ _ _ op_mod (pv 0) pe_int) pe_int) (fun _ _ => rfl)) (by rfl) (by first | exact .inl rfl | exact .inr rfl | assumption)) (@pss_consM _ _ _ _ _ (@ps_if _ _ _ _ _ _ _ _ (@pt_cmpR _ _ _ _ _ _ _ _ op_eq (@pe_op _ _ _ _ _ _ _ _ op_mod (@pe_op _ _ _ _ _ _ _ _ op_fdiv (pv 0) pe_int) pe_int) pe_int (nomark _)) (@pss_one _ _ _ (@ps_swap _ (2) (3) _ _ _ _ _ _ _ _ _ _ _ nd rfl rfl (Or.inl rfl) (Or.inl rfl) rfl (@pa_cons _ _ _ _ _ (pv 3) (@pa_cons _ _ _ _ _ (pv 2) pa_nil (by rfl)) (by rfl)) (by rfl) (by rfl) (by first | exact .inl rfl | exact .inr rfl | assumption) (by first | exact .inl rfl | exact .inr rfl | assumption))) pss_nil) (@pss_cons _ _ _ _ _ (@ps_if _ _ _ _ _ _ _ _ (@pt_cmpR _ _ _ _ _ _ _ _ op_eq (pv 5) pe_str (nomark _)) (@pss_one _ _ _ (@ps_ret _ _ _ _ (@pe_call _ _ _ _ _ _ _ _ _ _ _ _ _ _ _ _ GR hr rfl DR.m DR.F.kp DR.b .nil pass0 (@pa_cons _ _ _ _ _ (pv 1) (@pa_cons _ _ _ _ _ (pv 2) (@pa_cons _ _ _ _ _ (pv 3) (@pa_cons _ _ _ _ _ (pv 4) pa_nil (by rfl)) (by rfl)) (by rfl)) (by rfl)) (by decide) (by rfl) (by rfl)))) pss_nil) (@pss_cons _ _ _ _ _ (@ps_if _ _ _ _ _ _ _ _ (@pt_cmpR _ _ _ _ _ _ _ _ (inK K) (pv 5) (@pe_tupS _ _ _ _ _ (@pa_cons _ _ _ _ _ pe_str (@pa_cons _ _ _ _ _ pe_str (@pa_cons _ _ _ _ _ pe_str (@pa_cons _ _ _ _ _ pe_str (@pa_cons _ _ _ _ _ pe_str (@pa_cons _ _ _ _ _ pe_str (@pa_cons _ _ _ _ _ pe_str pa_nil (by rfl)) (by rfl)) (by rfl)) (by rfl)) (by rfl)) (by rfl)) (by rfl))) (by with_unfolding_all rfl)) (@pss_one _ _ _ (@ps_ret _ _ _ _ (@pe_call _ _ _ _ _ _ _ _ _ _ _ _ _ _ _ _ GT hr rfl DT.m DT.F.kp DT.b .nil pass0 (@pa_cons _ _ _ _ _ (pv 1) (@pa_cons _ _ _ _ _ (pv 5) (@pa_cons _ _ _ _ _ (pv 2) (@pa_cons _ _ _ _ _ (pv 3) pa_nil (by rfl)) (by rfl)) (by rfl)) (by rfl)) (by decide) (by rfl) (by rfl)))) pss_nil) (@pss_one _ _ _ (@ps_ret _ _ _ _ (@pe_call _ _ _ _ _ _ _ _ _ _ _ _ _ _ _ _ GO hr rfl DO.m DO.F.kp DO.b .nil pass0 (@pa_cons _ _ _ _ _ (pv 1) (@pa_cons _ _ _ _ _ (pv 5) (@pa_cons _ _ _ _ _ (pv 2) pa_nil (by rfl)) (by rfl)) (by rfl)) (by decide) (by rfl) (by rfl)))))))), ?_⟩
    refine ⟨(by show 16 ≤ sizeLine; decide), ?_⟩
    refine fun lw H1 e1 hlw => ?_
    first | refine wV rfl ?_ | refine ⟨_, rfl, ?_⟩
    first | refine wC (show (0 : Int) < 18 by decide) ?_ | refine wCc (show (0 : Int) < 18 by decide) ?_ | refine ⟨_, _, rfl, rfl, (show (0 : Int) < 18 by decide), ?_⟩
    first | refine wI ?_ | refine wIc ?_ | refine ⟨_, _, rfl, rfl, ?_⟩
    refine ⟨lw, _, _, .str u, rfl, rfl, id hlw, hpick, ?_⟩
    refine ⟨fun σ' H' => ∃ (ra rb : Addr) (wa da wb db : Int), σ' = [some (.int c), some (.int n), some (.ref ra), some (.ref rb), some (.str x), some (.str u)] ∧ Same H H' ∧ Rc H' C ra wa da ∧ Rc H' C rb wb db, ⟨_, rfl, _, _, rfl, rfl, ⟨by decide, by decide⟩, _, _, rfl, rfl, (show (0 : Int) < 2 by decide), rfl, _, rfl, ite2 (fun _ => ?_) (fun _ => ⟨r1, r2, w1, d1, w2, d2, rfl, e1, hR1.same e1.t, hR2.same e1.t⟩)⟩, ?_⟩
    · first | refine wV rfl ?_ | refine ⟨_, rfl, ?_⟩
      first | refine wV rfl ?_ | refine ⟨_, rfl, ?_⟩
      refine ⟨l4 rfl, ?_⟩
      refine fun t1 H2 e2 h2 => ?_
      refine ⟨t1, _, _, rfl, h2, r2, r1, w2, d2, w1, d1, rfl, e1.trans e2, hR2.same (e1.trans e2).t, hR1.same (e1.trans e2).t⟩
    rintro _ H2 ⟨ra, rb, wa, da, wb, db, rfl, e2, hRa, hRb⟩
    rcases hu with rfl | hu | hu
    · first | refine wY rfl (by decide +kernel) ?_ | refine ⟨_, rfl, rfl, _, rfl, iteP (by decide +kernel) ?_⟩
      first | refine wV rfl ?_ | refine ⟨_, rfl, ?_⟩
      first | refine wV rfl ?_ | refine ⟨_, rfl, ?_⟩
      first | refine wV rfl ?_ | refine ⟨_, rfl, ?_⟩
      first | refine wV rfl ?_ | refine ⟨_, rfl, ?_⟩
      refine ⟨n, ra, rb, x, C, C', wa, da, wb, db, rfl, hRa, hRb, hx, hC, ?_⟩
      refine fun r' w' d' H' s' hR' => ?_
      refine k r' w' d' H' (e2.trans s') hR'
    · first | refine wN rfl (by rcases hu with (rfl | rfl | rfl | rfl) | rfl | rfl | rfl <;> decide +kernel) ?_ | refine ⟨_, rfl, rfl, _, rfl, iteQ (by rcases hu with (rfl | rfl | rfl | rfl) | rfl | rfl | rfl <;> decide +kernel) ?_⟩
      first | refine wV rfl ?_ | refine ⟨_, rfl, ?_⟩
      refine ⟨l4 rfl, ?_⟩
      refine fun tw H3 e3 hw => ?_
      refine ⟨tw, _, rfl, .inr (SqT.of hw), rfl, rfl, _, rfl, ?_⟩
      refine iteP (by rcases hu with (rfl | rfl | rfl | rfl) | rfl | rfl | rfl <;> decide +kernel) ?_
      first | refine wV rfl ?_ | refine ⟨_, rfl, ?_⟩
      first | refine wV rfl ?_ | refine ⟨_, rfl, ?_⟩
      first | refine wV rfl ?_ | refine ⟨_, rfl, ?_⟩
      first | refine wV rfl ?_ | refine ⟨_, rfl, ?_⟩
      refine ⟨n, u, ra, rb, C, wa, da, wb, db, rfl, hRa.same e3.t, hRb.same e3.t, hu, ?_⟩
      refine fun r' w' d' H' s' hR' _ _ => ?_
      refine k r' w' d' H' (e2.trans (e3.trans s')) (hR'.imp hC.sub)
    · first | refine wN rfl (by rcases hu with rfl | rfl | rfl | (rfl | rfl | rfl | rfl | rfl) <;> decide +kernel) ?_ | refine ⟨_, rfl, rfl, _, rfl, iteQ (by rcases hu with rfl | rfl | rfl | (rfl | rfl | rfl | rfl | rfl) <;> decide +kernel) ?_⟩
      first | refine wV rfl ?_ | refine ⟨_, rfl, ?_⟩
      refine ⟨l4 rfl, ?_⟩
      refine fun tw H3 e3 hw => ?_
      refine ⟨tw, _, rfl, .inr (SqT.of hw), rfl, rfl, _, rfl, ?_⟩
      refine iteQ (by rcases hu with rfl | rfl | rfl | (rfl | rfl | rfl | rfl | rfl) <;> decide +kernel) ?_
      first | refine wV rfl ?_ | refine ⟨_, rfl, ?_⟩
      first | refine wV rfl ?_ | refine ⟨_, rfl, ?_⟩
      first | refine wV rfl ?_ | refine ⟨_, rfl, ?_⟩
      refine ⟨n, u, ra, C, wa, da, rfl, hRa.same e3.t, hu, ?_⟩
      refine fun r' w' H' s' hR' => ?_
      refine k r' w' _ H' (e2.trans (e3.trans s')) (hR'.imp hC.sub)
end
end VK
namespace VK
open PySem PySem.Spec PyProof.Rows L2
section
variable {P : Program} {w : World} {K : PySem.W.Frag} {mg : Str → Option Value} {base : Heap}
theorem hu16 {k : Nat} {A : Around} (r : Room k A) : A.units + 16 < cLine := by have := r.units; omega
def flds (L W D : Addr) : List (Str × V) := putF "number_of" (.ref D) (putF "node_widths" (.ref W) (putF "laid" (.ref L) []))
theorem f1 : ¬ (("laid" : Str) = "number_of") := by decide +kernel
theorem f2 : ¬ (("laid" : Str) = "node_widths") := by decide +kernel
theorem f3 : ¬ (("node_widths" : Str) = "number_of") := by decide +kernel
theorem fl_l (L W D : Addr) : (flds L W D).lookup ("laid" : Str) = some (.ref L) := by
  unfold flds
  rw [lookup_putF, if_neg f1, lookup_putF, if_neg f2, lookup_putF, if_pos rfl]
theorem fl_w (L W D : Addr) : (flds L W D).lookup ("node_widths" : Str) = some (.ref W) := by
  unfold flds
  rw [lookup_putF, if_neg f3, lookup_putF, if_pos rfl]
theorem fl_d (L W D : Addr) : (flds L W D).lookup ("number_of" : Str) = some (.ref D) := by
  unfold flds
  rw [lookup_putF, if_pos rfl]
theorem fl_no (L W D : Addr) {m : Str} (h1 : m ≠ "number_of") (h2 : m ≠ "node_widths") (h3 : m ≠ "laid") : (flds L W D).lookup m = none := by
  unfold flds
  rw [lookup_putF, if_neg h1, lookup_putF, if_neg h2, lookup_putF, if_neg h3]
  rfl
structure NetC (K : PySem.W.Frag) (mg : Str → Option Value) (C : Addr) : Prop where
  cl : Cls K C
  nL : NoAttr K C "laid"
  nW : NoAttr K C "node_widths"
  nD : NoAttr K C "number_of"
  mgC : mg "Net" = some (.ref C)
structure Mf (K : PySem.W.Frag) (C : Addr) (x q : Str) (st : Stmt) (ps : List Str) (f : Addr) (fd : FuncData) : Prop where
  F : Fun K x q st f fd
  b : Binds K fd ps []
  m : Meth K C x f
structure NetAt (P : Program) (w : World) (C : Addr) (H : Hp) (p L W D : Addr) (ns : NS) : Prop where
  ob : ∃ dx, H p = some (.ins C dx (flds L W D))
  co : Core P w H L W D ns
theorem NetAt.fr {P : Program} {w : World} {C : Addr} {H H' : Hp} {p L W D : Addr} {ns ns' : NS} (a : NetAt P w C H p L W D ns) (f : Fr L W D H H') (c : Core P w H' L W D ns') : NetAt P w C H' p L W D ns' := by
  obtain ⟨dx, h⟩ := a.ob
  obtain ⟨vs, hL, _⟩ := a.co.la
  obtain ⟨φ, hD⟩ := a.co.dEx
  exact ⟨⟨dx, f _ _ h (ne_of h hL fun z => nomatch z) (ne_of h a.co.wi fun z => nomatch z) (ne_of h hD fun z => nomatch z)⟩, c⟩
theorem NetAt.same {P : Program} {w : World} {C : Addr} {H H' : Hp} {p L W D : Addr} {ns : NS} (a : NetAt P w C H p L W D ns) (s : Same H H') : NetAt P w C H' p L W D ns := a.fr (Fr.of s) (a.co.same s)
abbrev sNInit : Stmt := inClass (top 8) 0
abbrev psNInit : List Str := ["self"]
def spNInit (P : Program) (w : World) (C : Addr) : Sp := fun vs H Q _ => ∃ p dx, vs = [.ref p] ∧ H p = some (.ins C dx []) ∧ ∀ L W D H', H L = none → H W = none → H D = none → L ≠ p → W ≠ p → D ≠ p → (∀ b o, H b = some o → b ≠ p → H' b = some o) → NetAt P w C H' p L W D [] → Q .non H'
theorem scNInit : FnScope psNInit psNInit (defScope sNInit) := ⟨rfl, rfl, rfl, by decide +kernel, rfl, by decide +kernel, by decide +kernel⟩
theorem okNInit {f C : Addr} {fd : FuncData} (NC : NetC K mg C) (D : Mf K C "__init__" "Net.__init__" sNInit psNInit f fd) : FnOk P w K mg base CX0 1 f fd psNInit (spNInit P w C) := by
  refine D.F.ok scNInit (fun vs H Q E h => ?_) (fun cdv A outer s H vs Q E hr h => ?_)
  · obtain ⟨_, _, rfl, _⟩ := h
    rfl
  · refine Classical.byContradiction fun hG0 => ?_
    obtain ⟨p, dx, rfl, hp, k⟩ := h
    refine hG0 ?_
    clear hG0
    refine ⟨_, (@pss_cons _ _ _ _ _ (@ps_fld _ _ _ _ _ _ _ _ (pv 0) (@pe_lst _ _ _ _ pa_nil) rfl) (@pss_cons _ _ _ _ _ (@ps_fld _ _ _ _ _ _ _ _ (pv 0) (@pe_lst _ _ _ _ pa_nil) rfl) (@pss_one _ _ _ (@ps_fld _ _ _ _ _ _ _ _ (pv 0) pe_dnewR rfl)))), ?_⟩
    refine ⟨Nat.zero_le _, ?_⟩
    refine fun L hL => ?_
    have npL : p ≠ L := ne_of_none hp hL
    first | refine wV rfl ?_ | refine ⟨_, rfl, ?_⟩
    refine ⟨p, C, dx, [], rfl, (by rw [upd_ne npL]; exact hp), NC.cl, NC.nL, (by show 0 < 1000; decide), Nat.zero_le _, ?_⟩
    refine fun W hW => ?_
    have npW : p ≠ W := fun z => by rw [← z, upd_same] at hW; cases hW
    have nLW : L ≠ W := fun z => by rw [← z, upd_ne npL.symm, upd_same] at hW; cases hW
    have hW0 : H W = none := by rw [upd_ne npW.symm, upd_ne nLW.symm] at hW; exact hW
    first | refine wV rfl ?_ | refine ⟨_, rfl, ?_⟩
    refine ⟨p, C, dx, _, rfl, (by rw [upd_ne npW]; exact upd_same), NC.cl, NC.nW, (by show 1 < 1000; decide), fun D o hD hd mu => ?_⟩
    have npD : p ≠ D := fun z => by rw [← z, upd_same] at hD; cases hD
    have nWD : W ≠ D := fun z => by rw [← z, upd_ne npW.symm, upd_same] at hD; cases hD
    have nLD : L ≠ D := fun z => by rw [← z, upd_ne npL.symm, upd_ne nLW, upd_ne npL.symm, upd_same] at hD; cases hD
    have hD0 : H D = none := by rw [upd_ne npD.symm, upd_ne nWD.symm, upd_ne npD.symm, upd_ne nLD.symm] at hD; exact hD
    first | refine wV rfl ?_ | refine ⟨_, rfl, ?_⟩
    refine ⟨p, C, dx, _, rfl, (by rw [upd_ne npD]; exact upd_same), NC.cl, NC.nD, (by show 2 < 1000; decide), ?_⟩
    refine k L W D _ hL hW0 hD0 npL.symm npW.symm npD.symm (fun b u e hb => ?_) ⟨⟨dx, upd_same⟩, ⟨⟨[], ?_, .nil⟩, ?_, ?_, nLW⟩⟩
    · rw [upd_ne hb, upd_ne (ne_of_none e hD0), upd_ne hb, upd_ne (ne_of_none e hW0), upd_ne hb, upd_ne (ne_of_none e hL)]
      exact e
    · rw [upd_ne npL.symm, upd_ne nLD, upd_ne npL.symm, upd_ne nLW, upd_ne npL.symm, upd_same]
    · rw [upd_ne npW.symm, upd_ne nWD, upd_ne npW.symm, upd_same]
      rfl
    · refine hd.same (fun c xs e => ?_) ?_
      · have hc : c ≠ p := fun z => by
          rw [z, upd_ne npD] at e
          rw [upd_same] at e
          cases e
        rw [upd_ne hc]
        exact e
      · rw [upd_ne npD.symm]
abbrev sPutN : Stmt := inClass (top 8) 5
abbrev psPutN : List Str := ["self", "node", "width"]
def spPutN (P : Program) (w : World) (C : Addr) : Sp := fun vs H Q _ => ∃ (p b L W D : Addr) (ns : NS) (t : FT) (wd : Int), vs = [.ref p, .ref b, .int wd] ∧ NetAt P w C H p L W D ns ∧ FV H 8 t (.ref b) ∧ ns.length < 100000 ∧ ∀ H', Fr L W D H H' → NetAt P w C H' p L W D (putN ns t wd).1 → Q (.int (putN ns t wd).2) H'
theorem scPutN : FnScope psPutN psPutN (defScope sPutN) := ⟨rfl, rfl, rfl, by decide +kernel, rfl, by decide +kernel, by decide +kernel⟩
theorem lt_line {n : Nat} (h : n < 100000) : n < sizeLine := Nat.lt_of_lt_of_le h (by decide)
theorem _root_.L2.Core.nums {P : Program} {w : World} {H : Hp} {L W D : Addr} {ns : NS} (c : Core P w H L W D ns) (h : ns.length < 100000) : (numb ns 0).length < sizeLine := by rw [numb_len]; exact lt_line h
theorem okPutN {f C : Addr} {fd : FuncData} (NC : NetC K mg C) (X : Txt mg) (D : Mf K C "put_node" "Net.put_node" sPutN psPutN f fd) : FnOk P w K mg base CX0 1 f fd psPutN (spPutN P w C) := by
  refine D.F.ok scPutN (fun vs H Q E h => ?_) (fun cdv A outer s H vs Q E hr h => ?_)
  · obtain ⟨_, _, _, _, _, _, _, _, rfl, _⟩ := h
    rfl
  · refine Classical.byContradiction fun hG0 => ?_
    obtain ⟨p, b, L, W, D', ns, t, wd, rfl, hN, hb, hz, k⟩ := h
    refine hG0 ?_
    clear hG0
    refine ⟨_, (@pss_cons _ _ _ _ _ (@ps_if _ _ _ _ _ _ _ _ (@pt_cmp _ _ _ _ _ _ (@pc_tnotin _ _ _ _ _ (hu16 hr) (pv 1) (@pe_fld _ _ _ _ _ (pv 0) rfl)) (by first | exact nobehind _ (by decide) (by decide) | rfl)) (@pss_cons _ _ _ _ _ (@ps_tput _ _ _ _ _ _ _ _ _ (hu16 hr) (@pe_fld _ _ _ _ _ (pv 0) rfl) (pv 1) (@pe_callB _ _ _ _ _ _ _ _ _ (lenK K) (by rfl) X.len b_len (@pa_cons _ _ _ _ _ (@pe_fld _ _ _ _ _ (pv 0) rfl) pa_nil (by rfl)) (by decide) (by decide) (by rfl) (by rfl)) rfl) (@pss_cons _ _ _ _ _ (@ps_expr _ _ _ _ (@pe_bm _ _ _ _ _ _ _ _ _ _ _ _ PySem.F.plainAttrs_list PySem.F.slot_list_append PySem.F.type_list_append mt_append (@pe_fld _ _ _ _ _ (pv 0) rfl) (@pa_cons _ _ _ _ _ (pv 1) pa_nil (by rfl)) (by rfl) (by rfl) (by rfl) (by rfl) (by rfl)) (by rfl)) (@pss_one _ _ _ (@ps_expr _ _ _ _ (@pe_bm _ _ _ _ _ _ _ _ _ _ _ _ PySem.F.plainAttrs_list PySem.F.slot_list_append PySem.F.type_list_append mt_append (@pe_fld _ _ _ _ _ (pv 0) rfl) (@pa_cons _ _ _ _ _ (pv 2) pa_nil (by rfl)) (by rfl) (by rfl) (by rfl) (by rfl) (by rfl)) (by rfl))))) pss_nil) (@pss_one _ _ _ (@ps_ret _ _ _ _ (@pe_tget _ _ _ _ _ _ (hu16 hr) (@pe_fld _ _ _ _ _ (pv 0) rfl) (pv 1) (fun _ _ => rfl))))), ?_⟩
    obtain ⟨dx, ho⟩ := hN.ob
    obtain ⟨vs, hL, hp⟩ := hN.co.la
    obtain ⟨φ, hD⟩ := hN.co.dEx
    have npL : p ≠ L := ne_of ho hL fun z => nomatch z
    have npW : p ≠ W := ne_of ho hN.co.wi fun z => nomatch z
    have npD : p ≠ D' := ne_of ho hD fun z => nomatch z
    have nLD : L ≠ D' := ne_of hL hD fun z => nomatch z
    have nWD : W ≠ D' := ne_of hN.co.wi hD fun z => nomatch z
    have hbV := hb.tv
    first | refine wV rfl ?_ | refine ⟨_, rfl, ?_⟩
    first | refine wV rfl ?_ | refine ⟨_, rfl, ?_⟩
    refine ⟨p, C, dx, _, _, rfl, ho, NC.cl, NC.nD, fl_d L W D', D', b, _, t.key, rfl, rfl, hN.co.di, hbV, _, rfl, ?_⟩
    cases e : tfind (numb ns 0) t.key with
    | some i =>
      refine iteF ?_
      rw [putN_old e] at k
      first | refine wV rfl ?_ | refine ⟨_, rfl, ?_⟩
      refine ⟨p, C, dx, _, _, rfl, ho, NC.cl, NC.nD, fl_d L W D', _, rfl, D', b, _, t.key, i, rfl, rfl, hN.co.di, hbV, e, k H (Fr.refl H) hN⟩
    | none =>
      refine iteT ?_
      rw [putN_new e] at k
      first | refine wV rfl ?_ | refine ⟨_, rfl, ?_⟩
      refine ⟨p, C, dx, _, _, rfl, ho, NC.cl, NC.nL, fl_l L W D', L, vs, rfl, .inl (SqL.of hL), _, rfl, p, C, dx, _, _, rfl, ho, NC.cl, NC.nD, fl_d L W D', _, rfl, D', b, _, t.key, _, rfl, rfl, rfl, hN.co.di, hbV, e, hN.co.nums hz, fun o d mu => ?_⟩
      have hvl : vs.length = ns.length := (Paired.length hp).symm
      rw [hvl] at d
      have hcp := core_put (wd := wd) hN.co hL hp hb d
      first | refine wV rfl ?_ | refine ⟨_, rfl, ?_⟩
      refine ⟨p, C, dx, _, _, rfl, (by rw [upd_ne npD]; exact ho), NC.cl, NC.nL, fl_l L W D', .inl ⟨rfl, vs, SqL.of (by rw [upd_ne nLD]; exact hL)⟩, _, rfl, L, vs, _, rfl, rfl, (by rw [upd_ne nLD]; exact hL), lt_line (by omega), ?_⟩
      first | refine wV rfl ?_ | refine ⟨_, rfl, ?_⟩
      refine ⟨p, C, dx, _, _, rfl, (by rw [upd_ne npL, upd_ne npD]; exact ho), NC.cl, NC.nW, fl_w L W D', .inl ⟨rfl, _, SqL.of (by rw [upd_ne hN.co.ne.symm, upd_ne nWD]; exact hN.co.wi)⟩, _, rfl, W, _, _, rfl, rfl, (by rw [upd_ne hN.co.ne.symm, upd_ne nWD]; exact hN.co.wi), lt_line (by rw [List.length_map]; exact hz), ?_⟩
      obtain ⟨c2, f2⟩ := hcp
      have hN2 := hN.fr f2 c2
      obtain ⟨dx2, ho2⟩ := hN2.ob
      first | refine wV rfl ?_ | refine ⟨_, rfl, ?_⟩
      refine ⟨p, C, dx2, _, _, rfl, ho2, NC.cl, NC.nD, fl_d L W D', _, rfl, D', b, _, t.key, _, rfl, rfl, c2.di, (hb.mono (hN.co.tups f2)).tv, ?_, k _ f2 hN2⟩
      rw [numb_snoc, tfind_append e, Nat.zero_add]
      exact tfind_one
def tabT (x : Str) (wd : Int) : FT := .tup [.str "table", .tup [.str x, .int wd], .tup []]
theorem tabV {H : Hp} {b c d : Addr} {x : Str} {wd : Int} (hb : H b = some (.tup [.str "table", .ref c, .ref d])) (hc : H c = some (.tup [.str x, .int wd])) (hd : H d = some (.tup [])) : FV H 8 (tabT x wd) (.ref b) :=
  FV.tup hb (.cons (FV.str _) (.cons (FV.tup hc (.cons (FV.str _) (.cons (FV.int _) .nil))) (.cons (FV.tup hd .nil) .nil)))
abbrev sTableN : Stmt := inClass (top 8) 1
abbrev psTableN : List Str := ["self", "name", "width"]
def spTableN (P : Program) (w : World) (C : Addr) : Sp := fun vs H Q _ => ∃ (p L W D : Addr) (ns : NS) (x : Str) (wd : Int), vs = [.ref p, .str x, .int wd] ∧ NetAt P w C H p L W D ns ∧ ns.length < 100000 ∧ ∀ H', Fr L W D H H' → NetAt P w C H' p L W D (putN ns (tabT x wd) wd).1 → Q (.int (putN ns (tabT x wd) wd).2) H'
theorem scTableN : FnScope psTableN psTableN (defScope sTableN) := ⟨rfl, rfl, rfl, by decide +kernel, rfl, by decide +kernel, by decide +kernel⟩
theorem okTableN {f C fP : Addr} {fd fdP : FuncData} (NC : NetC K mg C) (X : Txt mg) (D : Mf K C "table" "Net.table" sTableN psTableN f fd) (DP : Mf K C "put_node" "Net.put_node" sPutN psPutN fP fdP) : FnOk P w K mg base CX0 2 f fd psTableN (spTableN P w C) := by
  have GP : FnOk P w K mg base CX0 1 fP fdP psPutN (spPutN P w C) := okPutN NC X DP
  refine D.F.ok (k := 1) scTableN (fun vs H Q E h => ?_) (fun cdv A outer s H vs Q E hr h => ?_)
  · obtain ⟨_, _, _, _, _, _, _, rfl, _⟩ := h
    rfl
  · refine Classical.byContradiction fun hG0 => ?_
    obtain ⟨p, L, W, D', ns, x, wd, rfl, hN, hz, k⟩ := h
    refine hG0 ?_
    clear hG0
    refine ⟨_, (@pss_one _ _ _ (@ps_ret _ _ _ _ (@pe_meth _ _ _ _ _ _ _ _ _ _ _ _ _ _ _ _ _ _ _ _ (pv 0) NC.cl DP.m GP hr DP.b .nil pass0 (@pa_cons _ _ _ _ _ (@pe_tupS _ _ _ _ _ (@pa_cons _ _ _ _ _ pe_str (@pa_cons _ _ _ _ _ (@pe_tupS _ _ _ _ _ (@pa_cons _ _ _ _ _ (pv 1) (@pa_cons _ _ _ _ _ (pv 2) pa_nil (by rfl)) (by rfl))) (@pa_cons _ _ _ _ _ (@pe_tupS _ _ _ _ _ pa_nil) pa_nil (by rfl)) (by rfl)) (by rfl))) (@pa_cons _ _ _ _ _ (pv 2) pa_nil (by rfl)) (by rfl)) (by rfl) (by rfl) (by rfl)))), ?_⟩
    obtain ⟨dx, ho⟩ := hN.ob
    first | refine wV rfl ?_ | refine ⟨_, rfl, ?_⟩
    refine ⟨p, dx, _, rfl, ho, fl_no L W D' (by decide +kernel) (by decide +kernel) (by decide +kernel), ?_⟩
    first | refine wV rfl ?_ | refine ⟨_, rfl, ?_⟩
    first | refine wV rfl ?_ | refine ⟨_, rfl, ?_⟩
    refine ⟨l4 rfl, ?_⟩
    refine fun c H1 s1 e1 => ?_
    refine ⟨l4 rfl, ?_⟩
    refine fun d H2 s2 e2 => ?_
    refine ⟨l4 rfl, ?_⟩
    refine fun b H3 s3 e3 => ?_
    have s13 := s1.trans (s2.trans s3)
    first | refine wV rfl ?_ | refine ⟨_, rfl, ?_⟩
    refine ⟨p, b, L, W, D', ns, _, wd, rfl, hN.same s13, tabV e3 (s3 _ _ (s2 _ _ e1)) (s3 _ _ e2), hz, fun H' f' n' => k H' ((Fr.of s13).trans f') n'⟩
end
end VK
namespace VK
open PySem PySem.Spec PyProof.Rows L2
section
variable {P : Program} {w : World} {K : PySem.W.Frag} {mg : Str → Option Value} {base : Heap}
abbrev Wg := List Int → Int
def w0 : Wg := fun ws => ws.getD 0 0
def w01 : Wg := fun ws => ws.getD 0 0 + ws.getD 1 0
inductive Sh : Str → List FT → Nat → Wg → Prop
  | sieve (t : FT) : Sh "sieve" [t] 1 w0
  | cols (ts : List FT) : Sh "cols" [.tup ts] 1 (fun _ => ts.length)
  | once : Sh "once" [] 1 w0
  | count (ts : List FT) : Sh "count" [.tup ts] 1 (fun _ => ts.length + 1)
  | grp {wd : Str} (p : Int) (ts : List FT) : (wd = "sum" ∨ wd = "least" ∨ wd = "most") → Sh wd [.int p, .tup ts] 1 (fun _ => ts.length + 1)
  | first (k : Int) (t u : FT) : Sh "first" [.int k, t, u] 1 w0
  | alike {wd : Str} : (wd = "pour" ∨ wd = "both" ∨ wd = "either" ∨ wd = "less") → Sh wd [] 2 w0
  | join (t : FT) : Sh "join" [t] 2 w01
  | left (t : FT) : Sh "left" [t] 2 w01
  | notin (t : FT) : Sh "notin" [t] 2 w0
inductive PV where
  | nm (x : Str) | one (wd : Str) (bts : List FT) (g : Wg) (v : PV) | two (wd : Str) (bts : List FT) (g : Wg) (v1 v2 : PV) | rounds (x : Str) (k : Nat) (v1 v2 : PV)
def PV.sz : PV → Nat
  | .nm _ => 0
  | .one _ _ _ v => v.sz + 1
  | .two _ _ _ v1 v2 => v1.sz + v2.sz + 1
  | .rounds _ k v1 v2 => v1.sz + 1 + k * (v2.sz + 2)
def wdAt (ns : NS) (i : Int) : Int := (ns.map (·.2)).getD i.toNat 0
def nodeT (wd : Str) (bts : List FT) (is : List Int) : FT := .tup [.str wd, .tup bts, .tup (is.map .int)]
def toldT (wd : Str) (bts : List FT) (ws : List Int) : List FT := if wd = "left" then bts ++ [.int (ws.getD 1 0)] else bts
noncomputable def layW (wd : Str) (bts : List FT) (g : Wg) (is : List Int) (ns : NS) : NS × Int := putN ns (nodeT wd (toldT wd bts (is.map (wdAt ns))) is) (g (is.map (wdAt ns)))
def eput (e : Str → Int) (x : Str) (i : Int) : Str → Int := fun y => if y = x then i else e y
def iter {α : Type} (f : α → α) : Nat → α → α
  | 0, a => a
  | n + 1, a => f (iter f n a)
noncomputable def turn (lay2 : (Str → Int) → NS → NS × Int) (x : Str) (e : Str → Int) (s : NS × Int) : NS × Int :=
  layW "once" [] w0 [(layW "pour" [] w0 [s.2, (lay2 (eput e x s.2) s.1).2] (lay2 (eput e x s.2) s.1).1).2] (layW "pour" [] w0 [s.2, (lay2 (eput e x s.2) s.1).2] (lay2 (eput e x s.2) s.1).1).1
noncomputable def lay : PV → (Str → Int) → NS → NS × Int
  | .nm x, e, ns => (ns, e x)
  | .one wd bts g v, e, ns => layW wd bts g [(lay v e ns).2] (lay v e ns).1
  | .two wd bts g v1 v2, e, ns => layW wd bts g [(lay v1 e ns).2, (lay v2 e (lay v1 e ns).1).2] (lay v2 e (lay v1 e ns).1).1
  | .rounds x k v1 v2, e, ns => iter (turn (fun e' ns' => lay v2 e' ns') x e) k (layW "once" [] w0 [(lay v1 e ns).2] (lay v1 e ns).1)
def InN (ns : NS) (i : Int) : Prop := 0 ≤ i ∧ i < (ns.length : Int)
def Rg (e : Str → Int) (ns : NS) : Prop := ∀ x, InN ns (e x)
structure Gr (ns : NS) (r : NS × Int) (m : Nat) : Prop where
  le : ns.length ≤ r.1.length
  up : r.1.length ≤ ns.length + m
  ix : InN r.1 r.2
theorem InN.mono {ns ns' : NS} {i : Int} (h : InN ns i) (l : ns.length ≤ ns'.length) : InN ns' i := ⟨h.1, by have := h.2; omega⟩
theorem Rg.mono {e : Str → Int} {ns ns' : NS} (h : Rg e ns) (l : ns.length ≤ ns'.length) : Rg e ns' := fun x => (h x).mono l
theorem Rg.put {e : Str → Int} {ns : NS} (h : Rg e ns) {x : Str} {i : Int} (hi : InN ns i) : Rg (eput e x i) ns := fun y => by
  unfold eput
  split
  · exact hi
  · exact h y
theorem putN_gr (ns : NS) (t : FT) (w : Int) : Gr ns (putN ns t w) 1 := by
  cases e : tfind (numb ns 0) t.key with
  | some i =>
    rw [putN_old e]
    obtain ⟨j, x, h1, h2, _⟩ := tfind_numb e
    have hj := (List.getElem?_eq_some_iff.mp h2).1
    exact ⟨Nat.le_refl _, Nat.le_succ _, by show 0 ≤ i; omega, by show i < (ns.length : Int); omega⟩
  | none =>
    rw [putN_new e]
    have : (ns ++ [(t, w)]).length = ns.length + 1 := by rw [List.length_append]; rfl
    exact ⟨by show _ ≤ (ns ++ [(t, w)]).length; omega, by show (ns ++ [(t, w)]).length ≤ _; omega, by show (0 : Int) ≤ (ns.length : Int); omega, by show (ns.length : Int) < ((ns ++ [(t, w)]).length : Int); omega⟩
theorem Gr.trans {ns : NS} {r q : NS × Int} {m n : Nat} (a : Gr ns r m) (b : Gr r.1 q n) : Gr ns q (m + n) := ⟨Nat.le_trans a.le b.le, by have := a.up; have := b.up; omega, b.ix⟩
theorem layW_gr {wd : Str} {bts : List FT} {g : Wg} {is : List Int} (ns : NS) : Gr ns (layW wd bts g is ns) 1 := putN_gr _ _ _
theorem turn_gr {lay2 : (Str → Int) → NS → NS × Int} {m : Nat} (h : ∀ e ns, Rg e ns → Gr ns (lay2 e ns) m) {x : Str} {e : Str → Int} {s : NS × Int} (he : Rg e s.1) (hs : InN s.1 s.2) : Gr s.1 (turn lay2 x e s) (m + 2) :=
  ((h _ _ (he.put hs)).trans (layW_gr _)).trans (layW_gr _)
theorem iter_gr {f : NS × Int → NS × Int} {e : Str → Int} {m n : Nat} {ns : NS} {s : NS × Int} (h : ∀ s, Rg e s.1 → InN s.1 s.2 → Gr s.1 (f s) m) (he : Rg e ns) (h0 : Gr ns s n) : ∀ j, Gr ns (iter f j s) (n + j * m)
  | 0 => ⟨h0.le, by have := h0.up; show s.1.length ≤ _; omega, h0.ix⟩
  | j + 1 => by
    have a := iter_gr h he h0 j
    have b := a.trans (h _ (he.mono a.le) a.ix)
    rw [Nat.succ_mul, ← Nat.add_assoc]
    exact b
theorem lay_gr : ∀ {pv : PV} {e : Str → Int} {ns : NS}, Rg e ns → Gr ns (lay pv e ns) pv.sz
  | .nm x, e, ns, h => ⟨Nat.le_refl _, Nat.le_refl _, h x⟩
  | .one _ _ _ v, e, ns, h => (lay_gr (pv := v) h).trans (layW_gr _)
  | .two _ _ _ v1 v2, e, ns, h => by
    have a := lay_gr (pv := v1) h
    exact (a.trans (lay_gr (pv := v2) (h.mono a.le))).trans (layW_gr _)
  | .rounds x k v1 v2, e, ns, h => iter_gr (fun s hs hi => turn_gr (fun _ _ z => lay_gr (pv := v2) z) hs hi) h ((lay_gr (pv := v1) h).trans (layW_gr _)) k
theorem ex_pair {α β : Type} {F : α → β → Prop} : ∀ {ys : List β}, (∀ y ∈ ys, ∃ q, F q y) → ∃ qs : List α, Paired F qs ys
  | [], _ => ⟨[], .nil⟩
  | y :: ys, h => by
    obtain ⟨q, hq⟩ := h y (.head _)
    obtain ⟨qs, hqs⟩ := ex_pair (ys := ys) fun z hz => h z (.tail _ hz)
    exact ⟨q :: qs, .cons hq hqs⟩
theorem pair_left {α β : Type} {F : α → β → Prop} {ys : List α} {qs : List β} (h : Paired F ys qs) : ∀ y ∈ ys, ∃ q, F y q := fun y hy => by
  induction h with
  | nil => cases hy
  | cons r _ ih =>
    rcases List.mem_cons.mp hy with rfl | hy
    · exact ⟨_, r⟩
    · exact ih hy
theorem tot_nn : ∀ {q : List PS'}, (∀ z ∈ q, 0 ≤ z.2) → 0 ≤ tot q
  | [], _ => Int.le_refl _
  | z :: q, h => by
    have e : tot (z :: q) = z.2 + tot q := by unfold tot; simp
    have := h z (.head _)
    have := tot_nn (q := q) fun y hy => h y (.tail _ hy)
    omega
theorem pair_r {α β : Type} {F : α → β → Prop} {ys : List α} {qs : List β} (h : Paired F ys qs) : ∀ q ∈ qs, ∃ y, F y q := fun y hy => by
  induction h with
  | nil => cases hy
  | cons r _ ih =>
    rcases List.mem_cons.mp hy with rfl | hy
    · exact ⟨_, r⟩
    · exact ih hy
theorem Tr.ft {H : Hp} : ∀ {n : Nat} {v : V} {ps : List Int} {s : Int}, Tr n H v ps s → 0 ≤ s ∧ ∃ t, FV H n t v
  | n + 1, v, ps, s, h => by
    obtain ⟨t, w, xs, rfl, h2, hl, q, ⟨p1, p2⟩, rfl, _⟩ := h
    have hq : 0 ≤ tot q := tot_nn fun z hz => by
      obtain ⟨y, hy⟩ := pair_r p2 z hz
      exact (Tr.ft hy).1
    refine ⟨by omega, ?_⟩
    obtain ⟨ts, hts⟩ := ex_pair (F := FV H n) (ys := xs) fun x hx => by
      rcases p1 x hx with z | ⟨i, rfl⟩
      · obtain ⟨y, hy⟩ := pair_left p2 x (List.mem_filter.mpr ⟨hx, z⟩)
        exact (Tr.ft hy).2
      · exact ⟨.int i, FV.int i⟩
    exact ⟨.tup (.str w :: ts), FV.tup h2 (.cons (FV.str w) hts) (by rw [List.length_cons]; omega)⟩
theorem ints_ft {H : Hp} {n : Nat} : ∀ ns : List Int, Paired (FV H n) (ns.map FT.int) (ns.map V.int)
  | [] => .nil
  | i :: r => .cons (FV.int i) (ints_ft r)
theorem Ns.ft {H : Hp} {v : V} {ns : List Int} {w : Int} (h : Ns H v ns w) : FV H 5 (.tup (ns.map FT.int)) v := by
  obtain ⟨t, rfl, h2, hl, _⟩ := h
  exact FV.tup h2 (ints_ft ns) (by rw [List.length_map]; omega)
theorem Prs.ft {H : Hp} {v : V} {ps : List (Int × Int)} {w1 w2 : Int} (h : Prs H v ps w1 w2) : ∃ ts, FV H 5 (.tup ts) v := by
  obtain ⟨t, xs, rfl, h2, hl, h3, _⟩ := h
  have hxl := Paired.length h3
  obtain ⟨ts, hts⟩ := ex_pair (F := FV H 4) (ys := xs) fun x hx => by
    obtain ⟨p, u, rfl, hu⟩ := pair_left h3 x hx
    exact ⟨.tup [.int p.1, .int p.2], FV.tup hu (.cons (FV.int _) (.cons (FV.int _) .nil))⟩
  exact ⟨ts, FV.tup h2 hts (by omega)⟩
theorem Od.ft {H : Hp} {v : V} {ps : List (Int × Bool)} {w : Int} (h : Od H v ps w) : ∃ ts, FV H 5 (.tup ts) v := by
  obtain ⟨t, xs, rfl, h2, hl, h3, _⟩ := h
  have hxl := Paired.length h3
  obtain ⟨ts, hts⟩ := ex_pair (F := FV H 4) (ys := xs) fun x hx => by
    obtain ⟨p, u, rfl, hu⟩ := pair_left h3 x hx
    exact ⟨.tup [.int p.1, .bl p.2], FV.tup hu (.cons (FV.int _) (.cons (FV.bl _) .nil))⟩
  exact ⟨ts, FV.tup h2 hts (by omega)⟩
theorem OneB.ft {H : Hp} {wd : Str} {bs : List V} {w1 w m : Int} (h : OneB H wd bs w1 w m) : 0 ≤ m ∧ ∃ bts g, Sh wd bts 1 g ∧ Paired (FV H 5) bts bs := by
  cases h with
  | sieve a b =>
    obtain ⟨h0, t, ht⟩ := a.ft
    exact ⟨h0, _, _, .sieve t, .cons (ht.up (by decide)) .nil⟩
  | cols a b c d =>
    obtain ⟨ts, hts⟩ := ex_pair (F := FV H 4) (ys := _) fun x hx => (pair_left c x hx).elim fun _ z => z.ft.2
    refine ⟨tot_nn fun z hz => ?_, _, _, .cols ts, .cons (FV.tup a hts (by omega)) .nil⟩
    obtain ⟨y, hy⟩ := pair_r c z hz
    exact hy.ft.1
  | once => exact ⟨Int.le_refl _, _, _, .once, .nil⟩
  | count a => exact ⟨by omega, _, _, .count _, .cons a.ft .nil⟩
  | grp a b c => exact ⟨by omega, _, _, .grp _ _ a, .cons (FV.int _) (.cons c.ft .nil)⟩
  | first a b =>
    obtain ⟨ts, hts⟩ := b.ft
    exact ⟨by omega, _, _, .first _ _ _, .cons (FV.int _) (.cons a.ft (.cons hts .nil))⟩
theorem TwoB.ft {H : Hp} {wd : Str} {bs : List V} {w1 w2 w m : Int} (h : TwoB H wd bs w1 w2 w m) : 0 ≤ m ∧ ∃ bts g, Sh wd bts 2 g ∧ Paired (FV H 5) bts bs := by
  cases h with
  | alike a => exact ⟨Int.le_refl _, _, _, .alike a, .nil⟩
  | join a b =>
    obtain ⟨ts, hts⟩ := b.ft
    rcases a with rfl | rfl
    · exact ⟨by omega, _, _, .join _, .cons hts .nil⟩
    · exact ⟨by omega, _, _, .left _, .cons hts .nil⟩
  | notin b =>
    obtain ⟨ts, hts⟩ := b.ft
    exact ⟨by omega, _, _, .notin _, .cons hts .nil⟩
def VP : Nat → Hp → (Str → Prop) → V → PV → Prop
  | 0, _, _, _, _ => False
  | n + 1, H, D, v, pv => ∃ t, v = .ref t ∧
    ((∃ x, pv = .nm x ∧ H t = some (.tup [.str "name", .str x]) ∧ D x) ∨
     (∃ (wd : Str) (v1 : V) (bs : List V) (bts : List FT) (g : Wg) (p1 : PV) (w1 w m : Int), pv = .one wd bts g p1 ∧ H t = some (.tup (.str wd :: v1 :: bs)) ∧ VP n H D v1 p1 ∧ OneB H wd bs w1 w m ∧ Sh wd bts 1 g ∧ Paired (FV H 5) bts bs) ∨
     (∃ (wd : Str) (v1 v2 : V) (bs : List V) (bts : List FT) (g : Wg) (p1 p2 : PV) (w1 w2 w m : Int), pv = .two wd bts g p1 p2 ∧ H t = some (.tup (.str wd :: v1 :: v2 :: bs)) ∧ VP n H D v1 p1 ∧ VP n H D v2 p2 ∧ TwoB H wd bs w1 w2 w m ∧ Sh wd bts 2 g ∧ Paired (FV H 5) bts bs) ∨
     (∃ (x : Str) (k : Nat) (v1 v2 : V) (p1 p2 : PV), pv = .rounds x k p1 p2 ∧ H t = some (.tup [.str "rounds", .str x, .int k, v1, v2]) ∧ k ≤ 64 ∧ VP n H D v1 p1 ∧ VP n H (fun y => y = x ∨ D y) v2 p2))
theorem VP.same {H H' : Hp} (e : SameT H H') {n : Nat} : ∀ {D : Str → Prop} {v : V} {pv : PV}, VP n H D v pv → VP n H' D v pv := by
  induction n with
  | zero => exact fun h => h
  | succ n ih =>
    intro D v pv h
    obtain ⟨t, rfl, h⟩ := h
    refine ⟨t, rfl, ?_⟩
    rcases h with ⟨x, h1, h2, h3⟩ | ⟨wd, v1, bs, bts, g, p1, w1, w, m, h1, h2, h3, h4, h5, h6⟩ | ⟨wd, v1, v2, bs, bts, g, p1, p2, w1, w2, w, m, h1, h2, h3, h4, h5, h6, h7⟩ | ⟨x, k, v1, v2, p1, p2, h1, h2, h3, h4, h5⟩
    · exact .inl ⟨x, h1, e _ _ h2, h3⟩
    · exact .inr (.inl ⟨wd, v1, bs, bts, g, p1, w1, w, m, h1, e _ _ h2, ih h3, h4.same e, h5, Paired.mapP h6 fun _ _ z => z.mono e⟩)
    · exact .inr (.inr (.inl ⟨wd, v1, v2, bs, bts, g, p1, p2, w1, w2, w, m, h1, e _ _ h2, ih h3, ih h4, h5.same e, h6, Paired.mapP h7 fun _ _ z => z.mono e⟩))
    · exact .inr (.inr (.inr ⟨x, k, v1, v2, p1, p2, h1, e _ _ h2, h3, ih h4, ih h5⟩))
theorem rounds_sz {a b s1 s2 : Int} {k : Nat} {x y : Nat} (hk : 1 ≤ k) (h1 : (x : Int) + 1 ≤ s1) (h2 : (y : Int) + 1 ≤ s2) : ((x + 1 + k * (y + 2) : Nat) : Int) + 1 ≤ s1 + (k : Int) * (2 + s2) := by
  have h3 : (k : Int) * ((y : Int) + 3) ≤ (k : Int) * (2 + s2) := Int.mul_le_mul_of_nonneg_left (by omega) (by omega)
  have e1 : ((x + 1 + k * (y + 2) : Nat) : Int) = (x : Int) + 1 + (k : Int) * ((y : Int) + 2) := by push_cast; rfl
  have e2 : (k : Int) * ((y : Int) + 3) = (k : Int) * ((y : Int) + 2) + (k : Int) := by rw [show (y : Int) + 3 = ((y : Int) + 2) + 1 by omega, Int.mul_add, Int.mul_one]
  omega
theorem VP.of {H : Hp} {n : Nat} : ∀ {E : Env} {D : Str → Prop} {v : V} {w s : Int}, Vw n H E v w s → (∀ x p, E x = some p → D x ∧ 1 ≤ p.2) → ∃ pv, VP n H D v pv ∧ (pv.sz : Int) + 1 ≤ s := by
  induction n with
  | zero => exact fun h => h.elim
  | succ n ih =>
    intro E D v w s h hD
    obtain ⟨hw, t, rfl, h⟩ := h
    rcases h with ⟨x, h1, h2⟩ | ⟨wd, us, bs, qs, m, h1, h2, h3, rfl⟩ | ⟨x, k, v1, v2, s1, s2, h1, hk, hk2, h2, h3, h4, rfl⟩
    · exact ⟨.nm x, ⟨t, rfl, .inl ⟨x, rfl, h1, (hD x _ h2).1⟩⟩, by have := (hD x _ h2).2; show ((0 : Nat) : Int) + 1 ≤ s; simpa using this⟩
    · generalize hq : qs.map (·.1) = ws at h3
      cases h3 with
      | one ob =>
        obtain ⟨q, rfl⟩ : ∃ q, qs = [q] := List.length_eq_one_iff.mp (by have := congrArg List.length hq; simpa using this)
        cases h2 with
        | @cons v1 _ _ _ a r =>
          cases r
          obtain ⟨p1, hp, hs⟩ := ih a hD
          obtain ⟨h0, bts, g, hsh, hf⟩ := ob.ft
          exact ⟨.one wd bts g p1, ⟨t, rfl, .inr (.inl ⟨wd, v1, bs, bts, g, p1, _, _, _, rfl, h1, hp, ob, hsh, hf⟩)⟩, by show ((p1.sz + 1 : Nat) : Int) + 1 ≤ _; simp; omega⟩
      | two ob =>
        obtain ⟨q, q2, rfl⟩ : ∃ q q2, qs = [q, q2] := by
          have hl : qs.length = 2 := by have := congrArg List.length hq; simpa using this
          match qs, hl with
          | [q, q2], _ => exact ⟨q, q2, rfl⟩
        cases h2 with
        | @cons v1 _ _ _ a r =>
          cases r with
          | @cons v2 _ _ _ b r2 =>
          cases r2
          obtain ⟨p1, hp, hs⟩ := ih a hD
          obtain ⟨p2, hp2, hs2⟩ := ih b hD
          obtain ⟨h0, bts, g, hsh, hf⟩ := ob.ft
          exact ⟨.two wd bts g p1 p2, ⟨t, rfl, .inr (.inr (.inl ⟨wd, v1, v2, bs, bts, g, p1, p2, _, _, _, _, rfl, h1, hp, hp2, ob, hsh, hf⟩))⟩, by show ((p1.sz + p2.sz + 1 : Nat) : Int) + 1 ≤ _; simp; omega⟩
    · obtain ⟨p1, hp1, hs1⟩ := ih h3 hD
      obtain ⟨p2, hp2, hs2⟩ := ih (D := fun y => y = x ∨ D y) h4 fun y p hy => by
        unfold Env.put at hy
        split at hy
        · cases hy
          rename_i hyx
          exact ⟨.inl hyx, Int.le_refl _⟩
        · exact ⟨.inr (hD y p hy).1, (hD y p hy).2⟩
      obtain ⟨j, rfl⟩ : ∃ j : Nat, k = (j : Int) := ⟨k.toNat, by omega⟩
      exact ⟨.rounds x j p1 p2, ⟨t, rfl, .inr (.inr (.inr ⟨x, j, v1, v2, p1, p2, rfl, h1, by omega, hp1, hp2⟩))⟩, rounds_sz (a := 0) (b := 0) (by omega) hs1 hs2⟩
end
end VK
namespace VK
open PySem PySem.Spec PyProof.Rows L2
section
variable {P : Program} {w : World} {K : PySem.W.Frag} {mg : Str → Option Value} {base : Heap}
theorem _root_.L2.FV.untup {H : Hp} {n : Nat} {ts : List FT} {v : V} (h : FV H (n + 1) (.tup ts) v) : ∃ a xs, v = .ref a ∧ H a = some (.tup xs) ∧ Paired (FV H n) ts xs := by
  rcases h with h | ⟨ts', a, xs, e, rfl, h3, _, h4⟩
  · exact h.elim
  · injection e with e
    subst e
    exact ⟨a, xs, rfl, h3, h4⟩
theorem FV.int_of {H : Hp} {n : Nat} {i : Int} {v : V} (h : FV H n (.int i) v) : v = .int i := by
  cases n with
  | zero => exact h
  | succ n =>
    rcases h with h | ⟨_, _, _, e, _⟩
    · exact h
    · cases e
theorem FV.str_of {H : Hp} {n : Nat} {i : Str} {v : V} (h : FV H n (.str i) v) : v = .str i := by
  cases n with
  | zero => exact h
  | succ n =>
    rcases h with h | ⟨_, _, _, e, _⟩
    · exact h
    · cases e
theorem one_of {ws : List Int} (h : 1 = ws.length) : ∃ a, ws = [a] := List.length_eq_one_iff.mp h.symm
theorem two_of {ws : List Int} (h : 2 = ws.length) : ∃ a b, ws = [a, b] := by
  match ws, h with
  | [a, b], _ => exact ⟨a, b, rfl⟩
inductive ShS : Str → List FT → Nat → Wg → Prop
  | cols (ts : List FT) : ShS "cols" [.tup ts] 1 (fun _ => ts.length)
  | count (ts : List FT) : ShS "count" [.tup ts] 1 (fun _ => ts.length + 1)
  | grp {wd : Str} (p : Int) (ts : List FT) : (wd = "sum" ∨ wd = "least" ∨ wd = "most") → ShS wd [.int p, .tup ts] 1 (fun _ => ts.length + 1)
  | two {wd : Str} (t : FT) : (wd = "join" ∨ wd = "left") → ShS wd [t] 2 w01
/-- the tests that a word comes to -/
def tests (wd : Str) : List Bool := [decide (V.str wd = V.str "table"), decide (V.str wd = V.str "cols"), decide (V.str wd = V.str "count"), inV (.str wd) [.str "sum", .str "least", .str "most"], inV (.str wd) [.str "join", .str "left"], inV (.str wd) grL]
structure Tests (wd : Str) (b1 b2 b3 b4 b5 b6 : Bool) : Prop where
  c1 : decide (V.str wd = V.str "table") = b1
  c2 : decide (V.str wd = V.str "cols") = b2
  c3 : decide (V.str wd = V.str "count") = b3
  c4 : inV (.str wd) [.str "sum", .str "least", .str "most"] = b4
  c5 : inV (.str wd) [.str "join", .str "left"] = b5
  c6 : inV (.str wd) grL = b6
theorem Tests.of {wd : Str} {b1 b2 b3 b4 b5 b6 : Bool} (h : tests wd = [b1, b2, b3, b4, b5, b6]) : Tests wd b1 b2 b3 b4 b5 b6 := by
  unfold tests at h
  injection h with h1 h
  injection h with h2 h
  injection h with h3 h
  injection h with h4 h
  injection h with h5 h
  injection h with h6 h
  exact ⟨h1, h2, h3, h4, h5, h6⟩
theorem plain_all : ∀ wd ∈ (["sieve", "once", "first", "pour", "both", "either", "less", "notin"] : List Str), tests wd = [false, false, false, false, false, false] := by decide +kernel
theorem grp_all : ∀ wd ∈ (["sum", "least", "most"] : List Str), tests wd = [false, false, false, true, false, true] := by decide +kernel
theorem two_all : ∀ wd ∈ (["join", "left"] : List Str), tests wd = [false, false, false, false, true, false] := by decide +kernel
theorem Sh.cls {wd : Str} {bts : List FT} {n : Nat} {g : Wg} (h : Sh wd bts n g) : (g = w0 ∧ 1 ≤ n ∧ Tests wd false false false false false false) ∨ ShS wd bts n g := by
  cases h with
  | sieve => exact .inl ⟨rfl, Nat.le_refl _, .of (plain_all _ (by simp))⟩
  | once => exact .inl ⟨rfl, Nat.le_refl _, .of (plain_all _ (by simp))⟩
  | first => exact .inl ⟨rfl, Nat.le_refl _, .of (plain_all _ (by simp))⟩
  | alike a => exact .inl ⟨rfl, by decide, .of (plain_all _ (by rcases a with rfl | rfl | rfl | rfl <;> simp))⟩
  | notin => exact .inl ⟨rfl, by decide, .of (plain_all _ (by simp))⟩
  | cols ts => exact .inr (.cols ts)
  | count ts => exact .inr (.count ts)
  | grp p ts a => exact .inr (.grp p ts a)
  | join t => exact .inr (.two t (.inl rfl))
  | left t => exact .inr (.two t (.inr rfl))
theorem grp_tests {wd : Str} (a : wd = "sum" ∨ wd = "least" ∨ wd = "most") : Tests wd false false false true false true := .of (grp_all _ (by rcases a with rfl | rfl | rfl <;> simp))
theorem two_tests {wd : Str} (a : wd = "join" ∨ wd = "left") : Tests wd false false false false true false := .of (two_all _ (by rcases a with rfl | rfl <;> simp))
theorem head_of {α : Type} {is : List α} {n : Nat} (hn : n = is.length) (h1 : 1 ≤ n) : ∃ i r, is = i :: r := by
  cases is with
  | nil => simp at hn; omega
  | cons i r => exact ⟨i, r, rfl⟩
def spWidO : Sp := fun vs H Q _ => ∃ (wd : Str) (tb : Addr) (bs : List V) (li : Addr) (ws : List Int) (bts : List FT) (n : Nat) (g : Wg), vs = [.str wd, .ref tb, .ref li] ∧ H tb = some (.tup bs) ∧ H li = some (.lst (ws.map V.int)) ∧ Sh wd bts n g ∧ n = ws.length ∧ Paired (FV H 5) bts bs ∧ ∀ H', Same H H' → Q (.int (g ws)) H'
theorem okWidO {f : Addr} {fd : FuncData} (D : Fn K mg "width_over" sWidthO psWidthO f fd) (X : Txt mg) (GL : Glb K mg) : FnOk P w K mg base CX0 1 f fd psWidthO spWidO := by
  obtain ⟨ao, mo, so⟩ := GL.gr
  refine D.F.ok scWidthO (fun vs H Q E h => ?_) (fun cdv A outer s H vs Q E hr h => ?_)
  · obtain ⟨_, _, _, _, _, _, _, _, rfl, _⟩ := h
    rfl
  · refine Classical.byContradiction fun hG0 => ?_
    obtain ⟨wd, tb, bs, li, ws, bts, n, g, rfl, hb, hi, hS, hn, hf, k⟩ := h
    refine hG0 ?_
    clear hG0
    refine ⟨_, (@pss_cons _ _ _ _ _ (@ps_if _ _ _ _ _ _ _ _ (@pt_cmpR _ _ _ _ _ _ _ _ op_eq (pv 0) pe_str (nomark _)) (@pss_one _ _ _ (@ps_ret _ _ _ _ (@pe_callB _ _ _ _ _ _ _ _ _ (lenK K) (by rfl) X.len b_len (@pa_cons _ _ _ _ _ (@pe_ix _ _ _ _ _ _ _ ixT0 (pv 1) pe_int (fun _ _ => rfl)) pa_nil (by rfl)) (by decide) (by decide) (by rfl) (by rfl)))) pss_nil) (@pss_cons _ _ _ _ _ (@ps_if _ _ _ _ _ _ _ _ (@pt_cmpR _ _ _ _ _ _ _ _ (inK K) (pv 0) (@pe_tupS _ _ _ _ _ (@pa_cons _ _ _ _ _ pe_str (@pa_cons _ _ _ _ _ pe_str pa_nil (by rfl)) (by rfl))) (by with_unfolding_all rfl)) (@pss_one _ _ _ (@ps_ret _ _ _ _ (@pe_op _ _ _ _ _ _ _ _ op_add (@pe_ix _ _ _ _ _ _ _ ixL0 (pv 2) pe_int (fun _ _ => rfl)) (@pe_ix _ _ _ _ _ _ _ ixL0 (pv 2) pe_int (fun _ _ => rfl))))) pss_nil) (@pss_cons _ _ _ _ _ (@ps_if _ _ _ _ _ _ _ _ (@pt_cmpR _ _ _ _ _ _ _ _ (inK K) (pv 0) (@pe_glob _ _ (.ref ao) _ _ rfl mo rfl (by decide)) (by with_unfolding_all rfl)) (@pss_one _ _ _ (@ps_ret _ _ _ _ (@pe_op _ _ _ _ _ _ _ _ op_add (@pe_callB _ _ _ _ _ _ _ _ _ (lenK K) (by rfl) X.len b_len (@pa_cons _ _ _ _ _ (@pe_ix _ _ _ _ _ _ _ ixT0 (pv 1) (@pe_un _ _ _ _ _ _ un_neg pe_int) (fun _ _ => rfl)) pa_nil (by rfl)) (by decide) (by decide) (by rfl) (by rfl)) pe_int))) pss_nil) (@pss_one _ _ _ (@ps_ret _ _ _ _ (@pe_ix _ _ _ _ _ _ _ ixL0 (pv 2) pe_int (fun _ _ => rfl))))))), ?_⟩
    have end1 : ∀ {H1 : Hp}, Same H H1 → H1 li = some (.lst (ws.map V.int)) := fun s1 => s1 _ _ hi
    refine Classical.byContradiction fun hG => ?_
    rcases hS.cls with ⟨rfl, hn1, hp⟩ | hs
    · obtain ⟨a0, ar, rfl⟩ := head_of hn hn1
      refine hG ?_
      first | refine wN rfl hp.c2 ?_ | refine ⟨_, rfl, rfl, _, rfl, iteQ hp.c2 ?_⟩
      first | refine wV rfl ?_ | refine ⟨_, rfl, ?_⟩
      refine ⟨(by show 2 ≤ sizeLine; decide), ?_⟩
      refine fun pp H1 s1 e1 => ?_
      refine ⟨pp, _, rfl, .inr (SqT.of e1), rfl, rfl, _, rfl, ?_⟩
      refine iteQ hp.c5 ?_
      first | refine wInN rfl (.inr (so _)) rfl rfl hp.c6 ?_ | refine ⟨_, rfl, ao, _, rfl, .inr (so _), rfl, rfl, _, rfl, iteQ hp.c6 ?_⟩
      have hi := end1 s1
      first | refine wL0 rfl (id hi) at0 ?_ | refine ⟨_, rfl, li, _, _, _, rfl, rfl, id hi, at0, ?_⟩
      refine k _ s1
    · cases hs with
      | cols ts =>
        obtain ⟨a0, rfl⟩ := one_of hn
        cases hf with
        | cons h1 h2 =>
          cases h2
          obtain ⟨c, xs, rfl, hc, hxs⟩ := h1.untup
          have hk := k _ (Same.refl H)
          have hl : (xs.length : Int) = (ts.length : Int) := by rw [Paired.length hxs]
          refine hG ⟨_, rfl, rfl, _, rfl, iteP (by decide +kernel) ?_⟩
          first | refine wT0 rfl (id hb) rfl ?_ | refine ⟨_, rfl, tb, _, _, _, rfl, rfl, id hb, rfl, ?_⟩
          refine ⟨_, _, rfl, .inr (SqT.of hc), by rw [hl]; exact hk⟩
      | count ts =>
        obtain ⟨a0, rfl⟩ := one_of hn
        cases hf with
        | cons h1 h2 =>
          cases h2
          obtain ⟨c, xs, rfl, hc, hxs⟩ := h1.untup
          refine hG ?_
          first | refine wN rfl (by decide +kernel) ?_ | refine ⟨_, rfl, rfl, _, rfl, iteQ (by decide +kernel) ?_⟩
          first | refine wV rfl ?_ | refine ⟨_, rfl, ?_⟩
          refine ⟨(by show 2 ≤ sizeLine; decide), ?_⟩
          refine fun pp H1 s1 e1 => ?_
          refine ⟨pp, _, rfl, .inr (SqT.of e1), rfl, rfl, _, rfl, ?_⟩
          refine iteQ (by decide +kernel) ?_
          first | refine wInY rfl (.inr (so _)) rfl rfl (by decide +kernel) ?_ | refine ⟨_, rfl, ao, _, rfl, .inr (so _), rfl, rfl, _, rfl, iteP (by decide +kernel) ?_⟩
          have hb := s1 _ _ hb
          have hk := k _ s1
          have hl : (xs.length : Int) = (ts.length : Int) := by rw [Paired.length hxs]
          first | refine wV rfl ?_ | refine ⟨_, rfl, ?_⟩
          first | refine wT0 rfl (id hb) rfl ?_ | refine ⟨_, rfl, tb, _, _, _, rfl, rfl, id hb, rfl, ?_⟩
          refine ⟨_, _, rfl, .inr (SqT.of (s1 _ _ hc)), _, _, rfl, rfl, by rw [hl]; exact hk⟩
      | grp p ts hwd =>
        obtain ⟨a0, rfl⟩ := one_of hn
        cases hf with
        | cons h0 h2 =>
          cases h2 with
          | cons h1 h2 =>
          cases h2
          obtain rfl := FV.int_of h0
          obtain ⟨c, xs, rfl, hc, hxs⟩ := h1.untup
          have hp := grp_tests hwd
          refine hG ?_
          first | refine wN rfl hp.c2 ?_ | refine ⟨_, rfl, rfl, _, rfl, iteQ hp.c2 ?_⟩
          first | refine wV rfl ?_ | refine ⟨_, rfl, ?_⟩
          refine ⟨(by show 2 ≤ sizeLine; decide), ?_⟩
          refine fun pp H1 s1 e1 => ?_
          refine ⟨pp, _, rfl, .inr (SqT.of e1), rfl, rfl, _, rfl, ?_⟩
          refine iteQ hp.c5 ?_
          first | refine wInY rfl (.inr (so _)) rfl rfl hp.c6 ?_ | refine ⟨_, rfl, ao, _, rfl, .inr (so _), rfl, rfl, _, rfl, iteP hp.c6 ?_⟩
          have hb := s1 _ _ hb
          have hk := k _ s1
          have hl : (xs.length : Int) = (ts.length : Int) := by rw [Paired.length hxs]
          first | refine wV rfl ?_ | refine ⟨_, rfl, ?_⟩
          first | refine wT0 rfl (id hb) rfl ?_ | refine ⟨_, rfl, tb, _, _, _, rfl, rfl, id hb, rfl, ?_⟩
          refine ⟨_, _, rfl, .inr (SqT.of (s1 _ _ hc)), _, _, rfl, rfl, by rw [hl]; exact hk⟩
      | two t hwd =>
        obtain ⟨a0, b0, rfl⟩ := two_of hn
        have hp := two_tests hwd
        refine hG ?_
        first | refine wN rfl hp.c2 ?_ | refine ⟨_, rfl, rfl, _, rfl, iteQ hp.c2 ?_⟩
        first | refine wV rfl ?_ | refine ⟨_, rfl, ?_⟩
        refine ⟨(by show 2 ≤ sizeLine; decide), ?_⟩
        refine fun pp H1 s1 e1 => ?_
        refine ⟨pp, _, rfl, .inr (SqT.of e1), rfl, rfl, _, rfl, ?_⟩
        refine iteP hp.c5 ?_
        have hi := end1 s1
        first | refine wL0 rfl (id hi) rfl ?_ | refine ⟨_, rfl, li, _, _, _, rfl, rfl, id hi, rfl, ?_⟩
        first | refine wL0 rfl (id hi) rfl ?_ | refine ⟨_, rfl, li, _, _, _, rfl, rfl, id hi, rfl, ?_⟩
        first | refine wI ?_ | refine wIc ?_ | refine ⟨_, _, rfl, rfl, ?_⟩
        refine k _ s1
theorem nodeV {H : Hp} {b tt ti : Addr} {wd : Str} {bs : List V} {ts : List FT} {is : List Int} (hb : H b = some (.tup [.str wd, .ref tt, .ref ti])) (ht : H tt = some (.tup bs)) (hp : Paired (FV H 5) ts bs) (hi : H ti = some (.tup (is.map V.int))) (l1 : bs.length ≤ 1000) (l2 : is.length ≤ 1000) : FV H 8 (nodeT wd ts is) (.ref b) :=
  FV.tup hb (.cons (FV.str _) (.cons (FV.tup ht (Paired.mapP hp fun _ _ z => z.up (by decide)) l1) (.cons (FV.tup hi (ints_ft is) (by rw [List.length_map]; exact l2)) .nil)))
theorem wd_at {ns : NS} {i : Int} (h : InN ns i) : atI (ns.map fun e => V.int e.2) i = some (.int (wdAt ns i)) := by
  obtain ⟨h0, h1⟩ := h
  obtain ⟨j, rfl⟩ : ∃ j : Nat, i = (j : Int) := ⟨i.toNat, by omega⟩
  have hj : j < ns.length := by omega
  refine atI_nat ?_
  unfold wdAt
  rw [List.getElem?_map, List.getElem?_eq_getElem hj, Int.toNat_natCast, List.getD_eq_getElem?_getD, List.getElem?_map, List.getElem?_eq_getElem hj]
  rfl
abbrev sLayW : Stmt := inClass (top 8) 4
abbrev psLayW : List Str := ["self", "word", "besides", "inputs"]
abbrev nLayW : List Str := ["self", "word", "besides", "inputs", "inner", "told"]
def spLayW (P : Program) (w : World) (C : Addr) : Sp := fun vs H Q _ => ∃ (p tb ti L W D : Addr) (ns : NS) (wd : Str) (bs : List V) (bts : List FT) (g : Wg) (n : Nat) (is : List Int), vs = [.ref p, .str wd, .ref tb, .ref ti] ∧ NetAt P w C H p L W D ns ∧ H tb = some (.tup bs) ∧ Paired (FV H 5) bts bs ∧ Sh wd bts n g ∧ n = is.length ∧ H ti = some (.tup (is.map V.int)) ∧ (∀ i ∈ is, InN ns i) ∧ ns.length < 100000 ∧
  ∀ H', Fr L W D H H' → NetAt P w C H' p L W D (layW wd bts g is ns).1 → Q (.int (layW wd bts g is ns).2) H'
theorem scLayW : FnScope nLayW psLayW (defScope sLayW) := ⟨rfl, rfl, rfl, by decide +kernel, rfl, by decide +kernel, by decide +kernel⟩
theorem Sh.le2 {wd : Str} {bts : List FT} {n : Nat} {g : Wg} (h : Sh wd bts n g) : n ≤ 2 ∧ bts.length ≤ 3 ∧ (wd = "left" → n = 2) := by
  cases h with
  | grp p ts a => rcases a with rfl | rfl | rfl <;> exact ⟨by decide, by simp, by decide +kernel⟩
  | alike a => exact ⟨by decide, by simp, fun _ => rfl⟩
  | left => exact ⟨by decide, by simp, fun _ => rfl⟩
  | join => exact ⟨by decide, by simp, fun _ => rfl⟩
  | notin => exact ⟨by decide, by simp, fun _ => rfl⟩
  | _ => exact ⟨by decide, by simp, by decide +kernel⟩
theorem okLayW {f C fP fO : Addr} {fd fdP fdO : FuncData} (NC : NetC K mg C) (X : Txt mg) (GLB : Glb K mg) (D : Mf K C "lay_word" "Net.lay_word" sLayW psLayW f fd) (DP : Mf K C "put_node" "Net.put_node" sPutN psPutN fP fdP) (DO : Fn K mg "width_over" sWidthO psWidthO fO fdO) : FnOk P w K mg base CX0 2 f fd psLayW (spLayW P w C) := by
  have GP : FnOk P w K mg base CX0 1 fP fdP psPutN (spPutN P w C) := okPutN NC X DP
  have GO : FnOk P w K mg base CX0 1 fO fdO psWidthO spWidO := okWidO DO X GLB
  refine D.F.ok (k := 1) scLayW (fun vs H Q E h => ?_) (fun cdv A outer s H vs Q E hr h => ?_)
  · obtain ⟨_, _, _, _, _, _, _, _, _, _, _, _, _, rfl, _⟩ := h
    rfl
  · refine Classical.byContradiction fun hG0 => ?_
    obtain ⟨p, tb, ti, L, W, D', ns, wd, bs, bts, g, n, is, rfl, hN, hb, hf, hS, hn, hi, hin, hz, k⟩ := h
    refine hG0 ?_
    clear hG0
    have nd := scLayW.nd
    refine ⟨_, (@pss_cons _ _ _ _ _ (@ps_comp _ _ _ _ _ _ _ _ (tOp rIxL0 (tFld K (tVar 1) "node_widths") (tVar 0)) (["k"]) ([("self", 0)]) (defScope sLayW) (nLayW) (4) _ _ _ nd rfl (Or.inl rfl) rfl rfl ⟨rfl, by decide +kernel, by decide +kernel, by decide +kernel, by decide +kernel⟩ rfl (@pi_tup _ _ _ _ (pv 3)) (fun s H fp => pg_name (i := 0) (show (["k", "self"] : List Str).Nodup by decide +kernel) rfl (Or.inl rfl) (Or.inr rfl)) (fun s H fp => (@pe_ix _ _ _ _ _ _ _ ixL0 (@pe_fld _ _ _ _ _ (pv 1) rfl) (pv 0) (fun _ _ => rfl))) (by rfl) (by intro _; rfl) (by first | exact .inl rfl | exact .inr rfl | assumption)) (@pss_cons _ _ _ _ _ (@ps_set _ _ (5) _ _ _ _ nd rfl (Or.inl rfl) (@pe_ifExp _ _ _ _ _ _ _ _ (@pt_cmpR _ _ _ _ _ _ _ _ op_eq (pv 1) pe_str (nomark _)) (@pe_op _ _ _ _ _ _ _ _ op_catH (pv 2) (@pe_tupS _ _ _ _ _ (@pa_cons _ _ _ _ _ (@pe_ix _ _ _ _ _ _ _ ixL0 (pv 4) pe_int (fun _ _ => rfl)) pa_nil (by rfl)))) (pv 2)) (by rfl) (by first | exact .inl rfl | exact .inr rfl | assumption)) (@pss_one _ _ _ (@ps_ret _ _ _ _ (@pe_meth _ _ _ _ _ _ _ _ _ _ _ _ _ _ _ _ _ _ _ _ (pv 0) NC.cl DP.m GP hr DP.b .nil pass0 (@pa_cons _ _ _ _ _ (@pe_tupS _ _ _ _ _ (@pa_cons _ _ _ _ _ (pv 1) (@pa_cons _ _ _ _ _ (pv 5) (@pa_cons _ _ _ _ _ (pv 3) pa_nil (by rfl)) (by rfl)) (by rfl))) (@pa_cons _ _ _ _ _ (@pe_call _ _ _ _ _ _ _ _ _ _ _ _ _ _ _ _ GO hr rfl DO.m DO.F.kp DO.b .nil pass0 (@pa_cons _ _ _ _ _ (pv 1) (@pa_cons _ _ _ _ _ (pv 2) (@pa_cons _ _ _ _ _ (pv 4) pa_nil (by rfl)) (by rfl)) (by rfl)) (by decide) (by rfl) (by rfl)) pa_nil (by rfl)) (by rfl)) (by rfl) (by rfl) (by rfl)))))), ?_⟩
    obtain ⟨dx, ho⟩ := hN.ob
    have hle := hS.le2
    first | refine wV rfl ?_ | refine ⟨_, rfl, ?_⟩
    refine ⟨ti, rfl, ⟨_, SqT.of hi⟩, ?_⟩
    refine fun l hl => ?_
    refine comp_T (K := K) hi (fun σ => ∃ x, σ = [x, some (.ref p)]) (fun i y H => ∃ q, is[i]? = some q ∧ y = .int (wdAt ns q)) (fun _ _ _ _ _ z => z) (by rw [List.length_map]; omega) hl ⟨_, rfl⟩ ?_ ?_
    · rintro CC i σ H1 x ex s1 ⟨x1, rfl⟩ kk
      rw [List.getElem?_map] at ex
      obtain ⟨q, hq, rfl⟩ := Option.map_eq_some_iff.mp ex
      have hN1 := hN.same s1
      first | refine wV rfl ?_ | refine ⟨_, rfl, ?_⟩
      refine ⟨p, C, dx, _, _, rfl, s1 _ _ ho, NC.cl, NC.nW, fl_w L W D', _, rfl, W, _, _, _, rfl, rfl, id hN1.co.wi, wd_at (hin q (List.mem_of_getElem? hq)), kk _ _ _ (Same.refl _) ⟨_, rfl⟩ ⟨q, hq, rfl⟩⟩
    · intro H1 ys s1 hys hyl hyr
      rw [List.length_map] at hyl
      have hq : ys = (is.map (wdAt ns)).map V.int := list_of hyl hyr
      rw [hq] at hys
      have hws : n = (is.map (wdAt ns)).length := by rw [List.length_map]; exact hn
      have fin : ∀ {tt : Addr} {bs' : List V} {H2 : Hp}, Same H1 H2 → H2 tt = some (.tup bs') → Paired (FV H2 5) (toldT wd bts (is.map (wdAt ns))) bs' → bs'.length ≤ 1000 → ∀ b H3, Same H2 H3 → H3 b = some (.tup [.str wd, .ref tt, .ref ti]) → ∀ H4, Same H3 H4 → spPutN P w C [.ref p, .ref b, .int (g (is.map (wdAt ns)))] H4 Q E := fun {tt bs' H2} s2 htt hft hl' b H3 s3 hb3 H4 s4 => by
        have s24 := s3.trans s4
        have s04 := s1.trans (s2.trans s24)
        refine ⟨p, b, L, W, D', ns, _, _, rfl, hN.same s04, nodeV (s4 _ _ hb3) (s24 _ _ htt) (Paired.mapP hft fun _ _ z => z.mono s24.t) (s04 _ _ hi) hl' (by omega), hz, fun H' f' n' => k H' ((Fr.of s04).trans f') n'⟩
      have hf1 : Paired (FV H1 5) bts bs := Paired.mapP hf fun _ _ z => z.mono s1.t
      refine ⟨_, rfl, rfl, _, rfl, ite2 (fun hc => ?_) (fun hc => ?_)⟩
      · have hwd : wd = "left" := by have := of_decide_eq_true hc; injection this
        obtain ⟨a0, b0, hab⟩ := two_of (ws := is.map (wdAt ns)) (by rw [← hws]; exact (hle.2.2 hwd).symm)
        have e2 : toldT wd bts (is.map (wdAt ns)) = bts ++ [.int b0] := by unfold toldT; rw [if_pos hwd, hab]; rfl
        rw [hab] at hys
        first | refine wV rfl ?_ | refine ⟨_, rfl, ?_⟩
        first | refine wL0 rfl (id hys) rfl ?_ | refine ⟨_, rfl, l, _, _, _, rfl, rfl, id hys, rfl, ?_⟩
        refine ⟨l4 rfl, ?_⟩
        refine fun t1 H2 s2 e2' => ?_
        refine ⟨tb, t1, bs, _, rfl, rfl, s2 _ _ (s1 _ _ hb), e2', ?_, fun tt H3 s3 e3 => ?_⟩
        · have := Paired.length hf
          refine Nat.le_trans ?_ (show 4 ≤ sizeLine by decide)
          show bs.length + 1 ≤ 4
          omega
        · have hft : Paired (FV H3 5) (toldT wd bts (is.map (wdAt ns))) (bs ++ [.int b0]) := by rw [e2]; exact Paired.snoc (Paired.mapP hf1 fun _ _ z => z.mono (s2.trans s3).t) (FV.int _)
          first | refine wV rfl ?_ | refine ⟨_, rfl, ?_⟩
          refine ⟨p, dx, _, rfl, s3 _ _ (s2 _ _ (s1 _ _ ho)), fl_no L W D' (by decide +kernel) (by decide +kernel) (by decide +kernel), _, rfl, _, rfl, _, rfl, l4 rfl, fun b H4 s4 e4 => ?_⟩
          have s14 := s2.trans (s3.trans s4)
          first | refine wV rfl ?_ | refine ⟨_, rfl, ?_⟩
          first | refine wV rfl ?_ | refine ⟨_, rfl, ?_⟩
          first | refine wV rfl ?_ | refine ⟨_, rfl, ?_⟩
          refine ⟨wd, tb, bs, l, _, bts, n, g, rfl, s14 _ _ (s1 _ _ hb), s14 _ _ hys, hS, by rw [hws, hab], Paired.mapP hf1 fun _ _ z => z.mono s14.t, fun H5 s5 => ?_⟩
          rw [← hab]
          exact fin (s2.trans s3) e3 hft (by rw [List.length_append]; show bs.length + 1 ≤ 1000; have := Paired.length hf; omega) b H4 s4 e4 H5 s5
      · have hwd : ¬ wd = "left" := fun z => hc (decide_eq_true (by rw [z]))
        have e2 : toldT wd bts (is.map (wdAt ns)) = bts := by unfold toldT; rw [if_neg hwd]
        first | refine wV rfl ?_ | refine ⟨_, rfl, ?_⟩
        first | refine wV rfl ?_ | refine ⟨_, rfl, ?_⟩
        refine ⟨p, dx, _, rfl, s1 _ _ ho, fl_no L W D' (by decide +kernel) (by decide +kernel) (by decide +kernel), _, rfl, _, rfl, _, rfl, l4 rfl, fun b H4 s4 e4 => ?_⟩
        first | refine wV rfl ?_ | refine ⟨_, rfl, ?_⟩
        first | refine wV rfl ?_ | refine ⟨_, rfl, ?_⟩
        first | refine wV rfl ?_ | refine ⟨_, rfl, ?_⟩
        refine ⟨wd, tb, bs, l, _, bts, n, g, rfl, s4 _ _ (s1 _ _ hb), s4 _ _ hys, hS, hws, Paired.mapP hf1 fun _ _ z => z.mono s4.t, fun H5 s5 => ?_⟩
        exact fin (Same.refl _) (s1 _ _ hb) (by rw [e2]; exact hf1) (by have := Paired.length hf; omega) b H4 s4 e4 H5 s5
end
end VK
namespace VK
open PySem PySem.Spec PyProof.Rows L2
section
variable {P : Program} {w : World} {K : PySem.W.Frag} {mg : Str → Option Value} {base : Heap}
noncomputable def layS (e : Str → Int) (pvs : List PV) (ns : NS) (i : Nat) : NS × List Int := (pvs.take i).foldl (fun s pv => ((lay pv e s.1).1, s.2 ++ [(lay pv e s.1).2])) (ns, [])
theorem layS_succ {e : Str → Int} {pvs : List PV} {ns : NS} {i : Nat} {pv : PV} (h : pvs[i]? = some pv) : layS e pvs ns (i + 1) = ((lay pv e (layS e pvs ns i).1).1, (layS e pvs ns i).2 ++ [(lay pv e (layS e pvs ns i).1).2]) := by
  unfold layS
  rw [List.take_add_one, h, List.foldl_append]
  rfl
def szs (pvs : List PV) : Nat := (pvs.map PV.sz).sum
theorem szs_drop {pvs : List PV} {i : Nat} {pv : PV} (h : pvs[i]? = some pv) : szs (pvs.drop i) = pv.sz + szs (pvs.drop (i + 1)) := by
  obtain ⟨hi, rfl⟩ := List.getElem?_eq_some_iff.mp h
  rw [List.drop_eq_getElem_cons hi]
  unfold szs
  rw [List.map_cons, List.sum_cons]
theorem layS_gr {e : Str → Int} {pvs : List PV} {ns : NS} (he : Rg e ns) : ∀ i, i ≤ pvs.length → ns.length ≤ (layS e pvs ns i).1.length ∧ (layS e pvs ns i).1.length + szs (pvs.drop i) ≤ ns.length + szs pvs ∧ (layS e pvs ns i).2.length = i ∧ ∀ j ∈ (layS e pvs ns i).2, InN (layS e pvs ns i).1 j
  | 0, _ => ⟨Nat.le_refl _, Nat.le_refl _, rfl, nofun⟩
  | i + 1, hi => by
    obtain ⟨h1, h2, h3, h4⟩ := layS_gr (pvs := pvs) he i (by omega)
    have hp : pvs[i]? = some (pvs[i]'(by omega)) := List.getElem?_eq_getElem (by omega)
    rw [layS_succ hp]
    have g := lay_gr (pv := pvs[i]'(by omega)) (he.mono h1)
    have hd := szs_drop hp
    have g1 := g.le
    have g2 := g.up
    refine ⟨by show _ ≤ (lay _ e _).1.length; omega, by show (lay _ e _).1.length + _ ≤ _; omega, by show ((layS e pvs ns i).2 ++ [_]).length = _; rw [List.length_append, h3]; rfl, fun j hj => ?_⟩
    rcases List.mem_append.mp hj with hj | hj
    · exact (h4 j hj).mono g1
    · simp only [List.mem_cons, List.not_mem_nil, or_false] at hj
      subst hj
      exact g.ix
theorem _root_.L2.Core.updL {P : Program} {w : World} {H : Hp} {L W D l : Addr} {ns : NS} {ys zs : List V} (c : Core P w H L W D ns) (hl : H l = some (.lst ys)) (nL : l ≠ L) (nW : l ≠ W) : Core P w (upd H l (.lst zs)) L W D ns := by
  obtain ⟨φ, hD⟩ := c.dEx
  have nD : D ≠ l := ne_of hD hl fun z => nomatch z
  have ts := SameT.updL (zs := zs) hl
  obtain ⟨⟨vs, h1, h2⟩, h3, h4, h5⟩ := c
  exact ⟨⟨vs, by rw [upd_ne nL.symm]; exact h1, Paired.mapP h2 fun _ _ z => z.mono ts⟩, by rw [upd_ne nW.symm]; exact h3, h4.same ts (by rw [upd_ne nD]), h5⟩
theorem NetAt.updL {P : Program} {w : World} {C : Addr} {H : Hp} {p L W D l : Addr} {ns : NS} {ys zs : List V} (a : NetAt P w C H p L W D ns) (hl : H l = some (.lst ys)) (nL : l ≠ L) (nW : l ≠ W) : NetAt P w C (upd H l (.lst zs)) p L W D ns := by
  obtain ⟨⟨dx, ho⟩, c⟩ := a
  exact ⟨⟨dx, by rw [upd_ne (ne_of ho hl fun z => nomatch z)]; exact ho⟩, c.updL hl nL nW⟩
theorem NetAt.out {P : Program} {w : World} {C : Addr} {H : Hp} {p L W D : Addr} {ns : NS} (a : NetAt P w C H p L W D ns) {l : Addr} (h : H l = none) : l ≠ L ∧ l ≠ W ∧ l ≠ D := by
  obtain ⟨vs, hL, _⟩ := a.co.la
  obtain ⟨φ, hD⟩ := a.co.dEx
  exact ⟨(ne_of_none hL h).symm, (ne_of_none a.co.wi h).symm, (ne_of_none hD h).symm⟩
theorem NetAt.dk {P : Program} {w : World} {C : Addr} {H H' : Hp} {p L W D : Addr} {ns : NS} (a : NetAt P w C H p L W D ns) (f : Fr L W D H H') {l : Addr} {kvs : List (Key × V)} (h : H l = some (.dK kvs)) : H' l = some (.dK kvs) := by
  obtain ⟨vs, hL, _⟩ := a.co.la
  obtain ⟨φ, hD⟩ := a.co.dEx
  exact f _ _ h (ne_of h hL fun z => nomatch z) (ne_of h a.co.wi fun z => nomatch z) (ne_of h hD fun z => nomatch z)
def Knows (kvs : List (Key × V)) (D : Str → Prop) (e : Str → Int) : Prop := ∀ x, D x → valV kvs (.inr x) = some (.int (e x))
theorem Knows.put {kvs : List (Key × V)} {D : Str → Prop} {e : Str → Int} (h : Knows kvs D e) (x : Str) (i : Int) : Knows (putK kvs (.inr x) (.int i)) (fun y => y = x ∨ D y) (eput e x i) := fun y hy => by
  rw [valV_put]
  unfold eput
  by_cases hyx : y = x
  · subst hyx
    rw [if_pos rfl, if_pos rfl]
  · rw [if_neg hyx, if_neg (fun z => hyx (by injection z))]
    exact h y (hy.resolve_left hyx)
abbrev sLay : Stmt := inClass (top 8) 2
abbrev psLay : List Str := ["self", "V", "names"]
abbrev nLay : List Str := ["self", "V", "names", "inputs"]
def spLay (P : Program) (w : World) (C : Addr) (n : Nat) : Sp := fun vs H Q _ => ∃ (p L W D a : Addr) (ns : NS) (v : V) (pv : PV) (Dm : Str → Prop) (kvs : List (Key × V)) (e : Str → Int), vs = [.ref p, v, .ref a] ∧ NetAt P w C H p L W D ns ∧ VP n H Dm v pv ∧ H a = some (.dK kvs) ∧ Knows kvs Dm e ∧ Rg e ns ∧ kvs.length + n ≤ 900 ∧ ns.length + pv.sz < 90000 ∧
  ∀ H', Fr L W D H H' → NetAt P w C H' p L W D (lay pv e ns).1 → Q (.int (lay pv e ns).2) H'
theorem scLay : FnScope nLay psLay (defScope sLay) := ⟨rfl, rfl, rfl, by decide +kernel, rfl, by decide +kernel, by decide +kernel⟩
abbrev sLayR : Stmt := inClass (top 8) 3
abbrev nLayR : List Str := ["self", "V", "names", "now", "number", "more"]
def spLayR (P : Program) (w : World) (C : Addr) (n : Nat) : Sp := fun vs H Q _ => ∃ (p L W D a t : Addr) (ns : NS) (v1 v2 : V) (p1 p2 : PV) (x : Str) (k : Nat) (Dm : Str → Prop) (kvs : List (Key × V)) (e : Str → Int), vs = [.ref p, .ref t, .ref a] ∧ NetAt P w C H p L W D ns ∧ H t = some (.tup [.str "rounds", .str x, .int k, v1, v2]) ∧ k ≤ 64 ∧ VP n H Dm v1 p1 ∧ VP n H (fun y => y = x ∨ Dm y) v2 p2 ∧ H a = some (.dK kvs) ∧ Knows kvs Dm e ∧ Rg e ns ∧ kvs.length + n + 1 ≤ 900 ∧ ns.length + (PV.rounds x k p1 p2).sz < 90000 ∧
  ∀ H', Fr L W D H H' → NetAt P w C H' p L W D (lay (.rounds x k p1 p2) e ns).1 → Q (.int (lay (.rounds x k p1 p2) e ns).2) H'
theorem scLayR : FnScope nLayR psLay (defScope sLayR) := ⟨rfl, rfl, rfl, by decide +kernel, rfl, by decide +kernel, by decide +kernel⟩
theorem okLayR (n : Nat) {f C fL fW fN : Addr} {fd fdL fdW fdN : FuncData} (NC : NetC K mg C) (X : Txt mg) (D : Mf K C "lay_rounds" "Net.lay_rounds" sLayR psLay f fd) (DL : Mf K C "lay" "Net.lay" sLay psLay fL fdL) (DW : Mf K C "lay_word" "Net.lay_word" sLayW psLayW fW fdW) (DN : Fn K mg "with_name" sWithN psWithN fN fdN)
    (GW0 : FnOk P w K mg base CX0 2 fW fdW psLayW (spLayW P w C)) (GL : FnOk P w K mg base CX0 (2 * n + 4) fL fdL psLay (spLay P w C n)) : FnOk P w K mg base CX0 (2 * n + 5) f fd psLay (spLayR P w C n) := by
  have GW : FnOk P w K mg base CX0 (2 * n + 4) fW fdW psLayW (spLayW P w C) := GW0.mono (by omega)
  have GN : FnOk P w K mg base CX0 (2 * n + 4) fN fdN psWithN spWithN := (okWithN DN X).mono (by omega)
  refine D.F.ok (k := 2 * n + 4) scLayR (fun vs H Q E h => ?_) (fun cdv A outer s H vs Q E hr h => ?_)
  · obtain ⟨_, _, _, _, _, _, _, _, _, _, _, _, _, _, _, _, rfl, _⟩ := h
    rfl
  · refine Classical.byContradiction fun hG0 => ?_
    obtain ⟨p, L, W, D', a, t, ns, v1, v2, p1, p2, x, k0, Dm, kvs, e, rfl, hN, ht, hk0, hV1, hV2, ha, hkn, he, hzk, hz, k⟩ := h
    refine hG0 ?_
    clear hG0
    have nd := scLayR.nd
    refine ⟨_, (@pss_cons _ _ _ _ _ (@ps_set _ _ (3) _ _ _ _ nd rfl (Or.inl rfl) (@pe_meth _ _ _ _ _ _ _ _ _ _ _ _ _ _ _ _ _ _ _ _ (pv 0) NC.cl DW.m GW hr DW.b .nil pass0 (@pa_cons _ _ _ _ _ pe_str (@pa_cons _ _ _ _ _ (@pe_tupS _ _ _ _ _ pa_nil) (@pa_cons _ _ _ _ _ (@pe_tupS _ _ _ _ _ (@pa_cons _ _ _ _ _ (@pe_meth _ _ _ _ _ _ _ _ _ _ _ _ _ _ _ _ _ _ _ _ (pv 0) NC.cl DL.m GL hr DL.b .nil pass0 (@pa_cons _ _ _ _ _ (@pe_ix _ _ _ _ _ _ _ ixT0 (pv 1) pe_int (fun _ _ => rfl)) (@pa_cons _ _ _ _ _ (pv 2) pa_nil (by rfl)) (by rfl)) (by rfl) (by rfl) (by rfl)) pa_nil (by rfl))) pa_nil (by rfl)) (by rfl)) (by rfl)) (by rfl) (by rfl) (by rfl)) (by rfl) (by first | exact .inl rfl | exact .inr rfl | assumption)) (@pss_cons _ _ _ _ _ (@ps_for _ _ _ _ _ _ _ _ PassesOwn.never rfl (@pi_range1 _ _ _ _ _ _ rfl X.range (@pa_cons _ _ _ _ _ (@pe_ix _ _ _ _ _ _ _ ixT0 (pv 1) pe_int (fun _ _ => rfl)) pa_nil (by rfl)) (by rfl)) (@pg_name _ _ (4) _ nd rfl (Or.inl rfl) (by first | exact .inl rfl | exact .inr rfl | assumption)) (@pss_cons _ _ _ _ _ (@ps_set _ _ (5) _ _ _ _ nd rfl (Or.inl rfl) (@pe_meth _ _ _ _ _ _ _ _ _ _ _ _ _ _ _ _ _ _ _ _ (pv 0) NC.cl DL.m GL hr DL.b .nil pass0 (@pa_cons _ _ _ _ _ (@pe_ix _ _ _ _ _ _ _ ixT0 (pv 1) pe_int (fun _ _ => rfl)) (@pa_cons _ _ _ _ _ (@pe_call _ _ _ _ _ _ _ _ _ _ _ _ _ _ _ _ GN hr rfl DN.m DN.F.kp DN.b .nil pass0 (@pa_cons _ _ _ _ _ (pv 2) (@pa_cons _ _ _ _ _ (@pe_ix _ _ _ _ _ _ _ ixT0 (pv 1) pe_int (fun _ _ => rfl)) (@pa_cons _ _ _ _ _ (pv 3) pa_nil (by rfl)) (by rfl)) (by rfl)) (by decide) (by rfl) (by rfl)) pa_nil (by rfl)) (by rfl)) (by rfl) (by rfl) (by rfl)) (by rfl) (by first | exact .inl rfl | exact .inr rfl | assumption)) (@pss_one _ _ _ (@ps_set _ _ (3) _ _ _ _ nd rfl (Or.inl rfl) (@pe_meth _ _ _ _ _ _ _ _ _ _ _ _ _ _ _ _ _ _ _ _ (pv 0) NC.cl DW.m GW hr DW.b .nil pass0 (@pa_cons _ _ _ _ _ pe_str (@pa_cons _ _ _ _ _ (@pe_tupS _ _ _ _ _ pa_nil) (@pa_cons _ _ _ _ _ (@pe_tupS _ _ _ _ _ (@pa_cons _ _ _ _ _ (@pe_meth _ _ _ _ _ _ _ _ _ _ _ _ _ _ _ _ _ _ _ _ (pv 0) NC.cl DW.m GW hr DW.b .nil pass0 (@pa_cons _ _ _ _ _ pe_str (@pa_cons _ _ _ _ _ (@pe_tupS _ _ _ _ _ pa_nil) (@pa_cons _ _ _ _ _ (@pe_tupS _ _ _ _ _ (@pa_cons _ _ _ _ _ (pv 3) (@pa_cons _ _ _ _ _ (pv 5) pa_nil (by rfl)) (by rfl))) pa_nil (by rfl)) (by rfl)) (by rfl)) (by rfl) (by rfl) (by rfl)) pa_nil (by rfl))) pa_nil (by rfl)) (by rfl)) (by rfl)) (by rfl) (by rfl) (by rfl)) (by rfl) (by first | exact .inl rfl | exact .inr rfl | assumption)))) (by intro _; rfl)) (@pss_one _ _ _ (@ps_ret _ _ _ _ (pv 3))))), ?_⟩
    have lk : ∀ m : Str, m ≠ "number_of" → m ≠ "node_widths" → m ≠ "laid" → (flds L W D').lookup m = none := fun m => fl_no L W D'
    have n1 := lk "lay" (by decide +kernel) (by decide +kernel) (by decide +kernel)
    have n2 := lk "lay_word" (by decide +kernel) (by decide +kernel) (by decide +kernel)
    have szE : (PV.rounds x k0 p1 p2).sz = p1.sz + 1 + k0 * (p2.sz + 2) := rfl
    obtain ⟨dx, ho⟩ := hN.ob
    have g1 := lay_gr (pv := p1) he
    have hfirst := layW_gr (wd := "once") (bts := []) (g := w0) (is := [(lay p1 e ns).2]) (lay p1 e ns).1
    have gI : ∀ j, Gr ns (iter (turn (fun e' ns' => lay p2 e' ns') x e) j (layW "once" [] w0 [(lay p1 e ns).2] (lay p1 e ns).1)) (p1.sz + 1 + j * (p2.sz + 2)) := iter_gr (fun s hs hi => turn_gr (fun _ _ z => lay_gr (pv := p2) z) hs hi) he (g1.trans hfirst)
    have up1 := g1.up
    have le1 := g1.le
    refine cut fun R1 q1 => ?_
    first | refine wV rfl ?_ | refine ⟨_, rfl, ?_⟩
    refine ⟨p, dx, _, rfl, ho, n2, l4 rfl, fun te H1 s1 e1 => ?_⟩
    have hN1 := hN.same s1
    first | refine wV rfl ?_ | refine ⟨_, rfl, ?_⟩
    refine ⟨p, dx, _, rfl, s1 _ _ ho, n1, ?_⟩
    first | refine wT0 rfl (id (s1 _ _ ht)) rfl ?_ | refine ⟨_, rfl, t, _, _, _, rfl, rfl, id (s1 _ _ ht), rfl, ?_⟩
    first | refine wV rfl ?_ | refine ⟨_, rfl, ?_⟩
    refine ⟨p, L, W, D', a, ns, v1, p1, Dm, kvs, e, rfl, hN1, hV1.same s1.t, s1 _ _ ha, hkn, he, by omega, by omega, ?_⟩
    refine fun H2 f2 hN2 => ?_
    have t12 := hN1.co.tups f2
    refine ⟨l4 rfl, ?_⟩
    refine fun ti H3 s3 e3 => ?_
    have hN3 := hN2.same s3
    refine ⟨p, te, ti, L, W, D', _, "once", [], [], w0, 1, [(lay p1 e ns).2], rfl, hN3, s3 _ _ (t12 _ _ e1), .nil, .once, rfl, e3, fun i hi => ?_, by omega, fun H4 f4 hN4 => ?_⟩
    · simp only [List.mem_cons, List.not_mem_nil, or_false] at hi
      subst hi
      exact g1.ix
    have f04 : Fr L W D' H H4 := (Fr.of s1).trans (f2.trans ((Fr.of s3).trans f4))
    refine q1 _ _ (cut fun R2 q2 => ?_)
    clear q1 R1
    obtain ⟨Pv, hPv⟩ : ∃ Pv : Nat → L2.St → Hp → Prop, Pv = fun j σ' H' => ∃ x4 x5, σ' = [some (.ref p), some (.ref t), some (.ref a), some (.int (iter (turn (fun e' ns' => lay p2 e' ns') x e) j (layW "once" [] w0 [(lay p1 e ns).2] (lay p1 e ns).1)).2), x4, x5] ∧ Fr L W D' H H' ∧ NetAt P w C H' p L W D' (iter (turn (fun e' ns' => lay p2 e' ns') x e) j (layW "once" [] w0 [(lay p1 e ns).2] (lay p1 e ns).1)).1 := ⟨_, rfl⟩
    first | refine wT0 rfl (id (hN.co.tups f04 _ _ ht)) rfl ?_ | refine ⟨_, rfl, t, _, _, _, rfl, rfl, id (hN.co.tups f04 _ _ ht), rfl, ?_⟩
    first | refine wV rfl ?_ | refine ⟨_, rfl, ?_⟩
    refine ⟨by omega, by omega, ?_⟩
    refine for_range (lo := 0) (n := k0) Pv (by rw [hPv]; exact ⟨none, none, rfl, f04, hN4⟩) ?_ ?_
    · clear q2
      rintro j σ' H5 hj hPj
      rw [hPv] at hPj
      refine Classical.byContradiction fun hG => ?_
      obtain ⟨x4, x5, rfl, f5, hN5⟩ := hPj
      refine hG (cut fun R3 q3 => ?_)
      clear hG
      have gj := gI j
      have gjs := gI (j + 1)
      have hjk : (j + 1) * (p2.sz + 2) ≤ k0 * (p2.sz + 2) := Nat.mul_le_mul_right _ (by omega)
      have hjs : (j + 1) * (p2.sz + 2) = j * (p2.sz + 2) + (p2.sz + 2) := Nat.succ_mul _ _
      have gju := gj.up
      have gjl := gj.le
      have hend : ∀ σ' H', (∃ x4 x5, σ' = [some (.ref p), some (.ref t), some (.ref a), some (.int (turn (fun e' ns' => lay p2 e' ns') x e (iter (turn (fun e' ns' => lay p2 e' ns') x e) j (layW "once" [] w0 [(lay p1 e ns).2] (lay p1 e ns).1))).2), x4, x5] ∧ Fr L W D' H H' ∧ NetAt P w C H' p L W D' (turn (fun e' ns' => lay p2 e' ns') x e (iter (turn (fun e' ns' => lay p2 e' ns') x e) j (layW "once" [] w0 [(lay p1 e ns).2] (lay p1 e ns).1))).1) → Pv (j + 1) σ' H' := fun σ' H' z => by
        rw [hPv]
        exact z
      clear hPv gI gjs hfirst f04 hN4
      generalize iter (turn (fun e' ns' => lay p2 e' ns') x e) j (layW "once" [] w0 [(lay p1 e ns).2] (lay p1 e ns).1) = sj at hN5 gj gju gjl hend ⊢
      unfold turn at hend
      dsimp only at hend
      obtain ⟨dx5, ho5⟩ := hN5.ob
      have t05 := hN.co.tups f5
      have ha5 := hN.dk f5 ha
      first | refine wV rfl ?_ | refine ⟨_, rfl, ?_⟩
      refine ⟨p, dx5, _, rfl, ho5, n1, ?_⟩
      first | refine wT0 rfl (id (t05 _ _ ht)) rfl ?_ | refine ⟨_, rfl, t, _, _, _, rfl, rfl, id (t05 _ _ ht), rfl, ?_⟩
      first | refine wV rfl ?_ | refine ⟨_, rfl, ?_⟩
      first | refine wT0 rfl (id (t05 _ _ ht)) rfl ?_ | refine ⟨_, rfl, t, _, _, _, rfl, rfl, id (t05 _ _ ht), rfl, ?_⟩
      first | refine wV rfl ?_ | refine ⟨_, rfl, ?_⟩
      refine ⟨a, kvs, x, _, rfl, ha5, by omega, fun a6 H6 s6 e6 => ?_⟩
      have hl6 := length_putK kvs (.inr x) (V.int sj.2)
      have g2 := lay_gr (pv := p2) ((he.mono gjl).put (x := x) gj.ix)
      have g2u := g2.up
      have g2l := g2.le
      refine ⟨p, L, W, D', a6, sj.1, v2, p2, _, _, eput e x sj.2, rfl, hN5.same s6, hV2.same (SameT.trans t05 s6.t), e6, hkn.put x _, (he.mono gjl).put gj.ix, by omega, by omega, fun H7 f7 hN7 => ?_⟩
      refine q3 _ _ ?_
      clear q3 R3
      generalize lay p2 (eput e x sj.2) sj.1 = m2 at hN7 g2 g2u g2l hend ⊢
      obtain ⟨dx7, ho7⟩ := hN7.ob
      first | refine wV rfl ?_ | refine ⟨_, rfl, ?_⟩
      refine ⟨p, dx7, _, rfl, ho7, n2, l4 rfl, fun tb1 H8 s8 e8 => ?_⟩
      first | refine wV rfl ?_ | refine ⟨_, rfl, ?_⟩
      refine ⟨p, dx7, _, rfl, s8 _ _ ho7, n2, l4 rfl, fun tb2 H9 s9 e9 => ?_⟩
      first | refine wV rfl ?_ | refine ⟨_, rfl, ?_⟩
      first | refine wV rfl ?_ | refine ⟨_, rfl, ?_⟩
      refine ⟨l4 rfl, ?_⟩
      refine fun ti2 HA sA eA => ?_
      have s7A := s8.trans (s9.trans sA)
      have gp := layW_gr (wd := "pour") (bts := []) (g := w0) (is := [sj.2, m2.2]) m2.1
      have gpu := gp.up
      have gpl := gp.le
      refine ⟨p, tb2, ti2, L, W, D', _, "pour", [], [], w0, 2, [sj.2, m2.2], rfl, hN7.same s7A, sA _ _ e9, .nil, .alike (.inl rfl), rfl, eA, fun i hi => ?_, by omega, fun HB fB hNB => ?_⟩
      · simp only [List.mem_cons, List.not_mem_nil, or_false] at hi
        rcases hi with rfl | rfl
        · exact gj.ix.mono g2l
        · exact g2.ix
      generalize layW "pour" [] w0 [sj.2, m2.2] m2.1 = pp at gp gpu gpl hNB hend ⊢
      refine ⟨l4 rfl, ?_⟩
      refine fun ti1 HC sC eC => ?_
      have tAB := (hN7.same s7A).co.tups fB
      refine ⟨p, tb1, ti1, L, W, D', _, "once", [], [], w0, 1, [pp.2], rfl, hNB.same sC, sC _ _ (tAB _ _ ((s9.trans sA) _ _ e8)), .nil, .once, rfl, eC, fun i hi => ?_, by omega, fun HD fD hND => ?_⟩
      · simp only [List.mem_cons, List.not_mem_nil, or_false] at hi
        subst hi
        exact gp.ix
      refine hend _ _ ?_
      refine ⟨_, _, rfl, f5.trans ((Fr.of s6).trans (f7.trans ((Fr.of s7A).trans (fB.trans ((Fr.of sC).trans fD))))), hND⟩
    · rintro σ' H5 hPj
      rw [hPv] at hPj
      obtain ⟨x4, x5, rfl, f5, hN5⟩ := hPj
      exact q2 _ _ ⟨_, rfl, k H5 f5 hN5⟩
end
end VK
namespace VK
open PySem PySem.Spec PyProof.Rows L2
section
variable {P : Program} {w : World} {K : PySem.W.Frag} {mg : Str → Option Value} {base : Heap}
theorem okLay (n : Nat) {f C fR fW fN fV fB : Addr} {fd fdR fdW fdN fdV fdB : FuncData} (NC : NetC K mg C) (X : Txt mg) (GLB : Glb K mg) (D : Mf K C "lay" "Net.lay" sLay psLay f fd) (DR : Mf K C "lay_rounds" "Net.lay_rounds" sLayR psLay fR fdR) (DW : Mf K C "lay_word" "Net.lay_word" sLayW psLayW fW fdW) (DN : Fn K mg "with_name" sWithN psWithN fN fdN) (DV : Fn K mg "views_in" sViewsIn psV fV fdV) (DB : Fn K mg "besides_of" sBesides psV fB fdB)
    (GW0 : FnOk P w K mg base CX0 2 fW fdW psLayW (spLayW P w C)) (IH0 : FnOk P w K mg base CX0 (2 * n + 4) f fd psLay (spLay P w C n)) : FnOk P w K mg base CX0 (2 * n + 6) f fd psLay (spLay P w C (n + 1)) := by
  have GR : FnOk P w K mg base CX0 (2 * n + 5) fR fdR psLay (spLayR P w C n) := okLayR n NC X DR D DW DN GW0 IH0
  have GW : FnOk P w K mg base CX0 (2 * n + 5) fW fdW psLayW (spLayW P w C) := GW0.mono (by omega)
  have GV : FnOk P w K mg base CX0 (2 * n + 5) fV fdV psV spViewsIn := (okViewsIn DV GLB).mono (by omega)
  have GB : FnOk P w K mg base CX0 (2 * n + 5) fB fdB psV spBesides := (okBesides DB X GLB DV).mono (by omega)
  have IH : FnOk P w K mg base CX0 (2 * n + 5) f fd psLay (spLay P w C n) := IH0.mono (by omega)
  refine D.F.ok (k := 2 * n + 5) scLay (fun vs H Q E h => ?_) (fun cdv A outer s H vs Q E hr h => ?_)
  · obtain ⟨_, _, _, _, _, _, _, _, _, _, _, rfl, _⟩ := h
    rfl
  · refine Classical.byContradiction fun hG0 => ?_
    obtain ⟨p, L, W, D', a, ns, v, pq, Dm, kvs, e, rfl, hN, ⟨t, rfl, hV⟩, ha, hkn, he, hzk, hz, k⟩ := h
    refine hG0 ?_
    clear hG0
    have nd := scLay.nd
    refine ⟨_, (@pss_cons _ _ _ _ _ (@ps_if _ _ _ _ _ _ _ _ (@pt_cmpR _ _ _ _ _ _ _ _ op_eq (@pe_ix _ _ _ _ _ _ _ ixT0 (pv 1) pe_int (fun _ _ => rfl)) pe_str (nomark _)) (@pss_one _ _ _ (@ps_ret _ _ _ _ (@pe_dget _ _ _ _ _ _ (hu_of hr) (pv 2) (@pe_ix _ _ _ _ _ _ _ ixT0 (pv 1) pe_int (fun _ _ => rfl)) (fun _ _ => rfl)))) pss_nil) (@pss_cons _ _ _ _ _ (@ps_if _ _ _ _ _ _ _ _ (@pt_cmpR _ _ _ _ _ _ _ _ op_eq (@pe_ix _ _ _ _ _ _ _ ixT0 (pv 1) pe_int (fun _ _ => rfl)) pe_str (nomark _)) (@pss_one _ _ _ (@ps_ret _ _ _ _ (@pe_meth _ _ _ _ _ _ _ _ _ _ _ _ _ _ _ _ _ _ _ _ (pv 0) NC.cl DR.m GR hr DR.b .nil pass0 (@pa_cons _ _ _ _ _ (pv 1) (@pa_cons _ _ _ _ _ (pv 2) pa_nil (by rfl)) (by rfl)) (by rfl) (by rfl) (by rfl)))) pss_nil) (@pss_cons _ _ _ _ _ (@ps_set _ _ (3) _ _ _ _ nd rfl (Or.inl rfl) (@pe_callTy _ _ _ _ _ _ _ _ _ (tupK K) rfl X.tuple b_tuple (@pa_cons _ _ _ _ _ (@pe_comp _ _ _ _ _ _ _ _ (tMeth C "lay" (spLay P w C n) [] E0 (tVar 2) (tCons (tVar 0) (tCons (tVar 1) tNil))) (["view"]) ([("names", 2), ("self", 0)]) (defScope sLay) (nLay) rfl rfl ⟨rfl, by decide +kernel, by decide +kernel, by decide +kernel, by decide +kernel⟩ rfl (@pi_list _ _ _ _ (@pe_call _ _ _ _ _ _ _ _ _ _ _ _ _ _ _ _ GV hr rfl DV.m DV.F.kp DV.b .nil pass0 (@pa_cons _ _ _ _ _ (pv 1) pa_nil (by rfl)) (by decide) (by rfl) (by rfl))) (fun s H fp => pg_name (i := 0) (show (["view", "names", "self"] : List Str).Nodup by decide +kernel) rfl (Or.inl rfl) (Or.inr rfl)) (fun s H fp => (@pe_meth _ _ _ _ _ _ _ _ _ _ _ _ _ _ _ _ _ _ _ _ (pv 2) NC.cl D.m IH hr D.b .nil pass0 (@pa_cons _ _ _ _ _ (pv 0) (@pa_cons _ _ _ _ _ (pv 1) pa_nil (by rfl)) (by rfl)) (by rfl) (by rfl) (by rfl))) (by intro _; rfl)) pa_nil (by rfl)) (by decide) (by decide) (by rfl) (by rfl)) (by rfl) (by first | exact .inl rfl | exact .inr rfl | assumption)) (@pss_one _ _ _ (@ps_ret _ _ _ _ (@pe_meth _ _ _ _ _ _ _ _ _ _ _ _ _ _ _ _ _ _ _ _ (pv 0) NC.cl DW.m GW hr DW.b .nil pass0 (@pa_cons _ _ _ _ _ (@pe_ix _ _ _ _ _ _ _ ixT0 (pv 1) pe_int (fun _ _ => rfl)) (@pa_cons _ _ _ _ _ (@pe_call _ _ _ _ _ _ _ _ _ _ _ _ _ _ _ _ GB hr rfl DB.m DB.F.kp DB.b .nil pass0 (@pa_cons _ _ _ _ _ (pv 1) pa_nil (by rfl)) (by decide) (by rfl) (by rfl)) (@pa_cons _ _ _ _ _ (pv 3) pa_nil (by rfl)) (by rfl)) (by rfl)) (by rfl) (by rfl) (by rfl))))))), ?_⟩
    refine Classical.byContradiction fun hG => ?_
    have n1 := fl_no L W D' (m := "lay") (by decide +kernel) (by decide +kernel) (by decide +kernel)
    have n2 := fl_no L W D' (m := "lay_word") (by decide +kernel) (by decide +kernel) (by decide +kernel)
    have n3 := fl_no L W D' (m := "lay_rounds") (by decide +kernel) (by decide +kernel) (by decide +kernel)
    obtain ⟨dx, ho⟩ := hN.ob
    have words : ∀ {wd : Str} {us bs : List V} {ws : List Int} {w' m : Int} {bts : List FT} {g : Wg} {pvs : List PV}, H t = some (.tup (.str wd :: (us ++ bs))) → us.length = ws.length → Bd H wd bs ws w' m → Sh wd bts us.length g → Paired (FV H 5) bts bs → Paired (VP n H Dm) us pvs → ns.length + szs pvs < 90000 → layW wd bts g (layS e pvs ns us.length).2 (layS e pvs ns us.length).1 = lay pq e ns → False := fun {wd us bs ws w' m bts g pvs} ht hul hb hS hf hp hz' hlay => by
      refine hG ?_
      obtain ⟨c2, c1⟩ := hb.word
      have hle := hS.le2.1
      have hpl := Paired.length hp
      first | refine wT0 rfl (id ht) at0 ?_ | refine ⟨_, rfl, t, _, _, _, rfl, rfl, id ht, at0, ?_⟩
      refine ⟨rfl, ?_⟩
      first | refine wV rfl ?_ | refine ⟨_, rfl, ?_⟩
      refine iteQ (neD c1) ?_
      first | refine wT0 rfl (id ht) at0 ?_ | refine ⟨_, rfl, t, _, _, _, rfl, rfl, id ht, at0, ?_⟩
      refine ⟨rfl, ?_⟩
      first | refine wV rfl ?_ | refine ⟨_, rfl, ?_⟩
      refine iteQ (neD c2) ?_
      first | refine wV rfl ?_ | refine ⟨_, rfl, ?_⟩
      refine ⟨t, wd, us, bs, ws, w', m, rfl, ht, hul, hb, ?_⟩
      refine fun lv H1 e1 hlv0 hlv => ?_
      refine ⟨lv, rfl, ⟨_, SqL.of hlv⟩, ?_⟩
      refine fun l hl => ?_
      have hN1 := hN.same e1
      have lvL := hN.out hlv0
      have lL := hN1.out hl
      have llv : lv ≠ l := ne_of_none hlv hl
      refine comp_lst (K := K) (xs := us) (fun i σ' H' => ∃ o0, σ' = [o0, some (.ref a), some (.ref p)] ∧ Fr L W D' H1 H' ∧ NetAt P w C H' p L W D' (layS e pvs ns i).1 ∧ H' l = some (.lst ((layS e pvs ns i).2.map V.int)))
        ⟨none, rfl, fun b o hb' _ _ _ => by rw [upd_ne (ne_of_none hb' hl)]; exact hb', ?_, upd_same⟩ (fun i σ' H' _ ⟨_, _, f', _, _⟩ => SqL.of (f' _ _ hlv lvL.1 lvL.2.1 lvL.2.2)) ?_ ?_
      · exact hN1.same ((Same.refl H1).upd hl)
      · rintro i x σ' H2 ex ⟨o0, rfl, f2, hN2, hl2⟩
        obtain ⟨q, hq, hVq⟩ := pair_at hp ex
        have hi : i < us.length := (List.getElem?_eq_some_iff.mp ex).1
        obtain ⟨g1, g2, g3, g4⟩ := layS_gr (pvs := pvs) he i (by omega)
        have hsz := szs_drop hq
        obtain ⟨dx2, ho2⟩ := hN2.ob
        have t02 : SameT H H2 := SameT.trans e1.t (hN1.co.tups f2)
        first | refine wV rfl ?_ | refine ⟨_, rfl, ?_⟩
        refine ⟨p, dx2, _, rfl, ho2, n1, _, rfl, _, rfl, p, L, W, D', a, _, x, q, Dm, kvs, e, rfl, hN2, hVq.same t02, hN1.dk f2 (e1 _ _ ha), hkn, he.mono g1, by omega, by omega, fun H3 f3 hN3 => ?_⟩
        have hl3 := f3 _ _ hl2 lL.1 lL.2.1 lL.2.2
        refine ⟨_, hl3, lt_line (by rw [List.length_map, g3]; omega), _, rfl, fun b o hb' h1 h2 h3 => ?_, ?_, ?_⟩
        · rw [upd_ne (ne_of_none hb' hl)]
          exact f3 _ _ (f2 _ _ hb' h1 h2 h3) h1 h2 h3
        · rw [layS_succ hq]
          exact hN3.updL hl3 lL.1 lL.2.1
        · rw [upd_same, layS_succ hq, List.map_append]
          rfl
      · rintro σ' H2 ⟨o0, rfl, f2, hN2, hl2⟩
        obtain ⟨g1, g2, g3, g4⟩ := layS_gr (pvs := pvs) he us.length (by omega)
        refine ⟨l, _, rfl, .inl ⟨SqL.of hl2, fun ti hti => ?_⟩⟩
        have s3 : Same H2 (upd H2 ti (.tup ((layS e pvs ns us.length).2.map V.int))) := (Same.refl H2).upd hti
        have e3 : (upd H2 ti (.tup ((layS e pvs ns us.length).2.map V.int))) ti = some (.tup ((layS e pvs ns us.length).2.map V.int)) := upd_same
        generalize upd H2 ti (.tup ((layS e pvs ns us.length).2.map V.int)) = H3 at s3 e3 ⊢
        have f03 : Fr L W D' H H3 := (Fr.of e1).trans (f2.trans (Fr.of s3))
        have t03 := hN.co.tups f03
        have hN3 := hN2.same s3
        obtain ⟨dx3, ho3⟩ := hN3.ob
        first | refine wV rfl ?_ | refine ⟨_, rfl, ?_⟩
        refine ⟨p, dx3, _, rfl, ho3, n2, ?_⟩
        first | refine wT0 rfl (id (t03 _ _ ht)) at0 ?_ | refine ⟨_, rfl, t, _, _, _, rfl, rfl, id (t03 _ _ ht), at0, ?_⟩
        first | refine wV rfl ?_ | refine ⟨_, rfl, ?_⟩
        refine ⟨t, wd, us, bs, ws, w', m, rfl, t03 _ _ ht, hul, hb.same t03, ?_⟩
        refine fun tb H4 s4 e4 => ?_
        first | refine wV rfl ?_ | refine ⟨_, rfl, ?_⟩
        refine ⟨p, tb, ti, L, W, D', _, wd, bs, bts, g, us.length, _, rfl, hN3.same s4, e4, Paired.mapP hf fun _ _ z => z.mono (SameT.trans t03 s4.t), hS, g3.symm, s4 _ _ e3, g4, by omega, fun H5 f5 hN5 => ?_⟩
        rw [hlay] at hN5 ⊢
        exact k H5 (f03.trans ((Fr.of s4).trans f5)) hN5
    rcases hV with ⟨x, rfl, ht, hx⟩ | ⟨wd, v1, bs, bts, g, p1, w1, w', m, rfl, ht, h1, ob, hS, hf⟩ | ⟨wd, v1, v2, bs, bts, g, p1, p2, w1, w2, w', m, rfl, ht, h1, h2, ob, hS, hf⟩ | ⟨x, k0, v1, v2, p1, p2, rfl, ht, hk0, h1, h2⟩
    · refine hG ?_
      first | refine wT0 rfl (id ht) rfl ?_ | refine ⟨_, rfl, t, _, _, _, rfl, rfl, id ht, rfl, ?_⟩
      refine ⟨rfl, ?_⟩
      first | refine wV rfl ?_ | refine ⟨_, rfl, ?_⟩
      refine iteP (by decide +kernel) ?_
      have hg := DGet.k (k := .inr x) ha
      rw [hkn x hx] at hg
      first | refine wV rfl ?_ | refine ⟨_, rfl, ?_⟩
      first | refine wT0 rfl (id ht) rfl ?_ | refine ⟨_, rfl, t, _, _, _, rfl, rfl, id ht, rfl, ?_⟩
      refine ⟨a, _, rfl, hg, k H (Fr.refl H) hN⟩
    · exact words (us := [v1]) (ws := [w1]) (pvs := [p1]) ht rfl (.one ob) hS hf (.cons h1 .nil) (by have : (PV.one wd bts g p1).sz = p1.sz + 1 := rfl; show ns.length + (p1.sz + 0) < _; omega) rfl
    · exact words (us := [v1, v2]) (ws := [w1, w2]) (pvs := [p1, p2]) ht rfl (.two ob) hS hf (.cons h1 (.cons h2 .nil)) (by have : (PV.two wd bts g p1 p2).sz = p1.sz + p2.sz + 1 := rfl; show ns.length + (p1.sz + (p2.sz + 0)) < _; omega) rfl
    · refine hG ?_
      first | refine wT0 rfl (id ht) rfl ?_ | refine ⟨_, rfl, t, _, _, _, rfl, rfl, id ht, rfl, ?_⟩
      refine ⟨rfl, ?_⟩
      first | refine wV rfl ?_ | refine ⟨_, rfl, ?_⟩
      refine iteQ (by decide +kernel) ?_
      first | refine wT0 rfl (id ht) rfl ?_ | refine ⟨_, rfl, t, _, _, _, rfl, rfl, id ht, rfl, ?_⟩
      refine ⟨rfl, ?_⟩
      first | refine wV rfl ?_ | refine ⟨_, rfl, ?_⟩
      refine iteP (by decide +kernel) ?_
      first | refine wV rfl ?_ | refine ⟨_, rfl, ?_⟩
      refine ⟨p, dx, _, rfl, ho, n3, _, rfl, _, rfl, p, L, W, D', a, t, ns, v1, v2, p1, p2, x, k0, Dm, kvs, e, rfl, hN, ht, hk0, h1, h2, ha, hkn, he, by omega, hz, k⟩
theorem okLays {f C fR fW fN fV fB : Addr} {fd fdR fdW fdN fdV fdB : FuncData} (NC : NetC K mg C) (X : Txt mg) (GLB : Glb K mg) (D : Mf K C "lay" "Net.lay" sLay psLay f fd) (DR : Mf K C "lay_rounds" "Net.lay_rounds" sLayR psLay fR fdR) (DW : Mf K C "lay_word" "Net.lay_word" sLayW psLayW fW fdW) (DN : Fn K mg "with_name" sWithN psWithN fN fdN) (DV : Fn K mg "views_in" sViewsIn psV fV fdV) (DB : Fn K mg "besides_of" sBesides psV fB fdB)
    (GW0 : FnOk P w K mg base CX0 2 fW fdW psLayW (spLayW P w C)) : ∀ n, FnOk P w K mg base CX0 (2 * n + 4) f fd psLay (spLay P w C n)
  | 0 => ⟨fun vs H Q E ⟨_, _, _, _, _, _, _, _, _, _, _, _, _, h, _⟩ => h.elim, fun A outer s H args us vs Q E _ _ _ _ ⟨_, _, _, _, _, _, _, _, _, _, _, _, _, h, _⟩ => h.elim⟩
  | n + 1 => okLay n NC X GLB D DR DW DN DV DB GW0 (okLays NC X GLB D DR DW DN DV DB GW0 n)
abbrev sNodes : Stmt := inClass (top 8) 7
def spNodes (P : Program) (w : World) (C : Addr) : Sp := fun vs H Q _ => ∃ (p L W D : Addr) (ns : NS) (xs : List V), vs = [.ref p] ∧ NetAt P w C H p L W D ns ∧ H L = some (.lst xs) ∧ ∀ l H', Same H H' → H' l = some (.lst xs) → Q (.ref l) H'
theorem scNodes : FnScope psNInit psNInit (defScope sNodes) := ⟨rfl, rfl, rfl, by decide +kernel, rfl, by decide +kernel, by decide +kernel⟩
theorem okNodes {f C : Addr} {fd : FuncData} (NC : NetC K mg C) (X : Txt mg) (D : Mf K C "nodes" "Net.nodes" sNodes psNInit f fd) : FnOk P w K mg base CX0 1 f fd psNInit (spNodes P w C) := by
  refine D.F.ok scNodes (fun vs H Q E h => ?_) (fun cdv A outer s H vs Q E hr h => ?_)
  · obtain ⟨_, _, _, _, _, _, rfl, _⟩ := h
    rfl
  · refine Classical.byContradiction fun hG0 => ?_
    obtain ⟨p, L, W, D', ns, xs, rfl, hN, hL, k⟩ := h
    refine hG0 ?_
    clear hG0
    refine ⟨_, (@pss_one _ _ _ (@ps_ret _ _ _ _ (@pe_callTy _ _ _ _ _ _ _ _ _ (lstK K) rfl X.list b_list (@pa_cons _ _ _ _ _ (@pe_fld _ _ _ _ _ (pv 0) rfl) pa_nil (by rfl)) (by decide) (by decide) (by rfl) (by rfl)))), ?_⟩
    obtain ⟨dx, ho⟩ := hN.ob
    first | refine wV rfl ?_ | refine ⟨_, rfl, ?_⟩
    refine ⟨p, C, dx, _, _, rfl, ho, NC.cl, NC.nL, fl_l L W D', L, xs, rfl, .inl (SqL.of hL), fun l hl => k l _ ((Same.refl H).upd hl) upd_same⟩
end
end VK
namespace VK
open PySem PySem.Spec PyProof.Rows L2
section
variable {P : Program} {w : World} {K : PySem.W.Frag} {mg : Str → Option Value} {base : Heap}
theorem b_str : bootBuiltins "str" = some (.type "str") := by decide +kernel
theorem k_tuple_list {K : PySem.W.Frag} : PySem.W.kitOne K (.type "tuple") (.type "list") = some false := kt (by decide +kernel)
theorem k_list_tuple {K : PySem.W.Frag} : PySem.W.kitOne K (.type "list") (.type "tuple") = some false := kt (by decide +kernel)
theorem k_list_list {K : PySem.W.Frag} : PySem.W.kitOne K (.type "list") (.type "list") = some true := kt (by decide +kernel)
theorem k_int_list {K : PySem.W.Frag} : PySem.W.kitOne K (.type "int") (.type "list") = some false := kt (by decide +kernel)
theorem k_int_str {K : PySem.W.Frag} : PySem.W.kitOne K (.type "int") (.type "str") = some false := kt (by decide +kernel)
theorem k_str_tuple {K : PySem.W.Frag} : PySem.W.kitOne K (.type "str") (.type "tuple") = some false := kt (by decide +kernel)
theorem k_str_list {K : PySem.W.Frag} : PySem.W.kitOne K (.type "str") (.type "list") = some false := kt (by decide +kernel)
theorem k_str_bool {K : PySem.W.Frag} : PySem.W.kitOne K (.type "str") (.type "bool") = some false := kt (by decide +kernel)
theorem k_bool_tuple {K : PySem.W.Frag} : PySem.W.kitOne K (.type "bool") (.type "tuple") = some false := kt (by decide +kernel)
theorem k_bool_list {K : PySem.W.Frag} : PySem.W.kitOne K (.type "bool") (.type "list") = some false := kt (by decide +kernel)
theorem k_bool_bool {K : PySem.W.Frag} : PySem.W.kitOne K (.type "bool") (.type "bool") = some true := kt (by decide +kernel)
def Alk0 (x y : V) : Prop := (∃ z : Int, x = .int z ∧ y = .int z) ∨ (∃ s : Str, x = .str s ∧ y = .str s) ∨ ∃ b : Bool, x = .bl b ∧ y = .bl b
def Alk : Nat → Hp → V → V → Prop
  | 0, _, x, y => Alk0 x y
  | n + 1, H, x, y => Alk0 x y ∨ (∃ a b xs ys, x = .ref a ∧ y = .ref b ∧ xs.length < 100000 ∧ Paired (Alk n H) xs ys ∧ ((H a = some (.tup xs) ∧ H b = some (.tup ys)) ∨ (H a = some (.lst xs) ∧ H b = some (.lst ys))))
theorem Alk.same {H H' : Hp} (s : Same H H') : ∀ {n : Nat} {x y : V}, Alk n H x y → Alk n H' x y
  | 0, _, _, h => h
  | n + 1, x, y, h => by
    rcases h with h | ⟨a, b, xs, ys, h1, h2, h3, h4, h5⟩
    · exact .inl h
    · refine .inr ⟨a, b, xs, ys, h1, h2, h3, Paired.mapP h4 fun u v z => Alk.same s z, ?_⟩
      rcases h5 with ⟨h5, h6⟩ | ⟨h5, h6⟩
      · exact .inl ⟨s _ _ h5, s _ _ h6⟩
      · exact .inr ⟨s _ _ h5, s _ _ h6⟩
theorem alk_get {H : Hp} {n : Nat} : ∀ {xs ys : List V} {i : Nat} {x y : V}, Paired (Alk n H) xs ys → xs[i]? = some x → ys[i]? = some y → Alk n H x y
  | _, _, _, _, _, .nil, e, _ => by simp at e
  | _, _, 0, _, _, .cons r _, e1, e2 => by simp at e1 e2; subst e1 e2; exact r
  | _, _, i + 1, x, y, .cons _ t, e1, e2 => alk_get (i := i) t (by simpa using e1) (by simpa using e2)
abbrev sAlike : Stmt := top 25
abbrev psAlike : List Str := ["_law_found", "_law_due"]
def spAlike (n : Nat) : Sp := fun vs H Q _ => ∃ x y k, vs = [x, y] ∧ k < n ∧ Alk k H x y ∧ ∀ H', Same H H' → Q (.bl true) H'
theorem scAlike : FnScope psAlike psAlike (defScope sAlike) := ⟨rfl, rfl, rfl, by decide +kernel, rfl, by decide +kernel, by decide +kernel⟩
def trues (n : Nat) : List V := (List.replicate n true).map V.bl
theorem trues_all (n : Nat) : (List.replicate n true).all id = true := by
  induction n with
  | zero => rfl
  | succ n ih => rw [List.replicate_succ, List.all_cons, ih]; rfl
theorem okAlike (n : Nat) {f f1 : Addr} {fd fd1 : FuncData} (X : Txt mg) (D : Fn K mg "_law_alike" sAlike psAlike f fd) (D1 : Fn K mg "_law_whole" sWhole psWhole f1 fd1) (IH : FnOk P w K mg base CX0 (n + 1) f fd psAlike (spAlike n)) : FnOk P w K mg base CX0 (n + 2) f fd psAlike (spAlike (n + 1)) := by
  have G1 : FnOk P w K mg base CX0 (n + 1) f1 fd1 psWhole spWhole := (okWhole D1 X).mono (by omega)
  refine D.F.ok (k := n + 1) scAlike (fun vs H Q E h => ?_) (fun cdv A outer s H vs Q E hr h => ?_)
  · obtain ⟨_, _, _, rfl, _⟩ := h
    rfl
  · refine Classical.byContradiction fun hG0 => ?_
    obtain ⟨x, y, k, rfl, hk, hxy, q⟩ := h
    refine hG0 ?_
    clear hG0
    refine ⟨_, (@pss_cons _ _ _ _ _ (@ps_if _ _ _ _ _ _ _ _ (PW.pt (@pw_or _ _ _ _ _ _ _ (@pt_val _ _ _ (@pe_callB _ _ _ _ _ _ _ _ _ call_isinst (by rfl) X.isinstance b_isinstance (@pa_cons _ _ _ _ _ (pv 1) (@pa_cons _ _ _ _ _ (@pe_ty _ _ _ _ rfl X.tuple b_tuple (by decide) (by decide)) pa_nil (by rfl)) (by rfl)) (by decide) (by decide) (by rfl) (by rfl)) (by intro _; rfl)) (@pw_or1 _ _ _ _ (@pt_val _ _ _ (@pe_callB _ _ _ _ _ _ _ _ _ call_isinst (by rfl) X.isinstance b_isinstance (@pa_cons _ _ _ _ _ (pv 1) (@pa_cons _ _ _ _ _ (@pe_ty _ _ _ _ rfl X.list b_list (by decide) (by decide)) pa_nil (by rfl)) (by rfl)) (by decide) (by decide) (by rfl) (by rfl)) (by intro _; rfl))))) (@pss_cons _ _ _ _ _ (@ps_if _ _ _ _ _ _ _ _ (PW.pt (@pw_and _ _ _ _ _ _ _ (@pt_val _ _ _ (@pe_callB _ _ _ _ _ _ _ _ _ call_isinst (by rfl) X.isinstance b_isinstance (@pa_cons _ _ _ _ _ (pv 1) (@pa_cons _ _ _ _ _ (@pe_ty _ _ _ _ rfl X.tuple b_tuple (by decide) (by decide)) pa_nil (by rfl)) (by rfl)) (by decide) (by decide) (by rfl) (by rfl)) (by intro _; rfl)) (@pw_and1 _ _ _ _ (@pt_not _ _ _ _ (@pt_val _ _ _ (@pe_callB _ _ _ _ _ _ _ _ _ call_isinst (by rfl) X.isinstance b_isinstance (@pa_cons _ _ _ _ _ (pv 0) (@pa_cons _ _ _ _ _ (@pe_ty _ _ _ _ rfl X.tuple b_tuple (by decide) (by decide)) pa_nil (by rfl)) (by rfl)) (by decide) (by decide) (by rfl) (by rfl)) (by intro _; rfl)))))) (@pss_one _ _ _ (@ps_ret _ _ _ _ pe_bl)) pss_nil) (@pss_cons _ _ _ _ _ (@ps_if _ _ _ _ _ _ _ _ (PW.pt (@pw_and _ _ _ _ _ _ _ (@pt_val _ _ _ (@pe_callB _ _ _ _ _ _ _ _ _ call_isinst (by rfl) X.isinstance b_isinstance (@pa_cons _ _ _ _ _ (pv 1) (@pa_cons _ _ _ _ _ (@pe_ty _ _ _ _ rfl X.list b_list (by decide) (by decide)) pa_nil (by rfl)) (by rfl)) (by decide) (by decide) (by rfl) (by rfl)) (by intro _; rfl)) (@pw_and1 _ _ _ _ (@pt_not _ _ _ _ (@pt_val _ _ _ (@pe_callB _ _ _ _ _ _ _ _ _ call_isinst (by rfl) X.isinstance b_isinstance (@pa_cons _ _ _ _ _ (pv 0) (@pa_cons _ _ _ _ _ (@pe_ty _ _ _ _ rfl X.list b_list (by decide) (by decide)) pa_nil (by rfl)) (by rfl)) (by decide) (by decide) (by rfl) (by rfl)) (by intro _; rfl)))))) (@pss_one _ _ _ (@ps_ret _ _ _ _ pe_bl)) pss_nil) (@pss_cons _ _ _ _ _ (@ps_if _ _ _ _ _ _ _ _ (@pt_cmpR _ _ _ _ _ _ _ _ op_ne (@pe_callB _ _ _ _ _ _ _ _ _ (lenK K) (by rfl) X.len b_len (@pa_cons _ _ _ _ _ (pv 0) pa_nil (by rfl)) (by decide) (by decide) (by rfl) (by rfl)) (@pe_callB _ _ _ _ _ _ _ _ _ (lenK K) (by rfl) X.len b_len (@pa_cons _ _ _ _ _ (pv 1) pa_nil (by rfl)) (by decide) (by decide) (by rfl) (by rfl)) (nomark _)) (@pss_one _ _ _ (@ps_ret _ _ _ _ pe_bl)) pss_nil) (@pss_one _ _ _ (@ps_ret _ _ _ _ (@pe_callB _ _ _ _ _ _ _ _ _ (call_all rfl) (by rfl) X.all b_all (@pa_cons _ _ _ _ _ (@pe_comp _ _ _ _ _ _ _ (gTup K 2 (gCons (gName 0) (gCons (gName 1) gNil))) (tCall (spAlike n) [] E0 (tCons (tVar 0) (tCons (tVar 1) tNil))) (["_law_one_here", "_law_other"]) ([]) (defScope sAlike) (psAlike) rfl rfl ⟨rfl, by decide +kernel, by decide +kernel, by decide +kernel, by decide +kernel⟩ rfl (@pi_zipS _ _ _ _ _ _ _ _ _ rfl X.zip (@pa_cons _ _ _ _ _ (pv 0) (@pa_cons _ _ _ _ _ (pv 1) pa_nil (by rfl)) (by rfl)) (by rfl) (by rfl)) (fun s H fp => pg_tup rfl (@pgs_cons _ _ _ _ _ (@pg_name _ _ (0) _ (show (["_law_one_here", "_law_other"] : List Str).Nodup by decide +kernel) rfl (Or.inl rfl) (Or.inr rfl)) (@pgs_cons _ _ _ _ _ (@pg_name _ _ (1) _ (show (["_law_one_here", "_law_other"] : List Str).Nodup by decide +kernel) rfl (Or.inl rfl) (Or.inr rfl)) pgs_nil (by rfl)) (by rfl))) (fun s H fp => pe_call IH hr rfl D.m D.F.kp D.b .nil pass0 (@pa_cons _ _ _ _ _ (pv 0) (@pa_cons _ _ _ _ _ (pv 1) pa_nil (by rfl)) (by rfl))) (by intro _; rfl)) pa_nil (by rfl)) (by decide) (by decide) (by rfl) (by rfl))))))) pss_nil) (@pss_cons _ _ _ _ _ (@ps_if _ _ _ _ _ _ _ _ (@pt_val _ _ _ (@pe_callB _ _ _ _ _ _ _ _ _ call_isinst (by rfl) X.isinstance b_isinstance (@pa_cons _ _ _ _ _ (pv 1) (@pa_cons _ _ _ _ _ (@pe_ty _ _ _ _ rfl X.bool b_bool (by decide) (by decide)) pa_nil (by rfl)) (by rfl)) (by decide) (by decide) (by rfl) (by rfl)) (by intro _; rfl)) (@pss_one _ _ _ (@ps_ret _ _ _ _ (@pe_and _ _ _ _ _ _ _ (@pe_callB _ _ _ _ _ _ _ _ _ call_isinst (by rfl) X.isinstance b_isinstance (@pa_cons _ _ _ _ _ (pv 0) (@pa_cons _ _ _ _ _ (@pe_ty _ _ _ _ rfl X.bool b_bool (by decide) (by decide)) pa_nil (by rfl)) (by rfl)) (by decide) (by decide) (by rfl) (by rfl)) (@pe_one _ _ _ _ _ (@pe_cmpR _ _ _ _ _ _ _ _ op_eq (pv 0) (pv 1) (nomark _)))))) pss_nil) (@pss_cons _ _ _ _ _ (@ps_if _ _ _ _ _ _ _ _ (@pt_val _ _ _ (@pe_callB _ _ _ _ _ _ _ _ _ call_isinst (by rfl) X.isinstance b_isinstance (@pa_cons _ _ _ _ _ (pv 1) (@pa_cons _ _ _ _ _ (@pe_ty _ _ _ _ rfl X.str b_str (by decide) (by decide)) pa_nil (by rfl)) (by rfl)) (by decide) (by decide) (by rfl) (by rfl)) (by intro _; rfl)) (@pss_one _ _ _ (@ps_ret _ _ _ _ (@pe_and _ _ _ _ _ _ _ (@pe_callB _ _ _ _ _ _ _ _ _ call_isinst (by rfl) X.isinstance b_isinstance (@pa_cons _ _ _ _ _ (pv 0) (@pa_cons _ _ _ _ _ (@pe_ty _ _ _ _ rfl X.str b_str (by decide) (by decide)) pa_nil (by rfl)) (by rfl)) (by decide) (by decide) (by rfl) (by rfl)) (@pe_one _ _ _ _ _ (@pe_cmpR _ _ _ _ _ _ _ _ op_eq (pv 0) (pv 1) (nomark _)))))) pss_nil) (@pss_one _ _ _ (@ps_ret _ _ _ _ (@pe_and _ _ _ _ _ _ _ (@pe_call _ _ _ _ _ _ _ _ _ _ _ _ _ _ _ _ G1 hr rfl D1.m D1.F.kp D1.b .nil pass0 (@pa_cons _ _ _ _ _ (pv 0) pa_nil (by rfl)) (by decide) (by rfl) (by rfl)) (@pe_one _ _ _ _ _ (@pe_cmpR _ _ _ _ _ _ _ _ op_eq (pv 0) (pv 1) (nomark _))))))))), ?_⟩
    have q0 := q H (Same.refl H)
    have hc : Alk0 x y ∨ ∃ k', k' < n ∧ ∃ a b xs ys, x = .ref a ∧ y = .ref b ∧ xs.length < 100000 ∧ Paired (Alk k' H) xs ys ∧ ((H a = some (.tup xs) ∧ H b = some (.tup ys)) ∨ (H a = some (.lst xs) ∧ H b = some (.lst ys))) := by
      cases k with
      | zero => exact .inl hxy
      | succ k' =>
        rcases hxy with h | h
        · exact .inl h
        · exact .inr ⟨k', by omega, h⟩
    refine Classical.byContradiction fun hG => ?_
    rcases hc with (⟨z, rfl, rfl⟩ | ⟨z, rfl, rfl⟩ | ⟨z, rfl, rfl⟩) | ⟨k', hk', a, b, xs, ys, rfl, rfl, hz, hp, hab⟩
    · refine hG ?_
      first | refine wV rfl ?_ | refine ⟨_, rfl, ?_⟩
      refine ⟨_, _, "int", false, rfl, TyOf.int z, k_int_tuple, false, rfl, iteF ⟨_, rfl, _, _, "int", false, rfl, TyOf.int z, k_int_list, false, rfl, iteF ?_⟩⟩
      first | refine wV rfl ?_ | refine ⟨_, rfl, ?_⟩
      refine ⟨_, _, "int", false, rfl, TyOf.int z, k_int_bool, false, rfl, iteF ⟨_, rfl, _, _, "int", false, rfl, TyOf.int z, k_int_str, false, rfl, iteF ?_⟩⟩
      first | refine wV rfl ?_ | refine ⟨_, rfl, ?_⟩
      refine ⟨z, rfl, true, rfl, ?_⟩
      refine iteT ?_
      first | refine wV rfl ?_ | refine ⟨_, rfl, ?_⟩
      refine ⟨_, rfl, rfl, ?_⟩
      rw [decide_eq_true rfl]
      exact q0
    · refine hG ?_
      first | refine wV rfl ?_ | refine ⟨_, rfl, ?_⟩
      refine ⟨_, _, "str", false, rfl, TyOf.str z, k_str_tuple, false, rfl, iteF ⟨_, rfl, _, _, "str", false, rfl, TyOf.str z, k_str_list, false, rfl, iteF ?_⟩⟩
      first | refine wV rfl ?_ | refine ⟨_, rfl, ?_⟩
      refine ⟨_, _, "str", false, rfl, TyOf.str z, k_str_bool, false, rfl, iteF ⟨_, rfl, _, _, "str", true, rfl, TyOf.str z, k_str_str, true, rfl, iteT ?_⟩⟩
      first | refine wV rfl ?_ | refine ⟨_, rfl, ?_⟩
      refine ⟨_, _, "str", true, rfl, TyOf.str z, k_str_str, true, rfl, iteT ⟨_, rfl, _, rfl, rfl, ?_⟩⟩
      rw [decide_eq_true rfl]
      exact q0
    · refine hG ?_
      first | refine wV rfl ?_ | refine ⟨_, rfl, ?_⟩
      refine ⟨_, _, "bool", false, rfl, TyOf.bl z, k_bool_tuple, false, rfl, iteF ⟨_, rfl, _, _, "bool", false, rfl, TyOf.bl z, k_bool_list, false, rfl, iteF ?_⟩⟩
      first | refine wV rfl ?_ | refine ⟨_, rfl, ?_⟩
      refine ⟨_, _, "bool", true, rfl, TyOf.bl z, k_bool_bool, true, rfl, iteT ?_⟩
      first | refine wV rfl ?_ | refine ⟨_, rfl, ?_⟩
      refine ⟨_, _, "bool", true, rfl, TyOf.bl z, k_bool_bool, true, rfl, iteT ⟨_, rfl, _, rfl, rfl, ?_⟩⟩
      rw [decide_eq_true rfl]
      exact q0
    · have hlen : xs.length = ys.length := Paired.length hp
      have hne : (!decide (V.int ((xs.length : Nat) : Int) = V.int ((ys.length : Nat) : Int))) = false := by rw [hlen, decide_eq_true rfl]; rfl
      rcases hab with ⟨ha, hb⟩ | ⟨ha, hb⟩
      · refine hG ?_
        first | refine wV rfl ?_ | refine ⟨_, rfl, ?_⟩
        refine ⟨_, _, "tuple", true, rfl, TyOf.tup hb, k_tuple_tuple, true, rfl, iteT (iteT ?_)⟩
        first | refine wV rfl ?_ | refine ⟨_, rfl, ?_⟩
        refine ⟨_, _, "tuple", true, rfl, TyOf.tup hb, k_tuple_tuple, true, rfl, iteT ⟨_, rfl, _, _, "tuple", true, rfl, TyOf.tup ha, k_tuple_tuple, true, rfl, iteF ?_⟩⟩
        first | refine wV rfl ?_ | refine ⟨_, rfl, ?_⟩
        refine ⟨_, _, "tuple", false, rfl, TyOf.tup hb, k_tuple_list, false, rfl, iteF (iteF ?_)⟩
        first | refine wV rfl ?_ | refine ⟨_, rfl, ?_⟩
        refine ⟨a, xs, rfl, .inr (SqT.of ha), ?_⟩
        first | refine wV rfl ?_ | refine ⟨_, rfl, ?_⟩
        refine ⟨b, ys, rfl, .inr (SqT.of hb), rfl, false, congrArg V.bl hne, ?_⟩
        refine iteF ?_
        refine ⟨_, rfl, _, rfl, a, b, rfl, .inr ⟨⟨_, SqT.of ha⟩, ⟨_, SqT.of hb⟩, fun l hl => comp_by (n := xs.length) (fun i σ' H' => ∃ o1 o2, σ' = [o1, o2] ∧ Same H H' ∧ H' l = some (.lst (trues i))) ⟨none, none, rfl, (Same.refl H).upd hl, upd_same⟩
          (fun i σ' H' hi ⟨_, _, _, s1, _⟩ => ⟨xs, ys, xs[i], ys[i]'(by omega), SqT.of (s1 _ _ ha), SqT.of (s1 _ _ hb), List.getElem?_eq_getElem hi, List.getElem?_eq_getElem (by omega)⟩) (fun σ' H' ⟨_, _, _, s1, _⟩ => ⟨xs, SqT.of (s1 _ _ ha), Nat.le_refl _⟩) ?_ ?_⟩⟩
        · rintro i σ' H' _ _ hi ⟨o1, o2, rfl, s1, hl1⟩ ⟨t, u, v, rfl, ht, rfl, hu, hv⟩
          have eu := hu xs (SqT.of (s1 _ _ ha))
          have ev' := hv ys (SqT.of (s1 _ _ hb))
          have s2 : Same H' (upd H' t (.tup [u, v])) := (Same.refl H').upd ht
          refine ⟨t, _, rfl, SqT.of upd_same, rfl, _, _, rfl, _, _, rfl, rfl, _, rfl, _, rfl, u, v, k', rfl, hk', (alk_get hp eu ev').same (s1.trans s2), fun H3 s3 => ⟨_, s3 _ _ (s2 _ _ hl1), ?_, _, _, rfl, fun c o z => ?_, ?_⟩⟩
          · refine lt_line ?_
            rw [trues, List.length_map, List.length_replicate]
            omega
          · rw [upd_ne (ne_of_none z hl)]
            exact s3 _ _ (s2 _ _ (s1 c o z))
          · rw [upd_same, trues, trues, List.replicate_succ', List.map_append]
            rfl
        · rintro σ' H' ⟨o1, o2, rfl, s1, hl1⟩
          refine ⟨l, List.replicate xs.length true, rfl, SqL.of hl1, ?_⟩
          rw [trues_all]
          exact q H' s1
      · refine hG ?_
        first | refine wV rfl ?_ | refine ⟨_, rfl, ?_⟩
        refine ⟨_, _, "list", false, rfl, TyOf.lst hb, k_list_tuple, false, rfl, iteF ⟨_, rfl, _, _, "list", true, rfl, TyOf.lst hb, k_list_list, true, rfl, iteT ?_⟩⟩
        first | refine wV rfl ?_ | refine ⟨_, rfl, ?_⟩
        refine ⟨_, _, "list", false, rfl, TyOf.lst hb, k_list_tuple, false, rfl, iteF (iteF ?_)⟩
        first | refine wV rfl ?_ | refine ⟨_, rfl, ?_⟩
        refine ⟨_, _, "list", true, rfl, TyOf.lst hb, k_list_list, true, rfl, iteT ⟨_, rfl, _, _, "list", true, rfl, TyOf.lst ha, k_list_list, true, rfl, iteF ?_⟩⟩
        first | refine wV rfl ?_ | refine ⟨_, rfl, ?_⟩
        refine ⟨a, xs, rfl, .inl (SqL.of ha), ?_⟩
        first | refine wV rfl ?_ | refine ⟨_, rfl, ?_⟩
        refine ⟨b, ys, rfl, .inl (SqL.of hb), rfl, false, congrArg V.bl hne, ?_⟩
        refine iteF ?_
        refine ⟨_, rfl, _, rfl, a, b, rfl, .inl ⟨⟨_, SqL.of ha⟩, ⟨_, SqL.of hb⟩, fun l hl => comp_by (n := xs.length) (fun i σ' H' => ∃ o1 o2, σ' = [o1, o2] ∧ Same H H' ∧ H' l = some (.lst (trues i))) ⟨none, none, rfl, (Same.refl H).upd hl, upd_same⟩
          (fun i σ' H' hi ⟨_, _, _, s1, _⟩ => ⟨xs, ys, xs[i], ys[i]'(by omega), SqL.of (s1 _ _ ha), SqL.of (s1 _ _ hb), List.getElem?_eq_getElem hi, List.getElem?_eq_getElem (by omega)⟩) (fun σ' H' ⟨_, _, _, s1, _⟩ => ⟨xs, ys, SqL.of (s1 _ _ ha), SqL.of (s1 _ _ hb), .inl (Nat.le_refl _)⟩) ?_ ?_⟩⟩
        · rintro i σ' H' _ _ hi ⟨o1, o2, rfl, s1, hl1⟩ ⟨t, u, v, rfl, ht, rfl, hu, hv⟩
          have eu := hu xs (SqL.of (s1 _ _ ha))
          have ev' := hv ys (SqL.of (s1 _ _ hb))
          have s2 : Same H' (upd H' t (.tup [u, v])) := (Same.refl H').upd ht
          refine ⟨t, _, rfl, SqT.of upd_same, rfl, _, _, rfl, _, _, rfl, rfl, _, rfl, _, rfl, u, v, k', rfl, hk', (alk_get hp eu ev').same (s1.trans s2), fun H3 s3 => ⟨_, s3 _ _ (s2 _ _ hl1), ?_, _, _, rfl, fun c o z => ?_, ?_⟩⟩
          · refine lt_line ?_
            rw [trues, List.length_map, List.length_replicate]
            omega
          · rw [upd_ne (ne_of_none z hl)]
            exact s3 _ _ (s2 _ _ (s1 c o z))
          · rw [upd_same, trues, trues, List.replicate_succ', List.map_append]
            rfl
        · rintro σ' H' ⟨o1, o2, rfl, s1, hl1⟩
          refine ⟨l, List.replicate xs.length true, rfl, SqL.of hl1, ?_⟩
          rw [trues_all]
          exact q H' s1
theorem okAlikes {f f1 : Addr} {fd fd1 : FuncData} (X : Txt mg) (D : Fn K mg "_law_alike" sAlike psAlike f fd) (D1 : Fn K mg "_law_whole" sWhole psWhole f1 fd1) : ∀ n, FnOk P w K mg base CX0 (n + 1) f fd psAlike (spAlike n)
  | 0 => ⟨fun vs H Q E ⟨_, _, _, _, h, _⟩ => absurd h (Nat.not_lt_zero _), fun A outer s H args us vs Q E _ _ _ _ ⟨_, _, _, _, h, _⟩ => absurd h (Nat.not_lt_zero _)⟩
  | n + 1 => okAlike n X D D1 (okAlikes X D D1 n)
end
end VK
namespace VK
open PySem PySem.Spec PyProof.Rows L2
section
variable {P : Program} {w : World} {K : PySem.W.Frag} {mg : Str → Option Value} {base : Heap}
theorem un_cons {α β : Type} {F : α → β → Prop} {a : α} {as : List α} {ys : List β} (h : Paired F (a :: as) ys) : ∃ b r, ys = b :: r ∧ F a b ∧ Paired F as r := by
  cases h with
  | cons x y => exact ⟨_, _, rfl, x, y⟩
theorem un_nil {α β : Type} {F : α → β → Prop} {ys : List β} (h : Paired F [] ys) : ys = [] := by
  cases h
  rfl
theorem alk0_of {t : FT} {x y : V} (h1 : LeafF t x) (h2 : LeafF t y) : Alk0 x y := by
  cases t with
  | int i => exact .inl ⟨i, h1, h2⟩
  | bl b => exact .inr (.inr ⟨b, h1, h2⟩)
  | str x => exact .inr (.inl ⟨x, h1, h2⟩)
  | tup ts => exact h1.elim
theorem pair_both {α β γ : Type} {F : α → β → Prop} {G : α → γ → Prop} {R : β → γ → Prop} (f : ∀ a b c, F a b → G a c → R b c) : ∀ {as : List α} {bs : List β} {cs : List γ}, Paired F as bs → Paired G as cs → Paired R bs cs
  | _, _, _, .nil, .nil => .nil
  | _, _, _, .cons a r, .cons b q => .cons (f _ _ _ a b) (pair_both f r q)
theorem alk_of {H : Hp} : ∀ {n : Nat} {t : FT} {x y : V}, FV H n t x → FV H n t y → Alk n H x y
  | 0, t, x, y, h1, h2 => alk0_of h1 h2
  | n + 1, t, x, y, h1, h2 => by
    rcases h1 with h1 | ⟨ts, a, xs, rfl, rfl, ha, hl, hp⟩
    · rcases h2 with h2 | ⟨ts, a, xs, rfl, _, _, _⟩
      · exact .inl (alk0_of h1 h2)
      · exact h1.elim
    · rcases h2 with h2 | ⟨ts', b, ys, e, rfl, hb, _, hq⟩
      · exact h2.elim
      · injection e with e
        subst e
        exact .inr ⟨a, b, xs, ys, rfl, rfl, by omega, pair_both (F := FV H n) (G := FV H n) (R := Alk n H) (fun _ _ _ z1 z2 => alk_of z1 z2) hp hq, .inl ⟨ha, hb⟩⟩
theorem oneG {α : Type} {ws : List α} (h : 1 = ws.length) : ∃ a, ws = [a] := List.length_eq_one_iff.mp h.symm
theorem twoG {α : Type} {ws : List α} (h : 2 = ws.length) : ∃ a b, ws = [a, b] := by
  match ws, h with
  | [a, b], _ => exact ⟨a, b, rfl⟩
def toldW (wd : Str) (bts : List FT) (w2 : Int) : List FT := if wd = "left" then bts ++ [.int w2] else bts
def btests (wd : Str) : List Bool := [inV (.str wd) [.str "sieve", .str "cols", .str "count"], inV (.str wd) [.str "sum", .str "least", .str "most"], decide (V.str wd = V.str "first"), decide (V.str wd = V.str "left"), inV (.str wd) [.str "join", .str "notin"]]
structure BTests (wd : Str) (b1 b2 b3 b4 b5 : Bool) : Prop where
  c1 : inV (.str wd) [.str "sieve", .str "cols", .str "count"] = b1
  c2 : inV (.str wd) [.str "sum", .str "least", .str "most"] = b2
  c3 : decide (V.str wd = V.str "first") = b3
  c4 : decide (V.str wd = V.str "left") = b4
  c5 : inV (.str wd) [.str "join", .str "notin"] = b5
theorem BTests.of {wd : Str} {b1 b2 b3 b4 b5 : Bool} (h : btests wd = [b1, b2, b3, b4, b5]) : BTests wd b1 b2 b3 b4 b5 := by
  unfold btests at h
  injection h with h1 h
  injection h with h2 h
  injection h with h3 h
  injection h with h4 h
  injection h with h5 h
  exact ⟨h1, h2, h3, h4, h5⟩
theorem BTests.told {wd : Str} {b1 b2 b3 b5 : Bool} (h : BTests wd b1 b2 b3 false b5) (bts : List FT) (w2 : Int) : toldW wd bts w2 = bts := if_neg fun e => by
  have := h.c4
  rw [decide_eq_true (congrArg V.str e)] at this
  cases this
theorem bA : ∀ wd ∈ (["sieve", "cols", "count"] : List Str), btests wd = [true, false, false, false, false] := by decide +kernel
theorem bN : ∀ wd ∈ (["once", "pour", "both", "either", "less"] : List Str), btests wd = [false, false, false, false, false] := by decide +kernel
theorem bG : ∀ wd ∈ (["sum", "least", "most"] : List Str), btests wd = [false, true, false, false, false] := by decide +kernel
theorem bJ : ∀ wd ∈ (["join", "notin"] : List Str), btests wd = [false, false, false, false, true] := by decide +kernel
theorem bF : btests "first" = [false, false, true, false, false] := by decide +kernel
theorem bL : btests "left" = [false, false, false, true, false] := by decide +kernel
inductive ShB : Str → List FT → Nat → Prop
  | a {wd : Str} (t : FT) : BTests wd true false false false false → ShB wd [t] 1
  | n {wd : Str} (n : Nat) : BTests wd false false false false false → ShB wd [] n
  | g {wd : Str} (t u : FT) : BTests wd false true false false false → ShB wd [t, u] 1
  | f {wd : Str} (t u v : FT) : BTests wd false false true false false → ShB wd [t, u, v] 1
  | l {wd : Str} (t : FT) : BTests wd false false false true false → wd = "left" → ShB wd [t] 2
  | j {wd : Str} (t : FT) : BTests wd false false false false true → ShB wd [t] 2
theorem Sh.bes {wd : Str} {bts : List FT} {n : Nat} {g : Wg} (h : Sh wd bts n g) : ShB wd bts n := by
  cases h with
  | sieve => exact .a _ (.of (bA _ (by simp)))
  | cols => exact .a _ (.of (bA _ (by simp)))
  | count => exact .a _ (.of (bA _ (by simp)))
  | once => exact .n _ (.of (bN _ (by simp)))
  | alike a => exact .n _ (.of (bN _ (by rcases a with rfl | rfl | rfl | rfl <;> simp)))
  | grp p ts a => exact .g _ _ (.of (bG _ (by rcases a with rfl | rfl | rfl <;> simp)))
  | first => exact .f _ _ _ (.of bF)
  | left => exact .l _ (.of bL) rfl
  | join => exact .j _ (.of (bJ _ (by simp)))
  | notin => exact .j _ (.of (bJ _ (by simp)))
abbrev sBes : Stmt := top 26
abbrev psBes : List Str := ["_law_view", "_law_wide_here"]
abbrev nBes : List Str := ["_law_view", "_law_wide_here", "_law_word"]
def spBes : Sp := fun vs H Q _ => ∃ (t : Addr) (wd : Str) (us bs : List V) (bts : List FT) (g : Wg) (n : Nat) (w2 : Int), vs = [.ref t, .int w2] ∧ H t = some (.tup (.str wd :: (us ++ bs))) ∧ Sh wd bts n g ∧ n = us.length ∧ Paired (FV H 5) bts bs ∧ ∀ p H' bs', Same H H' → H' p = some (.tup bs') → Paired (FV H' 5) (toldW wd bts w2) bs' → bs'.length ≤ 4 → Q (.ref p) H'
theorem scBes : FnScope nBes psBes (defScope sBes) := ⟨rfl, rfl, rfl, by decide +kernel, rfl, by decide +kernel, by decide +kernel⟩
theorem okBes {f : Addr} {fd : FuncData} (D : Fn K mg "_law_besides" sBes psBes f fd) : FnOk P w K mg base CX0 1 f fd psBes spBes := by
  refine D.F.ok scBes (fun vs H Q E h => ?_) (fun cdv A outer s H vs Q E hr h => ?_)
  · obtain ⟨_, _, _, _, _, _, _, _, rfl, _⟩ := h
    rfl
  · refine Classical.byContradiction fun hG0 => ?_
    obtain ⟨t, wd, us, bs, bts, g, n, w2, rfl, ht, hS, hn, hf, k⟩ := h
    refine hG0 ?_
    clear hG0
    have nd := scBes.nd
    refine ⟨_, (@pss_cons _ _ _ _ _ (@ps_set _ _ (2) _ _ _ _ nd rfl (Or.inl rfl) (@pe_ix _ _ _ _ _ _ _ ixT0 (pv 0) pe_int (fun _ _ => rfl)) (by rfl) (by first | exact .inl rfl | exact .inr rfl | assumption)) (@pss_cons _ _ _ _ _ (@ps_if _ _ _ _ _ _ _ _ (@pt_cmpR _ _ _ _ _ _ _ _ (inK K) (pv 2) (@pe_tupS _ _ _ _ _ (@pa_cons _ _ _ _ _ pe_str (@pa_cons _ _ _ _ _ pe_str (@pa_cons _ _ _ _ _ pe_str pa_nil (by rfl)) (by rfl)) (by rfl))) (by with_unfolding_all rfl)) (@pss_one _ _ _ (@ps_ret _ _ _ _ (@pe_tupS _ _ _ _ _ (@pa_cons _ _ _ _ _ (@pe_ix _ _ _ _ _ _ _ ixT0 (pv 0) pe_int (fun _ _ => rfl)) pa_nil (by rfl))))) pss_nil) (@pss_cons _ _ _ _ _ (@ps_if _ _ _ _ _ _ _ _ (@pt_cmpR _ _ _ _ _ _ _ _ (inK K) (pv 2) (@pe_tupS _ _ _ _ _ (@pa_cons _ _ _ _ _ pe_str (@pa_cons _ _ _ _ _ pe_str (@pa_cons _ _ _ _ _ pe_str pa_nil (by rfl)) (by rfl)) (by rfl))) (by with_unfolding_all rfl)) (@pss_one _ _ _ (@ps_ret _ _ _ _ (@pe_tupS _ _ _ _ _ (@pa_cons _ _ _ _ _ (@pe_ix _ _ _ _ _ _ _ ixT0 (pv 0) pe_int (fun _ _ => rfl)) (@pa_cons _ _ _ _ _ (@pe_ix _ _ _ _ _ _ _ ixT0 (pv 0) pe_int (fun _ _ => rfl)) pa_nil (by rfl)) (by rfl))))) pss_nil) (@pss_cons _ _ _ _ _ (@ps_if _ _ _ _ _ _ _ _ (@pt_cmpR _ _ _ _ _ _ _ _ op_eq (pv 2) pe_str (nomark _)) (@pss_one _ _ _ (@ps_ret _ _ _ _ (@pe_tupS _ _ _ _ _ (@pa_cons _ _ _ _ _ (@pe_ix _ _ _ _ _ _ _ ixT0 (pv 0) pe_int (fun _ _ => rfl)) (@pa_cons _ _ _ _ _ (@pe_ix _ _ _ _ _ _ _ ixT0 (pv 0) pe_int (fun _ _ => rfl)) (@pa_cons _ _ _ _ _ (@pe_ix _ _ _ _ _ _ _ ixT0 (pv 0) pe_int (fun _ _ => rfl)) pa_nil (by rfl)) (by rfl)) (by rfl))))) pss_nil) (@pss_cons _ _ _ _ _ (@ps_if _ _ _ _ _ _ _ _ (@pt_cmpR _ _ _ _ _ _ _ _ op_eq (pv 2) pe_str (nomark _)) (@pss_one _ _ _ (@ps_ret _ _ _ _ (@pe_tupS _ _ _ _ _ (@pa_cons _ _ _ _ _ (@pe_ix _ _ _ _ _ _ _ ixT0 (pv 0) pe_int (fun _ _ => rfl)) (@pa_cons _ _ _ _ _ (pv 1) pa_nil (by rfl)) (by rfl))))) pss_nil) (@pss_cons _ _ _ _ _ (@ps_if _ _ _ _ _ _ _ _ (@pt_cmpR _ _ _ _ _ _ _ _ (inK K) (pv 2) (@pe_tupS _ _ _ _ _ (@pa_cons _ _ _ _ _ pe_str (@pa_cons _ _ _ _ _ pe_str pa_nil (by rfl)) (by rfl))) (by with_unfolding_all rfl)) (@pss_one _ _ _ (@ps_ret _ _ _ _ (@pe_tupS _ _ _ _ _ (@pa_cons _ _ _ _ _ (@pe_ix _ _ _ _ _ _ _ ixT0 (pv 0) pe_int (fun _ _ => rfl)) pa_nil (by rfl))))) pss_nil) (@pss_one _ _ _ (@ps_ret _ _ _ _ (@pe_tupS _ _ _ _ _ pa_nil))))))))), ?_⟩
    first | refine wT0 rfl (id ht) at0 ?_ | refine ⟨_, rfl, t, _, _, _, rfl, rfl, id ht, at0, ?_⟩
    refine Classical.byContradiction fun hG => ?_
    cases hS.bes with
    | a t0 hp =>
      obtain ⟨u1, rfl⟩ := oneG hn
      obtain ⟨b0, r0, rfl, hb0, hf0⟩ := un_cons hf
      obtain rfl := un_nil hf0
      refine hG ?_
      first | refine wV rfl ?_ | refine ⟨_, rfl, ?_⟩
      refine ⟨l4 rfl, ?_⟩
      refine fun q1 H1 s1 e1 => ?_
      refine ⟨q1, _, rfl, .inr (SqT.of e1), rfl, rfl, _, rfl, ?_⟩
      refine iteP hp.c1 ?_
      first | refine wT0 rfl (id (s1 _ _ ht)) rfl ?_ | refine ⟨_, rfl, t, _, _, _, rfl, rfl, id (s1 _ _ ht), rfl, ?_⟩
      refine ⟨l4 rfl, ?_⟩
      refine fun p H' s' e' => ?_
      refine k p H' _ (s1.trans s') e' (by rw [hp.told]; exact .cons (hb0.mono (s1.trans s').t) .nil) (by simp)
    | n _ hp =>
      cases hf
      refine hG ?_
      first | refine wV rfl ?_ | refine ⟨_, rfl, ?_⟩
      refine ⟨l4 rfl, ?_⟩
      refine fun q2 H2 s2 e2 => ?_
      refine ⟨q2, _, rfl, .inr (SqT.of e2), rfl, rfl, _, rfl, ?_⟩
      refine iteQ hp.c1 ?_
      first | refine wV rfl ?_ | refine ⟨_, rfl, ?_⟩
      refine ⟨l4 rfl, ?_⟩
      refine fun q3 H3 s3 e3 => ?_
      refine ⟨q3, _, rfl, .inr (SqT.of e3), rfl, rfl, _, rfl, ?_⟩
      refine iteQ hp.c2 ?_
      first | refine wN rfl hp.c3 ?_ | refine ⟨_, rfl, rfl, _, rfl, iteQ hp.c3 ?_⟩
      first | refine wN rfl hp.c4 ?_ | refine ⟨_, rfl, rfl, _, rfl, iteQ hp.c4 ?_⟩
      first | refine wV rfl ?_ | refine ⟨_, rfl, ?_⟩
      refine ⟨l4 rfl, ?_⟩
      refine fun q4 H4 s4 e4 => ?_
      refine ⟨q4, _, rfl, .inr (SqT.of e4), rfl, rfl, _, rfl, ?_⟩
      refine iteQ hp.c5 ?_
      refine ⟨l4 rfl, ?_⟩
      refine fun p H' s' e' => ?_
      refine k p H' _ ((s2.trans (s3.trans s4)).trans s') e' (by rw [hp.told]; exact .nil) (by simp)
    | g t0 u0 hp =>
      obtain ⟨u1, rfl⟩ := oneG hn
      obtain ⟨b0, r0, rfl, hb0, hf0⟩ := un_cons hf
      obtain ⟨b1, r1, rfl, hb1, hf1⟩ := un_cons hf0
      obtain rfl := un_nil hf1
      refine hG ?_
      first | refine wV rfl ?_ | refine ⟨_, rfl, ?_⟩
      refine ⟨l4 rfl, ?_⟩
      refine fun q5 H5 s5 e5 => ?_
      refine ⟨q5, _, rfl, .inr (SqT.of e5), rfl, rfl, _, rfl, ?_⟩
      refine iteQ hp.c1 ?_
      first | refine wV rfl ?_ | refine ⟨_, rfl, ?_⟩
      refine ⟨l4 rfl, ?_⟩
      refine fun q6 H6 s6 e6 => ?_
      refine ⟨q6, _, rfl, .inr (SqT.of e6), rfl, rfl, _, rfl, ?_⟩
      refine iteP hp.c2 ?_
      first | refine wT0 rfl (id ((s5.trans s6) _ _ ht)) rfl ?_ | refine ⟨_, rfl, t, _, _, _, rfl, rfl, id ((s5.trans s6) _ _ ht), rfl, ?_⟩
      first | refine wT0 rfl (id ((s5.trans s6) _ _ ht)) rfl ?_ | refine ⟨_, rfl, t, _, _, _, rfl, rfl, id ((s5.trans s6) _ _ ht), rfl, ?_⟩
      refine ⟨l4 rfl, ?_⟩
      refine fun p H' s' e' => ?_
      refine k p H' _ ((s5.trans s6).trans s') e' (by rw [hp.told]; exact .cons (hb0.mono ((s5.trans s6).trans s').t) (.cons (hb1.mono ((s5.trans s6).trans s').t) .nil)) (by simp)
    | f t0 u0 v0 hp =>
      obtain ⟨u1, rfl⟩ := oneG hn
      obtain ⟨b0, r0, rfl, hb0, hf0⟩ := un_cons hf
      obtain ⟨b1, r1, rfl, hb1, hf1⟩ := un_cons hf0
      obtain ⟨b2, r2, rfl, hb2, hf2⟩ := un_cons hf1
      obtain rfl := un_nil hf2
      refine hG ?_
      first | refine wV rfl ?_ | refine ⟨_, rfl, ?_⟩
      refine ⟨l4 rfl, ?_⟩
      refine fun q7 H7 s7 e7 => ?_
      refine ⟨q7, _, rfl, .inr (SqT.of e7), rfl, rfl, _, rfl, ?_⟩
      refine iteQ hp.c1 ?_
      first | refine wV rfl ?_ | refine ⟨_, rfl, ?_⟩
      refine ⟨l4 rfl, ?_⟩
      refine fun q8 H8 s8 e8 => ?_
      refine ⟨q8, _, rfl, .inr (SqT.of e8), rfl, rfl, _, rfl, ?_⟩
      refine iteQ hp.c2 ?_
      first | refine wY rfl hp.c3 ?_ | refine ⟨_, rfl, rfl, _, rfl, iteP hp.c3 ?_⟩
      first | refine wT0 rfl (id ((s7.trans s8) _ _ ht)) rfl ?_ | refine ⟨_, rfl, t, _, _, _, rfl, rfl, id ((s7.trans s8) _ _ ht), rfl, ?_⟩
      first | refine wT0 rfl (id ((s7.trans s8) _ _ ht)) rfl ?_ | refine ⟨_, rfl, t, _, _, _, rfl, rfl, id ((s7.trans s8) _ _ ht), rfl, ?_⟩
      first | refine wT0 rfl (id ((s7.trans s8) _ _ ht)) rfl ?_ | refine ⟨_, rfl, t, _, _, _, rfl, rfl, id ((s7.trans s8) _ _ ht), rfl, ?_⟩
      refine ⟨l4 rfl, ?_⟩
      refine fun p H' s' e' => ?_
      refine k p H' _ ((s7.trans s8).trans s') e' (by rw [hp.told]; exact .cons (hb0.mono ((s7.trans s8).trans s').t) (.cons (hb1.mono ((s7.trans s8).trans s').t) (.cons (hb2.mono ((s7.trans s8).trans s').t) .nil))) (by simp)
    | l t0 hp hwd =>
      obtain ⟨u1, u2, rfl⟩ := twoG hn
      obtain ⟨b0, r0, rfl, hb0, hf0⟩ := un_cons hf
      obtain rfl := un_nil hf0
      refine hG ?_
      first | refine wV rfl ?_ | refine ⟨_, rfl, ?_⟩
      refine ⟨l4 rfl, ?_⟩
      refine fun q9 H9 s9 e9 => ?_
      refine ⟨q9, _, rfl, .inr (SqT.of e9), rfl, rfl, _, rfl, ?_⟩
      refine iteQ hp.c1 ?_
      first | refine wV rfl ?_ | refine ⟨_, rfl, ?_⟩
      refine ⟨l4 rfl, ?_⟩
      refine fun q10 H10 s10 e10 => ?_
      refine ⟨q10, _, rfl, .inr (SqT.of e10), rfl, rfl, _, rfl, ?_⟩
      refine iteQ hp.c2 ?_
      first | refine wN rfl hp.c3 ?_ | refine ⟨_, rfl, rfl, _, rfl, iteQ hp.c3 ?_⟩
      first | refine wY rfl hp.c4 ?_ | refine ⟨_, rfl, rfl, _, rfl, iteP hp.c4 ?_⟩
      first | refine wT0 rfl (id ((s9.trans s10) _ _ ht)) rfl ?_ | refine ⟨_, rfl, t, _, _, _, rfl, rfl, id ((s9.trans s10) _ _ ht), rfl, ?_⟩
      first | refine wV rfl ?_ | refine ⟨_, rfl, ?_⟩
      refine ⟨l4 rfl, ?_⟩
      refine fun p H' s' e' => ?_
      refine k p H' _ ((s9.trans s10).trans s') e' (by rw [show toldW _ _ w2 = _ from if_pos hwd]; exact .cons (hb0.mono ((s9.trans s10).trans s').t) (.cons (FV.int _) .nil)) (by simp)
    | j t0 hp =>
      obtain ⟨u1, u2, rfl⟩ := twoG hn
      obtain ⟨b0, r0, rfl, hb0, hf0⟩ := un_cons hf
      obtain rfl := un_nil hf0
      refine hG ?_
      first | refine wV rfl ?_ | refine ⟨_, rfl, ?_⟩
      refine ⟨l4 rfl, ?_⟩
      refine fun q11 H11 s11 e11 => ?_
      refine ⟨q11, _, rfl, .inr (SqT.of e11), rfl, rfl, _, rfl, ?_⟩
      refine iteQ hp.c1 ?_
      first | refine wV rfl ?_ | refine ⟨_, rfl, ?_⟩
      refine ⟨l4 rfl, ?_⟩
      refine fun q12 H12 s12 e12 => ?_
      refine ⟨q12, _, rfl, .inr (SqT.of e12), rfl, rfl, _, rfl, ?_⟩
      refine iteQ hp.c2 ?_
      first | refine wN rfl hp.c3 ?_ | refine ⟨_, rfl, rfl, _, rfl, iteQ hp.c3 ?_⟩
      first | refine wN rfl hp.c4 ?_ | refine ⟨_, rfl, rfl, _, rfl, iteQ hp.c4 ?_⟩
      first | refine wV rfl ?_ | refine ⟨_, rfl, ?_⟩
      refine ⟨l4 rfl, ?_⟩
      refine fun q13 H13 s13 e13 => ?_
      refine ⟨q13, _, rfl, .inr (SqT.of e13), rfl, rfl, _, rfl, ?_⟩
      refine iteP hp.c5 ?_
      first | refine wT0 rfl (id ((s11.trans (s12.trans s13)) _ _ ht)) rfl ?_ | refine ⟨_, rfl, t, _, _, _, rfl, rfl, id ((s11.trans (s12.trans s13)) _ _ ht), rfl, ?_⟩
      refine ⟨l4 rfl, ?_⟩
      refine fun p H' s' e' => ?_
      refine k p H' _ ((s11.trans (s12.trans s13)).trans s') e' (by rw [hp.told]; exact .cons (hb0.mono ((s11.trans (s12.trans s13)).trans s').t) .nil) (by simp)end
end VK
namespace VK
open PySem PySem.Spec PyProof.Rows L2
section
variable {P : Program} {w : World} {K : PySem.W.Frag} {mg : Str → Option Value} {base : Heap}
inductive NodeW (ns : NS) : FT → Int → Prop
  | table (x : Str) (wd : Int) : NodeW ns (tabT x wd) wd
  | node {wd : Str} {bts : List FT} {g : Wg} {n : Nat} {is : List Int} : Sh wd bts n g → n = is.length → (∀ i ∈ is, InN ns i) → NodeW ns (nodeT wd (toldT wd bts (is.map (wdAt ns))) is) (g (is.map (wdAt ns)))
theorem ints_un {H : Hp} {n : Nat} : ∀ {is : List Int} {ys : List V}, Paired (FV H n) (is.map FT.int) ys → ys = is.map V.int
  | [], ys, h => un_nil h
  | i :: r, ys, h => by
    obtain ⟨b, q, rfl, h1, h2⟩ := un_cons h
    rw [FV.int_of h1, ints_un h2]
    rfl
theorem node_un {H : Hp} {b : Addr} {wd : Str} {ts : List FT} {is : List Int} (h : FV H 8 (nodeT wd ts is) (.ref b)) : ∃ tt ti bs, H b = some (.tup [.str wd, .ref tt, .ref ti]) ∧ H tt = some (.tup bs) ∧ Paired (FV H 6) ts bs ∧ H ti = some (.tup (is.map V.int)) := by
  obtain ⟨b', xs, e, hb, hp⟩ := FV.untup (n := 7) h
  injection e with e
  subst e
  obtain ⟨x0, r0, rfl, h0, hp⟩ := un_cons hp
  obtain ⟨x1, r1, rfl, h1, hp⟩ := un_cons hp
  obtain ⟨x2, r2, rfl, h2, hp⟩ := un_cons hp
  obtain rfl := un_nil hp
  obtain rfl := FV.str_of h0
  obtain ⟨tt, bs, rfl, htt, hbs⟩ := FV.untup (n := 6) h1
  obtain ⟨ti, ys, rfl, hti, hys⟩ := FV.untup (n := 6) h2
  obtain rfl := ints_un hys
  exact ⟨tt, ti, bs, hb, htt, hbs, hti⟩
theorem tab_un {H : Hp} {b : Addr} {x : Str} {wd : Int} (h : FV H 8 (tabT x wd) (.ref b)) : ∃ tt v2, H b = some (.tup [.str "table", .ref tt, v2]) ∧ H tt = some (.tup [.str x, .int wd]) := by
  obtain ⟨b', xs, e, hb, hp⟩ := FV.untup (n := 7) h
  injection e with e
  subst e
  obtain ⟨x0, r0, rfl, h0, hp⟩ := un_cons hp
  obtain ⟨x1, r1, rfl, h1, hp⟩ := un_cons hp
  obtain ⟨x2, r2, rfl, h2, hp⟩ := un_cons hp
  obtain rfl := un_nil hp
  obtain rfl := FV.str_of h0
  obtain ⟨tt, bs, rfl, htt, hbs⟩ := FV.untup (n := 6) h1
  obtain ⟨y0, q0, rfl, g0, hbs⟩ := un_cons hbs
  obtain ⟨y1, q1, rfl, g1, hbs⟩ := un_cons hbs
  obtain rfl := un_nil hbs
  rw [FV.str_of g0, FV.int_of g1] at htt
  exact ⟨tt, x2, hb, htt⟩
abbrev sWideL : Stmt := top 27
abbrev psWideL : List Str := ["_law_node", "_law_wides"]
abbrev nWideL : List Str := ["_law_node", "_law_wides", "_law_word"]
def spWideL : Sp := fun vs H Q _ => ∃ (b W : Addr) (ns : NS) (t : FT) (wd : Int), vs = [.ref b, .ref W] ∧ H W = some (.lst (ns.map fun e => V.int e.2)) ∧ NodeW ns t wd ∧ FV H 8 t (.ref b) ∧ ∀ H', Same H H' → Q (.int wd) H'
theorem scWideL : FnScope nWideL psWideL (defScope sWideL) := ⟨rfl, rfl, rfl, by decide +kernel, rfl, by decide +kernel, by decide +kernel⟩
theorem okWideL {f : Addr} {fd : FuncData} (D : Fn K mg "_law_wide" sWideL psWideL f fd) (X : Txt mg) : FnOk P w K mg base CX0 1 f fd psWideL spWideL := by
  refine D.F.ok scWideL (fun vs H Q E h => ?_) (fun cdv A outer s H vs Q E hr h => ?_)
  · obtain ⟨_, _, _, _, _, rfl, _⟩ := h
    rfl
  · refine Classical.byContradiction fun hG0 => ?_
    obtain ⟨b, W, ns, t, wd, rfl, hW, hw', hb, k⟩ := h
    refine hG0 ?_
    clear hG0
    have nd := scWideL.nd
    refine ⟨_, (@pss_cons _ _ _ _ _ (@ps_set _ _ (2) _ _ _ _ nd rfl (Or.inl rfl) (@pe_ix _ _ _ _ _ _ _ ixT0 (pv 0) pe_int (fun _ _ => rfl)) (by rfl) (by first | exact .inl rfl | exact .inr rfl | assumption)) (@pss_cons _ _ _ _ _ (@ps_if _ _ _ _ _ _ _ _ (@pt_cmpR _ _ _ _ _ _ _ _ op_eq (pv 2) pe_str (nomark _)) (@pss_one _ _ _ (@ps_ret _ _ _ _ (@pe_ix _ _ _ _ _ _ _ ixT0 (@pe_ix _ _ _ _ _ _ _ ixT0 (pv 0) pe_int (fun _ _ => rfl)) pe_int (fun _ _ => rfl)))) pss_nil) (@pss_cons _ _ _ _ _ (@ps_if _ _ _ _ _ _ _ _ (@pt_cmpR _ _ _ _ _ _ _ _ op_eq (pv 2) pe_str (nomark _)) (@pss_one _ _ _ (@ps_ret _ _ _ _ (@pe_callB _ _ _ _ _ _ _ _ _ (lenK K) (by rfl) X.len b_len (@pa_cons _ _ _ _ _ (@pe_ix _ _ _ _ _ _ _ ixT0 (@pe_ix _ _ _ _ _ _ _ ixT0 (pv 0) pe_int (fun _ _ => rfl)) pe_int (fun _ _ => rfl)) pa_nil (by rfl)) (by decide) (by decide) (by rfl) (by rfl)))) pss_nil) (@pss_cons _ _ _ _ _ (@ps_if _ _ _ _ _ _ _ _ (@pt_cmpR _ _ _ _ _ _ _ _ op_eq (pv 2) pe_str (nomark _)) (@pss_one _ _ _ (@ps_ret _ _ _ _ (@pe_op _ _ _ _ _ _ _ _ op_add pe_int (@pe_callB _ _ _ _ _ _ _ _ _ (lenK K) (by rfl) X.len b_len (@pa_cons _ _ _ _ _ (@pe_ix _ _ _ _ _ _ _ ixT0 (@pe_ix _ _ _ _ _ _ _ ixT0 (pv 0) pe_int (fun _ _ => rfl)) pe_int (fun _ _ => rfl)) pa_nil (by rfl)) (by decide) (by decide) (by rfl) (by rfl))))) pss_nil) (@pss_cons _ _ _ _ _ (@ps_if _ _ _ _ _ _ _ _ (@pt_cmpR _ _ _ _ _ _ _ _ (inK K) (pv 2) (@pe_tupS _ _ _ _ _ (@pa_cons _ _ _ _ _ pe_str (@pa_cons _ _ _ _ _ pe_str (@pa_cons _ _ _ _ _ pe_str pa_nil (by rfl)) (by rfl)) (by rfl))) (by with_unfolding_all rfl)) (@pss_one _ _ _ (@ps_ret _ _ _ _ (@pe_op _ _ _ _ _ _ _ _ op_add pe_int (@pe_callB _ _ _ _ _ _ _ _ _ (lenK K) (by rfl) X.len b_len (@pa_cons _ _ _ _ _ (@pe_ix _ _ _ _ _ _ _ ixT0 (@pe_ix _ _ _ _ _ _ _ ixT0 (pv 0) pe_int (fun _ _ => rfl)) pe_int (fun _ _ => rfl)) pa_nil (by rfl)) (by decide) (by decide) (by rfl) (by rfl))))) pss_nil) (@pss_cons _ _ _ _ _ (@ps_if _ _ _ _ _ _ _ _ (@pt_cmpR _ _ _ _ _ _ _ _ (inK K) (pv 2) (@pe_tupS _ _ _ _ _ (@pa_cons _ _ _ _ _ pe_str (@pa_cons _ _ _ _ _ pe_str pa_nil (by rfl)) (by rfl))) (by with_unfolding_all rfl)) (@pss_one _ _ _ (@ps_ret _ _ _ _ (@pe_op _ _ _ _ _ _ _ _ op_add (@pe_ix _ _ _ _ _ _ _ ixL0 (pv 1) (@pe_ix _ _ _ _ _ _ _ ixT0 (@pe_ix _ _ _ _ _ _ _ ixT0 (pv 0) pe_int (fun _ _ => rfl)) pe_int (fun _ _ => rfl)) (fun _ _ => rfl)) (@pe_ix _ _ _ _ _ _ _ ixL0 (pv 1) (@pe_ix _ _ _ _ _ _ _ ixT0 (@pe_ix _ _ _ _ _ _ _ ixT0 (pv 0) pe_int (fun _ _ => rfl)) pe_int (fun _ _ => rfl)) (fun _ _ => rfl))))) pss_nil) (@pss_one _ _ _ (@ps_ret _ _ _ _ (@pe_ix _ _ _ _ _ _ _ ixL0 (pv 1) (@pe_ix _ _ _ _ _ _ _ ixT0 (@pe_ix _ _ _ _ _ _ _ ixT0 (pv 0) pe_int (fun _ _ => rfl)) pe_int (fun _ _ => rfl)) (fun _ _ => rfl)))))))))), ?_⟩
    cases hw' with
    | table x _ =>
      obtain ⟨tt, v2, hb, htt⟩ := tab_un hb
      first | refine wT0 rfl (id hb) rfl ?_ | refine ⟨_, rfl, b, _, _, _, rfl, rfl, id hb, rfl, ?_⟩
      first | refine wY rfl (by decide +kernel) ?_ | refine ⟨_, rfl, rfl, _, rfl, iteP (by decide +kernel) ?_⟩
      first | refine wT0 rfl (id hb) rfl ?_ | refine ⟨_, rfl, b, _, _, _, rfl, rfl, id hb, rfl, ?_⟩
      refine ⟨tt, _, _, _, rfl, rfl, id htt, rfl, k H (Same.refl H)⟩
    | @node wd bts g n is hS hn hin =>
      obtain ⟨tt, ti, bs, hbn, htt, hbs, hti⟩ := node_un hb
      first | refine wT0 rfl (id hbn) rfl ?_ | refine ⟨_, rfl, b, _, _, _, rfl, rfl, id hbn, rfl, ?_⟩
      refine Classical.byContradiction fun hG => ?_
      rcases hS.cls with ⟨rfl, hn1, hp⟩ | hs
      · obtain ⟨i0, ir, rfl⟩ := head_of hn hn1
        refine hG ?_
        first | refine wN rfl hp.c1 ?_ | refine ⟨_, rfl, rfl, _, rfl, iteQ hp.c1 ?_⟩
        first | refine wN rfl hp.c2 ?_ | refine ⟨_, rfl, rfl, _, rfl, iteQ hp.c2 ?_⟩
        first | refine wN rfl hp.c3 ?_ | refine ⟨_, rfl, rfl, _, rfl, iteQ hp.c3 ?_⟩
        first | refine wV rfl ?_ | refine ⟨_, rfl, ?_⟩
        refine ⟨l4 rfl, ?_⟩
        refine fun q1 H1 s1 e1 => ?_
        refine ⟨q1, _, rfl, .inr (SqT.of e1), rfl, rfl, _, rfl, ?_⟩
        refine iteQ hp.c4 ?_
        first | refine wV rfl ?_ | refine ⟨_, rfl, ?_⟩
        refine ⟨l4 rfl, ?_⟩
        refine fun q2 H2 s2 e2 => ?_
        refine ⟨q2, _, rfl, .inr (SqT.of e2), rfl, rfl, _, rfl, ?_⟩
        refine iteQ hp.c5 ?_
        first | refine wV rfl ?_ | refine ⟨_, rfl, ?_⟩
        first | refine wT0 rfl (id ((s1.trans s2) _ _ hbn)) rfl ?_ | refine ⟨_, rfl, b, _, _, _, rfl, rfl, id ((s1.trans s2) _ _ hbn), rfl, ?_⟩
        refine ⟨ti, _, _, _, rfl, rfl, id ((s1.trans s2) _ _ hti), at0, W, _, _, _, rfl, rfl, id ((s1.trans s2) _ _ hW), wd_at (hin i0 (by simp)), k _ (s1.trans s2)⟩
      · cases hs with
        | cols ts =>
          rw [show toldT _ _ (is.map (wdAt ns)) = _ from if_neg (by decide +kernel)] at hbs
          obtain ⟨b0, r0, rfl, hb0, hbs⟩ := un_cons hbs
          obtain rfl := un_nil hbs
          obtain ⟨c, xs, rfl, hc, hxs⟩ := FV.untup (n := 5) hb0
          have hl : (xs.length : Int) = (ts.length : Int) := by rw [Paired.length hxs]
          refine hG ?_
          first | refine wN rfl (by decide +kernel) ?_ | refine ⟨_, rfl, rfl, _, rfl, iteQ (by decide +kernel) ?_⟩
          first | refine wY rfl (by decide +kernel) ?_ | refine ⟨_, rfl, rfl, _, rfl, iteP (by decide +kernel) ?_⟩
          have hk := k _ (Same.refl H)
          first | refine wT0 rfl (id ((Same.refl H) _ _ hbn)) rfl ?_ | refine ⟨_, rfl, b, _, _, _, rfl, rfl, id ((Same.refl H) _ _ hbn), rfl, ?_⟩
          refine ⟨tt, _, _, _, rfl, rfl, id ((Same.refl H) _ _ htt), rfl, _, _, rfl, .inr (SqT.of ((Same.refl H) _ _ hc)), by rw [hl]; exact hk⟩
        | count ts =>
          rw [show toldT _ _ (is.map (wdAt ns)) = _ from if_neg (by decide +kernel)] at hbs
          obtain ⟨b0, r0, rfl, hb0, hbs⟩ := un_cons hbs
          obtain rfl := un_nil hbs
          obtain ⟨c, xs, rfl, hc, hxs⟩ := FV.untup (n := 5) hb0
          have hl : (xs.length : Int) = (ts.length : Int) := by rw [Paired.length hxs]
          refine hG ?_
          first | refine wN rfl (by decide +kernel) ?_ | refine ⟨_, rfl, rfl, _, rfl, iteQ (by decide +kernel) ?_⟩
          first | refine wN rfl (by decide +kernel) ?_ | refine ⟨_, rfl, rfl, _, rfl, iteQ (by decide +kernel) ?_⟩
          first | refine wY rfl (by decide +kernel) ?_ | refine ⟨_, rfl, rfl, _, rfl, iteP (by decide +kernel) ?_⟩
          have hk := k _ (Same.refl H)
          have e : V.int (1 + (xs.length : Int)) = V.int ((ts.length : Int) + 1) := by rw [hl, Int.add_comm]
          first | refine wT0 rfl (id ((Same.refl H) _ _ hbn)) rfl ?_ | refine ⟨_, rfl, b, _, _, _, rfl, rfl, id ((Same.refl H) _ _ hbn), rfl, ?_⟩
          refine ⟨tt, _, _, _, rfl, rfl, id ((Same.refl H) _ _ htt), rfl, _, _, rfl, .inr (SqT.of ((Same.refl H) _ _ hc)), _, _, rfl, rfl, Eq.mpr (congrArg (fun z => Q z _) e) hk⟩
        | grp p0 ts hwd =>
          have hp := grp_tests hwd
          rw [show toldT _ _ (is.map (wdAt ns)) = _ from if_neg (by rcases hwd with rfl | rfl | rfl <;> decide +kernel)] at hbs
          obtain ⟨b0, r0, rfl, hb0, hbs⟩ := un_cons hbs
          obtain ⟨b1, r1, rfl, hb1, hbs⟩ := un_cons hbs
          obtain rfl := un_nil hbs
          obtain ⟨c, xs, rfl, hc, hxs⟩ := FV.untup (n := 5) hb1
          have hl : (xs.length : Int) = (ts.length : Int) := by rw [Paired.length hxs]
          refine hG ?_
          first | refine wN rfl hp.c1 ?_ | refine ⟨_, rfl, rfl, _, rfl, iteQ hp.c1 ?_⟩
          first | refine wN rfl hp.c2 ?_ | refine ⟨_, rfl, rfl, _, rfl, iteQ hp.c2 ?_⟩
          first | refine wN rfl hp.c3 ?_ | refine ⟨_, rfl, rfl, _, rfl, iteQ hp.c3 ?_⟩
          first | refine wV rfl ?_ | refine ⟨_, rfl, ?_⟩
          refine ⟨l4 rfl, ?_⟩
          refine fun q3 H3 s3 e3 => ?_
          refine ⟨q3, _, rfl, .inr (SqT.of e3), rfl, rfl, _, rfl, ?_⟩
          refine iteP hp.c4 ?_
          have hk := k _ s3
          have e : V.int (1 + (xs.length : Int)) = V.int ((ts.length : Int) + 1) := by rw [hl, Int.add_comm]
          first | refine wT0 rfl (id (s3 _ _ hbn)) rfl ?_ | refine ⟨_, rfl, b, _, _, _, rfl, rfl, id (s3 _ _ hbn), rfl, ?_⟩
          refine ⟨tt, _, _, _, rfl, rfl, id (s3 _ _ htt), rfl, _, _, rfl, .inr (SqT.of (s3 _ _ hc)), _, _, rfl, rfl, Eq.mpr (congrArg (fun z => Q z _) e) hk⟩
        | two t0 hwd =>
          have hp := two_tests hwd
          obtain ⟨i0, i1, rfl⟩ := twoG hn
          refine hG ?_
          first | refine wN rfl hp.c1 ?_ | refine ⟨_, rfl, rfl, _, rfl, iteQ hp.c1 ?_⟩
          first | refine wN rfl hp.c2 ?_ | refine ⟨_, rfl, rfl, _, rfl, iteQ hp.c2 ?_⟩
          first | refine wN rfl hp.c3 ?_ | refine ⟨_, rfl, rfl, _, rfl, iteQ hp.c3 ?_⟩
          first | refine wV rfl ?_ | refine ⟨_, rfl, ?_⟩
          refine ⟨l4 rfl, ?_⟩
          refine fun q4 H4 s4 e4 => ?_
          refine ⟨q4, _, rfl, .inr (SqT.of e4), rfl, rfl, _, rfl, ?_⟩
          refine iteQ hp.c4 ?_
          first | refine wV rfl ?_ | refine ⟨_, rfl, ?_⟩
          refine ⟨l4 rfl, ?_⟩
          refine fun q5 H5 s5 e5 => ?_
          refine ⟨q5, _, rfl, .inr (SqT.of e5), rfl, rfl, _, rfl, ?_⟩
          refine iteP hp.c5 ?_
          first | refine wV rfl ?_ | refine ⟨_, rfl, ?_⟩
          first | refine wT0 rfl (id ((s4.trans s5) _ _ hbn)) rfl ?_ | refine ⟨_, rfl, b, _, _, _, rfl, rfl, id ((s4.trans s5) _ _ hbn), rfl, ?_⟩
          refine ⟨ti, _, _, _, rfl, rfl, id ((s4.trans s5) _ _ hti), rfl, W, _, _, _, rfl, rfl, id ((s4.trans s5) _ _ hW), wd_at (hin i0 (by simp)), _, rfl, ?_⟩
          first | refine wT0 rfl (id ((s4.trans s5) _ _ hbn)) rfl ?_ | refine ⟨_, rfl, b, _, _, _, rfl, rfl, id ((s4.trans s5) _ _ hbn), rfl, ?_⟩
          refine ⟨ti, _, _, _, rfl, rfl, id ((s4.trans s5) _ _ hti), rfl, W, _, _, _, rfl, rfl, id ((s4.trans s5) _ _ hW), wd_at (hin i1 (by simp)), _, _, rfl, rfl, k _ (s4.trans s5)⟩
structure LawAt (P : Program) (w : World) (H : Hp) (tl L W D : Addr) (ns : NS) : Prop where
  ob : H tl = some (.tup [.ref D, .ref L, .ref W])
  co : Core P w H L W D ns
theorem LawAt.fr {P : Program} {w : World} {H H' : Hp} {tl L W D : Addr} {ns ns' : NS} (a : LawAt P w H tl L W D ns) (f : Fr L W D H H') (c : Core P w H' L W D ns') : LawAt P w H' tl L W D ns' := ⟨a.co.tups f _ _ a.ob, c⟩
theorem LawAt.same {P : Program} {w : World} {H H' : Hp} {tl L W D : Addr} {ns : NS} (a : LawAt P w H tl L W D ns) (s : Same H H') : LawAt P w H' tl L W D ns := ⟨s _ _ a.ob, a.co.same s⟩
abbrev sPutL : Stmt := top 28
abbrev psPutL : List Str := ["_law_laid_here", "_law_node"]
def spPutL (P : Program) (w : World) : Sp := fun vs H Q _ => ∃ (tl b L W D : Addr) (ns : NS) (t : FT) (wd : Int), vs = [.ref tl, .ref b] ∧ LawAt P w H tl L W D ns ∧ FV H 8 t (.ref b) ∧ NodeW ns t wd ∧ ns.length < 100000 ∧ ∀ H', Fr L W D H H' → LawAt P w H' tl L W D (putN ns t wd).1 → Q (.int (putN ns t wd).2) H'
theorem scPutL : FnScope psPutL psPutL (defScope sPutL) := ⟨rfl, rfl, rfl, by decide +kernel, rfl, by decide +kernel, by decide +kernel⟩
theorem okPutL {f fW : Addr} {fd fdW : FuncData} (X : Txt mg) (D : Fn K mg "_law_put" sPutL psPutL f fd) (DW : Fn K mg "_law_wide" sWideL psWideL fW fdW) : FnOk P w K mg base CX0 2 f fd psPutL (spPutL P w) := by
  have GW : FnOk P w K mg base CX0 1 fW fdW psWideL spWideL := okWideL DW X
  refine D.F.ok (k := 1) scPutL (fun vs H Q E h => ?_) (fun cdv A outer s H vs Q E hr h => ?_)
  · obtain ⟨_, _, _, _, _, _, _, _, rfl, _⟩ := h
    rfl
  · refine Classical.byContradiction fun hG0 => ?_
    obtain ⟨tl, b, L, W, D', ns, t, wd, rfl, hN, hb, hnw, hz, k⟩ := h
    refine hG0 ?_
    clear hG0
    refine ⟨_, (@pss_cons _ _ _ _ _ (@ps_if _ _ _ _ _ _ _ _ (@pt_cmp _ _ _ _ _ _ (@pc_tnotin _ _ _ _ _ (hu16 hr) (pv 1) (@pe_ix _ _ _ _ _ _ _ ixT0 (pv 0) pe_int (fun _ _ => rfl))) (by first | exact nobehind _ (by decide) (by decide) | rfl)) (@pss_cons _ _ _ _ _ (@ps_tput _ _ _ _ _ _ _ _ _ (hu16 hr) (@pe_ix _ _ _ _ _ _ _ ixT0 (pv 0) pe_int (fun _ _ => rfl)) (pv 1) (@pe_callB _ _ _ _ _ _ _ _ _ (lenK K) (by rfl) X.len b_len (@pa_cons _ _ _ _ _ (@pe_ix _ _ _ _ _ _ _ ixT0 (pv 0) pe_int (fun _ _ => rfl)) pa_nil (by rfl)) (by decide) (by decide) (by rfl) (by rfl)) rfl) (@pss_cons _ _ _ _ _ (@ps_expr _ _ _ _ (@pe_bm _ _ _ _ _ _ _ _ _ _ _ _ PySem.F.plainAttrs_list PySem.F.slot_list_append PySem.F.type_list_append mt_append (@pe_ix _ _ _ _ _ _ _ ixT0 (pv 0) pe_int (fun _ _ => rfl)) (@pa_cons _ _ _ _ _ (pv 1) pa_nil (by rfl)) (by rfl) (by rfl) (by rfl) (by rfl) (by rfl)) (by rfl)) (@pss_one _ _ _ (@ps_expr _ _ _ _ (@pe_bm _ _ _ _ _ _ _ _ _ _ _ _ PySem.F.plainAttrs_list PySem.F.slot_list_append PySem.F.type_list_append mt_append (@pe_ix _ _ _ _ _ _ _ ixT0 (pv 0) pe_int (fun _ _ => rfl)) (@pa_cons _ _ _ _ _ (@pe_call _ _ _ _ _ _ _ _ _ _ _ _ _ _ _ _ GW hr rfl DW.m DW.F.kp DW.b .nil pass0 (@pa_cons _ _ _ _ _ (pv 1) (@pa_cons _ _ _ _ _ (@pe_ix _ _ _ _ _ _ _ ixT0 (pv 0) pe_int (fun _ _ => rfl)) pa_nil (by rfl)) (by rfl)) (by decide) (by rfl) (by rfl)) pa_nil (by rfl)) (by rfl) (by rfl) (by rfl) (by rfl) (by rfl)) (by rfl))))) pss_nil) (@pss_one _ _ _ (@ps_ret _ _ _ _ (@pe_tget _ _ _ _ _ _ (hu16 hr) (@pe_ix _ _ _ _ _ _ _ ixT0 (pv 0) pe_int (fun _ _ => rfl)) (pv 1) (fun _ _ => rfl))))), ?_⟩
    have ho := hN.ob
    obtain ⟨vs, hL, hp⟩ := hN.co.la
    obtain ⟨φ, hD⟩ := hN.co.dEx
    have npL : tl ≠ L := ne_of ho hL fun z => nomatch z
    have npW : tl ≠ W := ne_of ho hN.co.wi fun z => nomatch z
    have npD : tl ≠ D' := ne_of ho hD fun z => nomatch z
    have nLD : L ≠ D' := ne_of hL hD fun z => nomatch z
    have nWD : W ≠ D' := ne_of hN.co.wi hD fun z => nomatch z
    have hbV := hb.tv
    first | refine wV rfl ?_ | refine ⟨_, rfl, ?_⟩
    first | refine wT0 rfl (id ho) rfl ?_ | refine ⟨_, rfl, tl, _, _, _, rfl, rfl, id ho, rfl, ?_⟩
    refine ⟨D', b, _, t.key, rfl, rfl, hN.co.di, hbV, _, rfl, ?_⟩
    cases e : tfind (numb ns 0) t.key with
    | some i =>
      refine iteF ?_
      rw [putN_old e] at k
      first | refine wT0 rfl (id ho) rfl ?_ | refine ⟨_, rfl, tl, _, _, _, rfl, rfl, id ho, rfl, ?_⟩
      first | refine wV rfl ?_ | refine ⟨_, rfl, ?_⟩
      refine ⟨D', b, _, t.key, i, rfl, rfl, hN.co.di, hbV, e, k H (Fr.refl H) hN⟩
    | none =>
      refine iteT ?_
      rw [putN_new e] at k
      first | refine wT0 rfl (id ho) rfl ?_ | refine ⟨_, rfl, tl, _, _, _, rfl, rfl, id ho, rfl, ?_⟩
      refine ⟨L, vs, rfl, .inl (SqL.of hL), ?_⟩
      first | refine wT0 rfl (id ho) rfl ?_ | refine ⟨_, rfl, tl, _, _, _, rfl, rfl, id ho, rfl, ?_⟩
      first | refine wV rfl ?_ | refine ⟨_, rfl, ?_⟩
      refine ⟨D', b, _, t.key, _, rfl, rfl, rfl, hN.co.di, hbV, e, hN.co.nums hz, fun o d mu => ?_⟩
      have hvl : vs.length = ns.length := (Paired.length hp).symm
      rw [hvl] at d
      have hcp := core_put (wd := wd) hN.co hL hp hb d
      have ho1 : (upd H D' o) tl = some (.tup [.ref D', .ref L, .ref W]) := by rw [upd_ne npD]; exact ho
      have hL1 : (upd H D' o) L = some (.lst vs) := by rw [upd_ne nLD]; exact hL
      first | refine wT0 rfl (id ho1) rfl ?_ | refine ⟨_, rfl, tl, _, _, _, rfl, rfl, id ho1, rfl, ?_⟩
      refine ⟨.inl ⟨rfl, vs, SqL.of hL1⟩, ?_⟩
      first | refine wV rfl ?_ | refine ⟨_, rfl, ?_⟩
      refine ⟨L, vs, _, rfl, rfl, hL1, lt_line (by omega), ?_⟩
      have ho2 : (upd (upd H D' o) L (.lst (vs ++ [.ref b]))) tl = some (.tup [.ref D', .ref L, .ref W]) := by rw [upd_ne npL]; exact ho1
      have hW2 : (upd (upd H D' o) L (.lst (vs ++ [.ref b]))) W = some (.lst (ns.map fun e => V.int e.2)) := by rw [upd_ne hN.co.ne.symm, upd_ne nWD]; exact hN.co.wi
      obtain ⟨c2, f2⟩ := hcp
      have hb2 : FV (upd (upd H D' o) L (.lst (vs ++ [.ref b]))) 8 t (.ref b) := hb.mono fun c xs ec => by
        rw [upd_ne (ne_of ec hL fun z => nomatch z), upd_ne (ne_of ec hD fun z => nomatch z)]
        exact ec
      generalize upd (upd H D' o) L (.lst (vs ++ [.ref b])) = H3 at ho2 hW2 c2 f2 hb2 ⊢
      first | refine wT0 rfl (id ho2) rfl ?_ | refine ⟨_, rfl, tl, _, _, _, rfl, rfl, id ho2, rfl, ?_⟩
      refine ⟨.inl ⟨rfl, _, SqL.of hW2⟩, ?_⟩
      first | refine wV rfl ?_ | refine ⟨_, rfl, ?_⟩
      first | refine wT0 rfl (id ho2) rfl ?_ | refine ⟨_, rfl, tl, _, _, _, rfl, rfl, id ho2, rfl, ?_⟩
      refine ⟨b, W, ns, t, wd, rfl, hW2, hnw, hb2, ?_⟩
      refine fun H4 s4 => ?_
      have hW4 := s4 _ _ hW2
      refine ⟨W, _, _, rfl, rfl, hW4, lt_line (by rw [List.length_map]; exact hz), ?_⟩
      have s5 : Same (upd H3 W (.lst ((ns.map fun e => V.int e.2) ++ [.int wd]))) (upd H4 W (.lst ((ns.map fun e => V.int e.2) ++ [.int wd]))) := fun c u hc => by
        by_cases hcW : c = W
        · subst hcW
          rw [upd_same] at hc ⊢
          exact hc
        · rw [upd_ne hcW] at hc ⊢
          exact s4 _ _ hc
      have c5 := c2.same s5
      have f5 : Fr L W D' H (upd H4 W (.lst ((ns.map fun e => V.int e.2) ++ [.int wd]))) := f2.trans (Fr.of s5)
      have hN5 := hN.fr f5 c5
      first | refine wT0 rfl (id hN5.ob) rfl ?_ | refine ⟨_, rfl, tl, _, _, _, rfl, rfl, id hN5.ob, rfl, ?_⟩
      first | refine wV rfl ?_ | refine ⟨_, rfl, ?_⟩
      refine ⟨D', b, _, t.key, _, rfl, rfl, c5.di, (hb.mono (hN.co.tups f5)).tv, ?_, k _ f5 hN5⟩
      rw [numb_snoc, tfind_append e, Nat.zero_add]
      exact tfind_one
end
end VK
namespace VK
open PySem PySem.Spec PyProof.Rows L2
section
variable {P : Program} {w : World} {K : PySem.W.Frag} {mg : Str → Option Value} {base : Heap}
theorem lawNode {H : Hp} {b tt ti : Addr} {wd : Str} {bs : List V} {bts : List FT} {is ws : List Int} {n : Nat} {g : Wg} (hS : Sh wd bts n g) (hn : n = is.length) (hb : H b = some (.tup [.str wd, .ref tt, .ref ti])) (ht : H tt = some (.tup bs)) (hp : Paired (FV H 5) (toldT wd bts ws) bs) (hl : bs.length ≤ 4) (hi : H ti = some (.tup (is.map V.int))) : FV H 8 (nodeT wd (toldT wd bts ws) is) (.ref b) :=
  nodeV hb ht hp hi (by omega) (by have := hS.le2.1; omega)
theorem LawAt.dk {P : Program} {w : World} {H H' : Hp} {tl L W D : Addr} {ns : NS} (a : LawAt P w H tl L W D ns) (f : Fr L W D H H') {l : Addr} {kvs : List (Key × V)} (h : H l = some (.dK kvs)) : H' l = some (.dK kvs) := by
  obtain ⟨vs, hL, _⟩ := a.co.la
  obtain ⟨φ, hD⟩ := a.co.dEx
  exact f _ _ h (ne_of h hL fun z => nomatch z) (ne_of h a.co.wi fun z => nomatch z) (ne_of h hD fun z => nomatch z)
def two7 : List V := [V.str "join", .str "left", .str "notin", .str "pour", .str "both", .str "either", .str "less"]
theorem OneB.w7 {H : Hp} {wd : Str} {bs : List V} {w1 w m : Int} (h : OneB H wd bs w1 w m) : inV (.str wd) two7 = false := by
  cases h with
  | grp a _ _ => rcases a with rfl | rfl | rfl <;> decide +kernel
  | _ => decide +kernel
theorem TwoB.w7 {H : Hp} {wd : Str} {bs : List V} {w1 w2 w m : Int} (h : TwoB H wd bs w1 w2 w m) : inV (.str wd) two7 = true := by
  cases h with
  | alike a => rcases a with rfl | rfl | rfl | rfl <;> decide +kernel
  | join a _ => rcases a with rfl | rfl <;> decide +kernel
  | notin _ => decide +kernel
abbrev sLaid : Stmt := top 29
abbrev psLaid : List Str := ["_law_laid_here", "_law_view", "_law_names_here"]
abbrev nLaid : List Str := ["_law_laid_here", "_law_view", "_law_names_here", "_law_word", "_law_now", "_law_turn", "_law_inner", "_law_other", "_law_one_here"]
def spLaid (P : Program) (w : World) (n : Nat) : Sp := fun vs H Q _ => ∃ (tl L W D a : Addr) (ns : NS) (v : V) (pq : PV) (Dm : Str → Prop) (kvs : List (Key × V)) (e : Str → Int), vs = [.ref tl, v, .ref a] ∧ LawAt P w H tl L W D ns ∧ VP n H Dm v pq ∧ H a = some (.dK kvs) ∧ Knows kvs Dm e ∧ Rg e ns ∧ kvs.length + n ≤ 900 ∧ ns.length + pq.sz < 90000 ∧
  ∀ H', Fr L W D H H' → LawAt P w H' tl L W D (lay pq e ns).1 → Q (.int (lay pq e ns).2) H'
theorem scLaid : FnScope nLaid psLaid (defScope sLaid) := ⟨rfl, rfl, rfl, by decide +kernel, rfl, by decide +kernel, by decide +kernel⟩
theorem okLaid (n : Nat) {f fP fB fW : Addr} {fd fdP fdB fdW : FuncData} (X : Txt mg) (D : Fn K mg "_law_laid" sLaid psLaid f fd) (DP : Fn K mg "_law_put" sPutL psPutL fP fdP) (DB : Fn K mg "_law_besides" sBes psBes fB fdB) (DW : Fn K mg "_law_wide" sWideL psWideL fW fdW)
    (IH0 : FnOk P w K mg base CX0 (n + 2) f fd psLaid (spLaid P w n)) : FnOk P w K mg base CX0 (n + 3) f fd psLaid (spLaid P w (n + 1)) := by
  have GP : FnOk P w K mg base CX0 (n + 2) fP fdP psPutL (spPutL P w) := (okPutL X DP DW).mono (by omega)
  have GB : FnOk P w K mg base CX0 (n + 2) fB fdB psBes spBes := (okBes DB).mono (by omega)
  have IH : FnOk P w K mg base CX0 (n + 2) f fd psLaid (spLaid P w n) := IH0
  refine D.F.ok (k := n + 2) scLaid (fun vs H Q E h => ?_) (fun cdv A outer s H vs Q E hr h => ?_)
  · obtain ⟨_, _, _, _, _, _, _, _, _, _, _, rfl, _⟩ := h
    rfl
  · refine Classical.byContradiction fun hG0 => ?_
    obtain ⟨tl, L, W, D', a, ns, v, pq, Dm, kvs, e, rfl, hN, ⟨t, rfl, hV⟩, ha, hkn, he, hzk, hz, k⟩ := h
    refine hG0 ?_
    clear hG0
    have nd := scLaid.nd
    refine ⟨_, (@pss_cons _ _ _ _ _ (@ps_set _ _ (3) _ _ _ _ nd rfl (Or.inl rfl) (@pe_ix _ _ _ _ _ _ _ ixT0 (pv 1) pe_int (fun _ _ => rfl)) (by rfl) (by first | exact .inl rfl | exact .inr rfl | assumption)) (@pss_cons _ _ _ _ _ (@ps_if _ _ _ _ _ _ _ _ (@pt_cmpR _ _ _ _ _ _ _ _ op_eq (pv 3) pe_str (nomark _)) (@pss_one _ _ _ (@ps_ret _ _ _ _ (@pe_dget _ _ _ _ _ _ (hu_of hr) (pv 2) (@pe_ix _ _ _ _ _ _ _ ixT0 (pv 1) pe_int (fun _ _ => rfl)) (fun _ _ => rfl)))) pss_nil) (@pss_cons _ _ _ _ _ (@ps_if _ _ _ _ _ _ _ _ (@pt_cmpR _ _ _ _ _ _ _ _ op_eq (pv 3) pe_str (nomark _)) (@pss_cons _ _ _ _ _ (@ps_set _ _ (4) _ _ _ _ nd rfl (Or.inl rfl) (@pe_call _ _ _ _ _ _ _ _ _ _ _ _ _ _ _ _ GP hr rfl DP.m DP.F.kp DP.b .nil pass0 (@pa_cons _ _ _ _ _ (pv 0) (@pa_cons _ _ _ _ _ (@pe_tupS _ _ _ _ _ (@pa_cons _ _ _ _ _ pe_str (@pa_cons _ _ _ _ _ (@pe_tupS _ _ _ _ _ pa_nil) (@pa_cons _ _ _ _ _ (@pe_tupS _ _ _ _ _ (@pa_cons _ _ _ _ _ (@pe_call _ _ _ _ _ _ _ _ _ _ _ _ _ _ _ _ IH hr rfl D.m D.F.kp D.b .nil pass0 (@pa_cons _ _ _ _ _ (pv 0) (@pa_cons _ _ _ _ _ (@pe_ix _ _ _ _ _ _ _ ixT0 (pv 1) pe_int (fun _ _ => rfl)) (@pa_cons _ _ _ _ _ (pv 2) pa_nil (by rfl)) (by rfl)) (by rfl)) (by decide) (by rfl) (by rfl)) pa_nil (by rfl))) pa_nil (by rfl)) (by rfl)) (by rfl))) pa_nil (by rfl)) (by rfl)) (by decide) (by rfl) (by rfl)) (by rfl) (by first | exact .inl rfl | exact .inr rfl | assumption)) (@pss_cons _ _ _ _ _ (@ps_for _ _ _ _ _ _ _ _ PassesOwn.never rfl (@pi_range1 _ _ _ _ _ _ rfl X.range (@pa_cons _ _ _ _ _ (@pe_ix _ _ _ _ _ _ _ ixT0 (pv 1) pe_int (fun _ _ => rfl)) pa_nil (by rfl)) (by rfl)) (@pg_name _ _ (5) _ nd rfl (Or.inl rfl) (by first | exact .inl rfl | exact .inr rfl | assumption)) (@pss_cons _ _ _ _ _ (@ps_set _ _ (6) _ _ _ _ nd rfl (Or.inl rfl) (@pe_callTy _ _ _ _ _ _ _ _ _ call_dcopy rfl X.dict b_dict (@pa_cons _ _ _ _ _ (pv 2) pa_nil (by rfl)) (by decide) (by decide) (by rfl) (by rfl)) (by rfl) (by first | exact .inl rfl | exact .inr rfl | assumption)) (@pss_cons _ _ _ _ _ (@ps_dput _ _ _ _ _ _ _ _ _ (hu_of hr) (pv 6) (@pe_ix _ _ _ _ _ _ _ ixT0 (pv 1) pe_int (fun _ _ => rfl)) (pv 4) rfl) (@pss_cons _ _ _ _ _ (@ps_set _ _ (7) _ _ _ _ nd rfl (Or.inl rfl) (@pe_call _ _ _ _ _ _ _ _ _ _ _ _ _ _ _ _ IH hr rfl D.m D.F.kp D.b .nil pass0 (@pa_cons _ _ _ _ _ (pv 0) (@pa_cons _ _ _ _ _ (@pe_ix _ _ _ _ _ _ _ ixT0 (pv 1) pe_int (fun _ _ => rfl)) (@pa_cons _ _ _ _ _ (pv 6) pa_nil (by rfl)) (by rfl)) (by rfl)) (by decide) (by rfl) (by rfl)) (by rfl) (by first | exact .inl rfl | exact .inr rfl | assumption)) (@pss_one _ _ _ (@ps_set _ _ (4) _ _ _ _ nd rfl (Or.inl rfl) (@pe_call _ _ _ _ _ _ _ _ _ _ _ _ _ _ _ _ GP hr rfl DP.m DP.F.kp DP.b .nil pass0 (@pa_cons _ _ _ _ _ (pv 0) (@pa_cons _ _ _ _ _ (@pe_tupS _ _ _ _ _ (@pa_cons _ _ _ _ _ pe_str (@pa_cons _ _ _ _ _ (@pe_tupS _ _ _ _ _ pa_nil) (@pa_cons _ _ _ _ _ (@pe_tupS _ _ _ _ _ (@pa_cons _ _ _ _ _ (@pe_call _ _ _ _ _ _ _ _ _ _ _ _ _ _ _ _ GP hr rfl DP.m DP.F.kp DP.b .nil pass0 (@pa_cons _ _ _ _ _ (pv 0) (@pa_cons _ _ _ _ _ (@pe_tupS _ _ _ _ _ (@pa_cons _ _ _ _ _ pe_str (@pa_cons _ _ _ _ _ (@pe_tupS _ _ _ _ _ pa_nil) (@pa_cons _ _ _ _ _ (@pe_tupS _ _ _ _ _ (@pa_cons _ _ _ _ _ (pv 4) (@pa_cons _ _ _ _ _ (pv 7) pa_nil (by rfl)) (by rfl))) pa_nil (by rfl)) (by rfl)) (by rfl))) pa_nil (by rfl)) (by rfl)) (by decide) (by rfl) (by rfl)) pa_nil (by rfl))) pa_nil (by rfl)) (by rfl)) (by rfl))) pa_nil (by rfl)) (by rfl)) (by decide) (by rfl) (by rfl)) (by rfl) (by first | exact .inl rfl | exact .inr rfl | assumption)))))) (by intro _; rfl)) (@pss_one _ _ _ (@ps_ret _ _ _ _ (pv 4))))) pss_nil) (@pss_cons _ _ _ _ _ (@ps_set _ _ (8) _ _ _ _ nd rfl (Or.inl rfl) (@pe_call _ _ _ _ _ _ _ _ _ _ _ _ _ _ _ _ IH hr rfl D.m D.F.kp D.b .nil pass0 (@pa_cons _ _ _ _ _ (pv 0) (@pa_cons _ _ _ _ _ (@pe_ix _ _ _ _ _ _ _ ixT0 (pv 1) pe_int (fun _ _ => rfl)) (@pa_cons _ _ _ _ _ (pv 2) pa_nil (by rfl)) (by rfl)) (by rfl)) (by decide) (by rfl) (by rfl)) (by rfl) (by first | exact .inl rfl | exact .inr rfl | assumption)) (@pss_cons _ _ _ _ _ (@ps_if _ _ _ _ _ _ _ _ (@pt_cmpR _ _ _ _ _ _ _ _ op_notIn_seq (pv 3) (@pe_tupS _ _ _ _ _ (@pa_cons _ _ _ _ _ pe_str (@pa_cons _ _ _ _ _ pe_str (@pa_cons _ _ _ _ _ pe_str (@pa_cons _ _ _ _ _ pe_str (@pa_cons _ _ _ _ _ pe_str (@pa_cons _ _ _ _ _ pe_str (@pa_cons _ _ _ _ _ pe_str pa_nil (by rfl)) (by rfl)) (by rfl)) (by rfl)) (by rfl)) (by rfl)) (by rfl))) (by with_unfolding_all rfl)) (@pss_one _ _ _ (@ps_ret _ _ _ _ (@pe_call _ _ _ _ _ _ _ _ _ _ _ _ _ _ _ _ GP hr rfl DP.m DP.F.kp DP.b .nil pass0 (@pa_cons _ _ _ _ _ (pv 0) (@pa_cons _ _ _ _ _ (@pe_tupS _ _ _ _ _ (@pa_cons _ _ _ _ _ (pv 3) (@pa_cons _ _ _ _ _ (@pe_call _ _ _ _ _ _ _ _ _ _ _ _ _ _ _ _ GB hr rfl DB.m DB.F.kp DB.b .nil pass0 (@pa_cons _ _ _ _ _ (pv 1) (@pa_cons _ _ _ _ _ pe_int pa_nil (by rfl)) (by rfl)) (by decide) (by rfl) (by rfl)) (@pa_cons _ _ _ _ _ (@pe_tupS _ _ _ _ _ (@pa_cons _ _ _ _ _ (pv 8) pa_nil (by rfl))) pa_nil (by rfl)) (by rfl)) (by rfl))) pa_nil (by rfl)) (by rfl)) (by decide) (by rfl) (by rfl)))) pss_nil) (@pss_cons _ _ _ _ _ (@ps_set _ _ (7) _ _ _ _ nd rfl (Or.inl rfl) (@pe_call _ _ _ _ _ _ _ _ _ _ _ _ _ _ _ _ IH hr rfl D.m D.F.kp D.b .nil pass0 (@pa_cons _ _ _ _ _ (pv 0) (@pa_cons _ _ _ _ _ (@pe_ix _ _ _ _ _ _ _ ixT0 (pv 1) pe_int (fun _ _ => rfl)) (@pa_cons _ _ _ _ _ (pv 2) pa_nil (by rfl)) (by rfl)) (by rfl)) (by decide) (by rfl) (by rfl)) (by rfl) (by first | exact .inl rfl | exact .inr rfl | assumption)) (@pss_one _ _ _ (@ps_ret _ _ _ _ (@pe_call _ _ _ _ _ _ _ _ _ _ _ _ _ _ _ _ GP hr rfl DP.m DP.F.kp DP.b .nil pass0 (@pa_cons _ _ _ _ _ (pv 0) (@pa_cons _ _ _ _ _ (@pe_tupS _ _ _ _ _ (@pa_cons _ _ _ _ _ (pv 3) (@pa_cons _ _ _ _ _ (@pe_call _ _ _ _ _ _ _ _ _ _ _ _ _ _ _ _ GB hr rfl DB.m DB.F.kp DB.b .nil pass0 (@pa_cons _ _ _ _ _ (pv 1) (@pa_cons _ _ _ _ _ (@pe_ix _ _ _ _ _ _ _ ixL0 (@pe_ix _ _ _ _ _ _ _ ixT0 (pv 0) pe_int (fun _ _ => rfl)) (pv 7) (fun _ _ => rfl)) pa_nil (by rfl)) (by rfl)) (by decide) (by rfl) (by rfl)) (@pa_cons _ _ _ _ _ (@pe_tupS _ _ _ _ _ (@pa_cons _ _ _ _ _ (pv 8) (@pa_cons _ _ _ _ _ (pv 7) pa_nil (by rfl)) (by rfl))) pa_nil (by rfl)) (by rfl)) (by rfl))) pa_nil (by rfl)) (by rfl)) (by decide) (by rfl) (by rfl)))))))))), ?_⟩
    refine Classical.byContradiction fun hG => ?_
    rcases hV with ⟨x, rfl, ht, hx⟩ | ⟨wd, v1, bs, bts, g, p1, w1, w', m, rfl, ht, h1, ob, hS, hf⟩ | ⟨wd, v1, v2, bs, bts, g, p1, p2, w1, w2, w', m, rfl, ht, h1, h2, ob, hS, hf⟩ | ⟨x, k0, v1, v2, p1, p2, rfl, ht, hk0, hV1, hV2⟩
    · refine hG ?_
      first | refine wT0 rfl (id ht) rfl ?_ | refine ⟨_, rfl, t, _, _, _, rfl, rfl, id ht, rfl, ?_⟩
      first | refine wY rfl (by decide +kernel) ?_ | refine ⟨_, rfl, rfl, _, rfl, iteP (by decide +kernel) ?_⟩
      have hg := DGet.k (k := .inr x) ha
      rw [hkn x hx] at hg
      first | refine wV rfl ?_ | refine ⟨_, rfl, ?_⟩
      first | refine wT0 rfl (id ht) rfl ?_ | refine ⟨_, rfl, t, _, _, _, rfl, rfl, id ht, rfl, ?_⟩
      refine ⟨a, _, rfl, hg, k H (Fr.refl H) hN⟩
    · obtain ⟨_, c2, c1, _⟩ := ob.word
      have szE : (PV.one wd bts g p1).sz = p1.sz + 1 := rfl
      have g1 := lay_gr (pv := p1) he
      have up1 := g1.up
      refine hG (cut fun R1 q1 => ?_)
      clear hG
      first | refine wT0 rfl (id ht) at0 ?_ | refine ⟨_, rfl, t, _, _, _, rfl, rfl, id ht, at0, ?_⟩
      refine q1 _ _ (cut fun R2 q2 => ?_)
      clear q1 R1
      first | refine wN rfl (neD c1) ?_ | refine ⟨_, rfl, rfl, _, rfl, iteQ (neD c1) ?_⟩
      refine q2 _ _ (cut fun R3 q3 => ?_)
      clear q2 R2
      first | refine wN rfl (neD c2) ?_ | refine ⟨_, rfl, rfl, _, rfl, iteQ (neD c2) ?_⟩
      refine q3 _ _ (cut fun R4 q4 => ?_)
      clear q3 R3
      first | refine wV rfl ?_ | refine ⟨_, rfl, ?_⟩
      first | refine wT0 rfl (id ht) at1 ?_ | refine ⟨_, rfl, t, _, _, _, rfl, rfl, id ht, at1, ?_⟩
      first | refine wV rfl ?_ | refine ⟨_, rfl, ?_⟩
      refine ⟨tl, L, W, D', a, ns, v1, p1, Dm, kvs, e, rfl, hN, h1, ha, hkn, he, by omega, by omega, ?_⟩
      refine fun H1 f1 hN1 => ?_
      have t01 := hN.co.tups f1
      refine q4 _ _ ?_
      clear q4 R4
      first | refine wV rfl ?_ | refine ⟨_, rfl, ?_⟩
      refine ⟨l4 rfl, ?_⟩
      refine fun q1 H2 s2 e2 => ?_
      refine ⟨q1, _, rfl, .inr (SqT.of e2), rfl, rfl, _, rfl, ?_⟩
      refine iteP (by show (!inV (.str wd) two7) = true; rw [ob.w7]; rfl) ?_
      have t02 : SameT H H2 := SameT.trans t01 s2.t
      first | refine wV rfl ?_ | refine ⟨_, rfl, ?_⟩
      first | refine wV rfl ?_ | refine ⟨_, rfl, ?_⟩
      first | refine wV rfl ?_ | refine ⟨_, rfl, ?_⟩
      refine ⟨t, wd, [v1], bs, bts, g, 1, 0, rfl, t02 _ _ ht, hS, rfl, Paired.mapP hf fun _ _ z => z.mono t02, ?_⟩
      refine fun tb H3 bs' s3 e3 hf3 hl3 => ?_
      first | refine wV rfl ?_ | refine ⟨_, rfl, ?_⟩
      refine ⟨l4 rfl, ?_⟩
      refine fun ti H4 s4 e4 => ?_
      refine ⟨l4 rfl, ?_⟩
      refine fun b H5 s5 e5 => ?_
      have s25 := s2.trans (s3.trans (s4.trans s5))
      have hin : ∀ i ∈ [(lay p1 e ns).2], InN (lay p1 e ns).1 i := fun i hi => by
        simp only [List.mem_cons, List.not_mem_nil, or_false] at hi
        subst hi
        exact g1.ix
      refine ⟨tl, b, L, W, D', _, _, _, rfl, hN1.same s25, lawNode (is := [(lay p1 e ns).2]) (ws := [(lay p1 e ns).2].map (wdAt (lay p1 e ns).1)) hS rfl e5 (s5 _ _ (s4 _ _ e3)) (Paired.mapP hf3 fun _ _ z => z.mono (s4.trans s5).t) hl3 (s5 _ _ e4), .node hS rfl hin, by omega, fun H6 f6 hN6 => ?_⟩
      exact k H6 (f1.trans ((Fr.of s25).trans f6)) hN6
    · obtain ⟨_, c2, c1, _⟩ := ob.word
      have szE : (PV.two wd bts g p1 p2).sz = p1.sz + p2.sz + 1 := rfl
      have g1 := lay_gr (pv := p1) he
      have up1 := g1.up
      have le1 := g1.le
      have g2 := lay_gr (pv := p2) (he.mono le1)
      have up2 := g2.up
      have le2 := g2.le
      refine hG (cut fun R1 q1 => ?_)
      clear hG
      first | refine wT0 rfl (id ht) at0 ?_ | refine ⟨_, rfl, t, _, _, _, rfl, rfl, id ht, at0, ?_⟩
      refine q1 _ _ (cut fun R2 q2 => ?_)
      clear q1 R1
      first | refine wN rfl (neD c1) ?_ | refine ⟨_, rfl, rfl, _, rfl, iteQ (neD c1) ?_⟩
      refine q2 _ _ (cut fun R3 q3 => ?_)
      clear q2 R2
      first | refine wN rfl (neD c2) ?_ | refine ⟨_, rfl, rfl, _, rfl, iteQ (neD c2) ?_⟩
      refine q3 _ _ (cut fun R4 q4 => ?_)
      clear q3 R3
      first | refine wV rfl ?_ | refine ⟨_, rfl, ?_⟩
      first | refine wT0 rfl (id ht) at1 ?_ | refine ⟨_, rfl, t, _, _, _, rfl, rfl, id ht, at1, ?_⟩
      first | refine wV rfl ?_ | refine ⟨_, rfl, ?_⟩
      refine ⟨tl, L, W, D', a, ns, v1, p1, Dm, kvs, e, rfl, hN, h1, ha, hkn, he, by omega, by omega, ?_⟩
      refine fun H1 f1 hN1 => ?_
      have t01 := hN.co.tups f1
      have ha1 := hN.dk f1 ha
      refine q4 _ _ (cut fun R5 q5 => ?_)
      clear q4 R4
      first | refine wV rfl ?_ | refine ⟨_, rfl, ?_⟩
      refine ⟨l4 rfl, ?_⟩
      refine fun q1 H2 s2 e2 => ?_
      refine ⟨q1, _, rfl, .inr (SqT.of e2), rfl, rfl, _, rfl, ?_⟩
      refine iteQ (by show (!inV (.str wd) two7) = false; rw [ob.w7]; rfl) ?_
      have t02 : SameT H H2 := SameT.trans t01 s2.t
      have hN2 := hN1.same s2
      refine q5 _ _ (cut fun R6 q6 => ?_)
      clear q5 R5
      first | refine wV rfl ?_ | refine ⟨_, rfl, ?_⟩
      first | refine wT0 rfl (id (t02 _ _ ht)) at2 ?_ | refine ⟨_, rfl, t, _, _, _, rfl, rfl, id (t02 _ _ ht), at2, ?_⟩
      first | refine wV rfl ?_ | refine ⟨_, rfl, ?_⟩
      refine ⟨tl, L, W, D', a, _, v2, p2, Dm, kvs, e, rfl, hN2, h2.same t02, s2 _ _ ha1, hkn, he.mono le1, by omega, by omega, fun H3 f3 hN3 => ?_⟩
      have t03 : SameT H H3 := SameT.trans t02 (hN2.co.tups f3)
      refine q6 _ _ ?_
      clear q6 R6
      first | refine wV rfl ?_ | refine ⟨_, rfl, ?_⟩
      first | refine wV rfl ?_ | refine ⟨_, rfl, ?_⟩
      first | refine wV rfl ?_ | refine ⟨_, rfl, ?_⟩
      first | refine wT0 rfl (id hN3.ob) rfl ?_ | refine ⟨_, rfl, tl, _, _, _, rfl, rfl, id hN3.ob, rfl, ?_⟩
      first | refine wV rfl ?_ | refine ⟨_, rfl, ?_⟩
      refine ⟨W, _, _, _, rfl, rfl, id hN3.co.wi, wd_at g2.ix, t, wd, [v1, v2], bs, bts, g, 2, _, rfl, t03 _ _ ht, hS, rfl, Paired.mapP hf fun _ _ z => z.mono t03, fun tb H4 bs' s4 e4 hf4 hl4 => ?_⟩
      first | refine wV rfl ?_ | refine ⟨_, rfl, ?_⟩
      first | refine wV rfl ?_ | refine ⟨_, rfl, ?_⟩
      refine ⟨l4 rfl, ?_⟩
      refine fun ti H5 s5 e5 => ?_
      refine ⟨l4 rfl, ?_⟩
      refine fun b H6 s6 e6 => ?_
      have s36 := s4.trans (s5.trans s6)
      have hin : ∀ i ∈ [(lay p1 e ns).2, (lay p2 e (lay p1 e ns).1).2], InN (lay p2 e (lay p1 e ns).1).1 i := fun i hi => by
        simp only [List.mem_cons, List.not_mem_nil, or_false] at hi
        rcases hi with rfl | rfl
        · exact g1.ix.mono le2
        · exact g2.ix
      refine ⟨tl, b, L, W, D', _, _, _, rfl, hN3.same s36, lawNode (is := [(lay p1 e ns).2, (lay p2 e (lay p1 e ns).1).2]) (ws := [(lay p1 e ns).2, (lay p2 e (lay p1 e ns).1).2].map (wdAt (lay p2 e (lay p1 e ns).1).1)) hS rfl e6 (s6 _ _ (s5 _ _ e4)) (Paired.mapP hf4 fun _ _ z => z.mono (s5.trans s6).t) hl4 (s6 _ _ e5), .node hS rfl hin, by omega, fun H7 f7 hN7 => ?_⟩
      exact k H7 (f1.trans ((Fr.of s2).trans (f3.trans ((Fr.of s36).trans f7)))) hN7
    · have szE : (PV.rounds x k0 p1 p2).sz = p1.sz + 1 + k0 * (p2.sz + 2) := rfl
      have g1 := lay_gr (pv := p1) he
      have hfirst := layW_gr (wd := "once") (bts := []) (g := w0) (is := [(lay p1 e ns).2]) (lay p1 e ns).1
      have gI : ∀ j, Gr ns (iter (turn (fun e' ns' => lay p2 e' ns') x e) j (layW "once" [] w0 [(lay p1 e ns).2] (lay p1 e ns).1)) (p1.sz + 1 + j * (p2.sz + 2)) := iter_gr (fun s hs hi => turn_gr (fun _ _ z => lay_gr (pv := p2) z) hs hi) he (g1.trans hfirst)
      have up1 := g1.up
      have le1 := g1.le
      refine hG (cut fun R1 q1 => ?_)
      clear hG
      first | refine wT0 rfl (id ht) rfl ?_ | refine ⟨_, rfl, t, _, _, _, rfl, rfl, id ht, rfl, ?_⟩
      refine q1 _ _ (cut fun R2 q2 => ?_)
      clear q1 R1
      first | refine wN rfl (by decide +kernel) ?_ | refine ⟨_, rfl, rfl, _, rfl, iteQ (by decide +kernel) ?_⟩
      refine q2 _ _ ?_
      clear q2 R2
      first | refine wY rfl (by decide +kernel) ?_ | refine ⟨_, rfl, rfl, _, rfl, iteP (by decide +kernel) ?_⟩
      refine (cut fun R3 q3 => ?_)
      first | refine wV rfl ?_ | refine ⟨_, rfl, ?_⟩
      refine ⟨l4 rfl, ?_⟩
      refine fun te H1 s1 e1 => ?_
      have hN1 := hN.same s1
      first | refine wV rfl ?_ | refine ⟨_, rfl, ?_⟩
      first | refine wT0 rfl (id (s1 _ _ ht)) rfl ?_ | refine ⟨_, rfl, t, _, _, _, rfl, rfl, id (s1 _ _ ht), rfl, ?_⟩
      first | refine wV rfl ?_ | refine ⟨_, rfl, ?_⟩
      refine ⟨tl, L, W, D', a, ns, v1, p1, Dm, kvs, e, rfl, hN1, hV1.same s1.t, s1 _ _ ha, hkn, he, by omega, by omega, ?_⟩
      refine fun H2 f2 hN2 => ?_
      have t12 := hN1.co.tups f2
      refine ⟨l4 rfl, ?_⟩
      refine fun ti H3 s3 e3 => ?_
      refine ⟨l4 rfl, ?_⟩
      refine fun b H3' s3' e3' => ?_
      have s33 := s3.trans s3'
      have one1 : ∀ {j : Int} {nn : NS}, InN nn j → ∀ i ∈ [j], InN nn i := fun hj i hi => by
        simp only [List.mem_cons, List.not_mem_nil, or_false] at hi
        subst hi
        exact hj
      refine ⟨tl, b, L, W, D', _, _, _, rfl, hN2.same s33, lawNode (n := 1) (wd := "once") (bts := []) (g := w0) (is := [(lay p1 e ns).2]) (ws := [(lay p1 e ns).2].map (wdAt (lay p1 e ns).1)) .once rfl e3' (s33 _ _ (t12 _ _ e1)) (bs := []) (by rw [show toldT _ _ _ = _ from if_neg (by decide +kernel)]; exact .nil) (by simp) (s3' _ _ e3), .node .once rfl (one1 g1.ix), by omega, fun H4 f4 hN4 => ?_⟩
      have f04 : Fr L W D' H H4 := (Fr.of s1).trans (f2.trans ((Fr.of s33).trans f4))
      refine q3 _ _ (cut fun R4 q4 => ?_)
      clear q3 R3
      obtain ⟨Pv, hPv⟩ : ∃ Pv : Nat → L2.St → Hp → Prop, Pv = fun j σ' H' => ∃ x5 x6 x7, σ' = [some (.ref tl), some (.ref t), some (.ref a), some (.str "rounds"), some (.int (iter (turn (fun e' ns' => lay p2 e' ns') x e) j (layW "once" [] w0 [(lay p1 e ns).2] (lay p1 e ns).1)).2), x5, x6, x7, none] ∧ Fr L W D' H H' ∧ LawAt P w H' tl L W D' (iter (turn (fun e' ns' => lay p2 e' ns') x e) j (layW "once" [] w0 [(lay p1 e ns).2] (lay p1 e ns).1)).1 := ⟨_, rfl⟩
      first | refine wT0 rfl (id (hN.co.tups f04 _ _ ht)) rfl ?_ | refine ⟨_, rfl, t, _, _, _, rfl, rfl, id (hN.co.tups f04 _ _ ht), rfl, ?_⟩
      first | refine wV rfl ?_ | refine ⟨_, rfl, ?_⟩
      refine ⟨by omega, by omega, ?_⟩
      refine for_range (lo := 0) (n := k0) Pv (by rw [hPv]; exact ⟨none, none, none, rfl, f04, hN4⟩) ?_ ?_
      · clear q4
        rintro j σ' H5 hj hPj
        rw [hPv] at hPj
        refine Classical.byContradiction fun hG => ?_
        obtain ⟨x5, x6, x7, rfl, f5, hN5⟩ := hPj
        refine hG (cut fun R5 q5 => ?_)
        clear hG
        have gj := gI j
        have hjk : (j + 1) * (p2.sz + 2) ≤ k0 * (p2.sz + 2) := Nat.mul_le_mul_right _ (by omega)
        have hjs : (j + 1) * (p2.sz + 2) = j * (p2.sz + 2) + (p2.sz + 2) := Nat.succ_mul _ _
        have gju := gj.up
        have gjl := gj.le
        have hst : iter (turn (fun e' ns' => lay p2 e' ns') x e) (j + 1) (layW "once" [] w0 [(lay p1 e ns).2] (lay p1 e ns).1) = turn (fun e' ns' => lay p2 e' ns') x e (iter (turn (fun e' ns' => lay p2 e' ns') x e) j (layW "once" [] w0 [(lay p1 e ns).2] (lay p1 e ns).1)) := rfl
        have hend : ∀ σ' H', (∃ x5 x6 x7, σ' = [some (.ref tl), some (.ref t), some (.ref a), some (.str "rounds"), some (.int (turn (fun e' ns' => lay p2 e' ns') x e (iter (turn (fun e' ns' => lay p2 e' ns') x e) j (layW "once" [] w0 [(lay p1 e ns).2] (lay p1 e ns).1))).2), x5, x6, x7, none] ∧ Fr L W D' H H' ∧ LawAt P w H' tl L W D' (turn (fun e' ns' => lay p2 e' ns') x e (iter (turn (fun e' ns' => lay p2 e' ns') x e) j (layW "once" [] w0 [(lay p1 e ns).2] (lay p1 e ns).1))).1) → Pv (j + 1) σ' H' := fun σ' H' z => by
          rw [hPv]
          exact z
        clear hst hPv gI hfirst f04 hN4
        generalize iter (turn (fun e' ns' => lay p2 e' ns') x e) j (layW "once" [] w0 [(lay p1 e ns).2] (lay p1 e ns).1) = sj at hN5 gj gju gjl hend ⊢
        unfold turn at hend
        dsimp only at hend
        have t05 := hN.co.tups f5
        have ha5 := hN.dk f5 ha
        first | refine wV rfl ?_ | refine ⟨_, rfl, ?_⟩
        refine ⟨a, kvs, rfl, ha5, ?_⟩
        refine fun a6 ha6 => ?_
        have s6 : Same H5 (upd H5 a6 (.dK kvs)) := (Same.refl H5).upd ha6
        have e6 : (upd H5 a6 (.dK kvs)) a6 = some (.dK kvs) := upd_same
        have hl6 := length_putK kvs (.inr x) (V.int sj.2)
        refine q5 _ _ (cut fun R6 q6 => ?_)
        clear q5 R5
        first | refine wV rfl ?_ | refine ⟨_, rfl, ?_⟩
        first | refine wV rfl ?_ | refine ⟨_, rfl, ?_⟩
        first | refine wT0 rfl (id (s6 _ _ (t05 _ _ ht))) rfl ?_ | refine ⟨_, rfl, t, _, _, _, rfl, rfl, id (s6 _ _ (t05 _ _ ht)), rfl, ?_⟩
        refine ⟨a6, _, rfl, DPut.k (k := .inr x) e6 (small1000 (by omega)), ?_⟩
        have s6' : Same H5 (upd (upd H5 a6 (.dK kvs)) a6 (.dK (putK kvs (.inr x) (.int sj.2)))) := fun c u hc => by
          rw [upd_ne (ne_of_none hc ha6)]
          exact s6 _ _ hc
        have e6' : (upd (upd H5 a6 (.dK kvs)) a6 (.dK (putK kvs (.inr x) (.int sj.2)))) a6 = some (.dK (putK kvs (.inr x) (.int sj.2))) := upd_same
        generalize upd (upd H5 a6 (.dK kvs)) a6 (.dK (putK kvs (.inr x) (.int sj.2))) = H6 at s6' e6' ⊢
        have g2 := lay_gr (pv := p2) ((he.mono gjl).put (x := x) gj.ix)
        have g2u := g2.up
        have g2l := g2.le
        refine q6 _ _ (cut fun R7 q7 => ?_)
        clear q6 R6
        first | refine wV rfl ?_ | refine ⟨_, rfl, ?_⟩
        first | refine wT0 rfl (id (s6' _ _ (t05 _ _ ht))) rfl ?_ | refine ⟨_, rfl, t, _, _, _, rfl, rfl, id (s6' _ _ (t05 _ _ ht)), rfl, ?_⟩
        first | refine wV rfl ?_ | refine ⟨_, rfl, ?_⟩
        refine ⟨tl, L, W, D', a6, sj.1, v2, p2, _, _, eput e x sj.2, rfl, hN5.same s6', hV2.same (SameT.trans t05 s6'.t), e6', hkn.put x _, (he.mono gjl).put gj.ix, by omega, by omega, fun H7 f7 hN7 => ?_⟩
        refine q7 _ _ ?_
        clear q7 R7
        generalize lay p2 (eput e x sj.2) sj.1 = m2 at hN7 g2 g2u g2l hend ⊢
        first | refine wV rfl ?_ | refine ⟨_, rfl, ?_⟩
        refine ⟨l4 rfl, ?_⟩
        refine fun tb1 H8 s8 e8 => ?_
        first | refine wV rfl ?_ | refine ⟨_, rfl, ?_⟩
        refine ⟨l4 rfl, ?_⟩
        refine fun tb2 H9 s9 e9 => ?_
        first | refine wV rfl ?_ | refine ⟨_, rfl, ?_⟩
        first | refine wV rfl ?_ | refine ⟨_, rfl, ?_⟩
        refine ⟨l4 rfl, ?_⟩
        refine fun ti2 HA sA eA => ?_
        refine ⟨l4 rfl, ?_⟩
        refine fun b2 HA' sA' eA' => ?_
        have s7A := s8.trans (s9.trans (sA.trans sA'))
        have sAA := sA.trans sA'
        have gp := layW_gr (wd := "pour") (bts := []) (g := w0) (is := [sj.2, m2.2]) m2.1
        have gpu := gp.up
        have gpl := gp.le
        have hin2 : ∀ i ∈ [sj.2, m2.2], InN m2.1 i := fun i hi => by
          simp only [List.mem_cons, List.not_mem_nil, or_false] at hi
          rcases hi with rfl | rfl
          · exact gj.ix.mono g2l
          · exact g2.ix
        refine ⟨tl, b2, L, W, D', _, _, _, rfl, hN7.same s7A, lawNode (n := 2) (wd := "pour") (bts := []) (g := w0) (is := [sj.2, m2.2]) (ws := [sj.2, m2.2].map (wdAt m2.1)) (.alike (.inl rfl)) rfl eA' (sAA _ _ e9) (bs := []) (by rw [show toldT _ _ _ = _ from if_neg (by decide +kernel)]; exact .nil) (by simp) (sA' _ _ eA), .node (.alike (.inl rfl)) rfl hin2, by omega, fun HB fB hNB => ?_⟩
        generalize hq : putN m2.1 (nodeT "pour" (toldT "pour" [] ([sj.2, m2.2].map (wdAt m2.1))) [sj.2, m2.2]) (w0 ([sj.2, m2.2].map (wdAt m2.1))) = pp at hNB ⊢
        rw [show layW "pour" [] w0 [sj.2, m2.2] m2.1 = pp from hq] at gp gpu gpl hend
        clear hq
        refine ⟨l4 rfl, ?_⟩
        refine fun ti1 HC sC eC => ?_
        refine ⟨l4 rfl, ?_⟩
        refine fun b1 HC' sC' eC' => ?_
        have sCC := sC.trans sC'
        have tAB := (hN7.same s7A).co.tups fB
        refine ⟨tl, b1, L, W, D', _, _, _, rfl, hNB.same sCC, lawNode (n := 1) (wd := "once") (bts := []) (g := w0) (is := [pp.2]) (ws := [pp.2].map (wdAt pp.1)) .once rfl eC' (sCC _ _ (tAB _ _ ((s9.trans sAA) _ _ e8))) (bs := []) (by rw [show toldT _ _ _ = _ from if_neg (by decide +kernel)]; exact .nil) (by simp) (sC' _ _ eC), .node .once rfl (one1 gp.ix), (show pp.1.length < 100000 by omega), fun HD fD hND => ?_⟩
        refine hend _ _ ?_
        refine ⟨_, _, _, rfl, f5.trans ((Fr.of s6').trans (f7.trans ((Fr.of s7A).trans (fB.trans ((Fr.of sCC).trans fD))))), hND⟩
      · rintro σ' H5 hPj
        rw [hPv] at hPj
        obtain ⟨x5, x6, x7, rfl, f5, hN5⟩ := hPj
        exact q4 _ _ ⟨_, rfl, k H5 f5 hN5⟩
theorem okLaids {f fP fB fW : Addr} {fd fdP fdB fdW : FuncData} (X : Txt mg) (D : Fn K mg "_law_laid" sLaid psLaid f fd) (DP : Fn K mg "_law_put" sPutL psPutL fP fdP) (DB : Fn K mg "_law_besides" sBes psBes fB fdB) (DW : Fn K mg "_law_wide" sWideL psWideL fW fdW) : ∀ n, FnOk P w K mg base CX0 (n + 2) f fd psLaid (spLaid P w n)
  | 0 => ⟨fun vs H Q E ⟨_, _, _, _, _, _, _, _, _, _, _, _, _, h, _⟩ => h.elim, fun A outer s H args us vs Q E _ _ _ _ ⟨_, _, _, _, _, _, _, _, _, _, _, _, _, h, _⟩ => h.elim⟩
  | n + 1 => okLaid n X D DP DB DW (okLaids X D DP DB DW n)
end
end VK
namespace VK
open PySem PySem.Spec PyProof.Rows L2
section
variable {P : Program} {w : World} {K : PySem.W.Frag} {mg : Str → Option Value} {base : Heap}
def envOf (f : Nat → Int) : List Str → Nat → Env
  | [], _ => fun _ => none
  | z :: zs, k => fun x => if x = z then some (f k, 1) else envOf f zs (k + 1) x
theorem envOf_at {f : Nat → Int} {z : Str} : ∀ {zs : List Str} {j k : Nat}, zs.Nodup → zs[j]? = some z → envOf f zs k z = some (f (k + j), 1)
  | [], _, _, _, h => by simp at h
  | y :: zs, 0, k, _, h => by
    simp at h
    subst h
    exact if_pos rfl
  | y :: zs, j + 1, k, hn, h => by
    have h' : zs[j]? = some z := by simpa using h
    have hne : z ≠ y := fun e => (List.nodup_cons.mp hn).1 (e ▸ List.mem_of_getElem? h')
    have ih := envOf_at (f := f) (k := k + 1) (List.nodup_cons.mp hn).2 h'
    rw [show k + 1 + j = k + (j + 1) by omega] at ih
    exact (if_neg hne).trans ih
theorem envOf_some {f : Nat → Int} {x : Str} {p : Int × Int} : ∀ {zs : List Str} {k : Nat}, envOf f zs k x = some p → x ∈ zs ∧ p.2 = 1
  | [], _, h => by cases h
  | z :: zs, k, h => by
    unfold envOf at h
    split at h
    · rename_i e
      cases h
      exact ⟨e ▸ .head _, rfl⟩
    · obtain ⟨h1, h2⟩ := envOf_some h
      exact ⟨.tail _ h1, h2⟩
theorem same_fr {H1 H H' : Hp} {L W D : Addr} (s : Same H1 H) (f : Fr L W D H H') (hL : H1 L = none) (hW : H1 W = none) (hD : H1 D = none) : Same H1 H' := fun b o e => f b o (s b o e) (ne_of_none e hL) (ne_of_none e hW) (ne_of_none e hD)
theorem NetAt.apart {P : Program} {w : World} {C : Addr} {H H' : Hp} {p L W D L' W' D' : Addr} {ns ns' : NS} (a : NetAt P w C H p L W D ns) (c' : Core P w H L' W' D' ns') (f : Fr L' W' D' H H') (a1 : L ≠ L') (a2 : L ≠ W') (a3 : W ≠ L') (a4 : W ≠ W') (a5 : D ≠ D') : NetAt P w C H' p L W D ns := by
  obtain ⟨⟨dx, h⟩, c⟩ := a
  obtain ⟨vs, hL, _⟩ := c'.la
  obtain ⟨φ, hD⟩ := c'.dEx
  exact ⟨⟨dx, f _ _ h (ne_of h hL fun z => nomatch z) (ne_of h c'.wi fun z => nomatch z) (ne_of h hD fun z => nomatch z)⟩, c.apart c' f a1 a2 a3 a4 a5⟩
theorem LawAt.apart {P : Program} {w : World} {H H' : Hp} {tl L W D L' W' D' : Addr} {ns ns' : NS} (a : LawAt P w H tl L' W' D' ns) (c' : Core P w H L W D ns') (f : Fr L W D H H') (a1 : L ≠ L') (a2 : L ≠ W') (a3 : W ≠ L') (a4 : W ≠ W') (a5 : D ≠ D') : LawAt P w H' tl L' W' D' ns := ⟨c'.tups f _ _ a.ob, a.co.apart c' f a1.symm a3.symm a2.symm a4.symm a5.symm⟩
def c4 (j : Nat) : Nat := [2, 2, 3, 4].getD j 0
theorem all4 : ∀ k : Fin 4, atI [V.int 2, .int 2, .int 3, .int 4] (k.val : Int) = some (.int ((c4 k.val : Nat) : Int)) := by decide +kernel
def CEnv (zs : List Str) (z0 : Str) (E0 : Env) (k : Nat) : Env → Prop := fun E => (∀ z ∈ zs, E z = E0 z) ∧ ∀ j, j < k → E (fresh z0 j) = none ∧ E (fresh z0 j ++ "i") = none
theorem len_i : (Str.ofString "i").length = 1 := by decide +kernel
theorem newC {zs : List Str} {z0 : Str} {E0 : Env} {k : Nat} (hk : k < 676) (hz : ∀ z ∈ zs, z.length = z0.length) : NewC (CEnv zs z0 E0 k) (CEnv zs z0 E0 (k + 1)) (fresh z0 k) where
  sub := fun E h => ⟨h.1, fun j hj => h.2 j (by omega)⟩
  non := fun E h => (h.2 k (by omega)).1
  put := fun E p h => by
    refine ⟨fun z hz' => ?_, fun j hj => ⟨?_, ?_⟩⟩
    · have hne : z ≠ fresh z0 k := fun e => by
        have := congrArg Str.length e
        rw [len_fresh, hz z hz'] at this
        omega
      exact (if_neg hne).trans (h.1 z hz')
    · have hne : fresh z0 j ≠ fresh z0 k := fun e => by
        have := fresh_ne (by omega) hk e
        omega
      exact (if_neg hne).trans (h.2 j (by omega)).1
    · have hne : fresh z0 j ++ "i" ≠ fresh z0 k := fun e => by
        have := congrArg Str.length e
        rw [len_cat, len_fresh, len_fresh, len_i] at this
        omega
      exact (if_neg hne).trans (h.2 j (by omega)).2
  xi := fun E p h => by
    have hne : fresh z0 k ++ "i" ≠ fresh z0 k := fun e => (x_xi _) e.symm
    exact (if_neg hne).trans (h.2 k (by omega)).2
theorem pick4 {ys : List V} (hl : ys.length = 4) (c : Int) : ∃ y, atI ys (c % 4) = some y ∧ y ∈ ys := by
  have h0 := Int.emod_nonneg c (show (4 : Int) ≠ 0 by decide)
  have h1 := Int.emod_lt_of_pos c (show (0 : Int) < 4 by decide)
  obtain ⟨k, hk⟩ : ∃ k : Nat, c % 4 = (k : Int) := ⟨(c % 4).toNat, by omega⟩
  have hlt : k < ys.length := by omega
  exact ⟨ys[k], by rw [hk]; exact atI_nat (List.getElem?_eq_getElem hlt), List.getElem_mem hlt⟩
/-- a record of at most 200 nodes -/
def RcB (H : Hp) (C : Env → Prop) (r : Addr) : Prop := ∃ w s d, RcS H C r w s d ∧ s ≤ 200 ∧ d ≤ 26
theorem RcB.same {H H' : Hp} (e : SameT H H') {C : Env → Prop} {r : Addr} : RcB H C r → RcB H' C r := fun ⟨w, s, d, h1, h2, h3⟩ => ⟨w, s, d, h1.same e, h2, h3⟩
theorem RcB.imp {H : Hp} {C C' : Env → Prop} {r : Addr} (f : ∀ E, C' E → C E) : RcB H C r → RcB H C' r := fun ⟨w, s, d, h1, h2, h3⟩ => ⟨w, s, d, h1.imp f, h2, h3⟩
theorem Knows.imp {kvs : List (Key × V)} {D D' : Str → Prop} {e : Str → Int} (h : Knows kvs D e) (f : ∀ x, D' x → D x) : Knows kvs D' e := fun x hx => h x (f x hx)
abbrev sLaw : Stmt := top 30
def spLaw (K : PySem.W.Frag) : Sp := fun vs H Q _ => ∃ (a : Addr) (ns : List Int), vs = [.ref a] ∧ SqL K H a (ns.map V.int) ∧ ns.length ≤ 63 ∧ ∀ H', Q (.bl true) H'
abbrev nLaw : List Str := ["_law_script", "_law_names_here", "_law_tables", "_law_numbers", "_law_net", "_law_laid_here", "_law_j", "_law_wide_here", "_law_now", "_law_kept", "_law_k", "_law_cell", "_law_others", "_law_made", "_law_meant", "_law_found", "_law_due"]
theorem scLaw : FnScope nLaw ["_law_script"] (defScope sLaw) := ⟨rfl, rfl, rfl, by decide +kernel, rfl, by decide +kernel, by decide +kernel⟩
end
end VK
namespace VK
open PySem PySem.Spec PyProof.Rows L2
section
variable {P : Program} {w : World} {K : PySem.W.Frag} {mg : Str → Option Value} {base : Heap}
theorem ne_dn {P : Program} {w : World} {H : Hp} {L W D d : Addr} {ns : NS} {kvs : List (Key × V)} (c : Core P w H L W D ns) (h : H d = some (.dK kvs)) : d ≠ L ∧ d ≠ W ∧ d ≠ D := by
  obtain ⟨vs, hL, _⟩ := c.la
  obtain ⟨φ, hD⟩ := c.dEx
  exact ⟨ne_of h hL (fun z => nomatch z), ne_of h c.wi (fun z => nomatch z), ne_of h hD (fun z => nomatch z)⟩
theorem _root_.L2.Core.updD {P : Program} {w : World} {H : Hp} {L W D d : Addr} {ns : NS} {kvs kvs' : List (Key × V)} (c : Core P w H L W D ns) (h : H d = some (.dK kvs)) : Core P w (upd H d (.dK kvs')) L W D ns := by
  obtain ⟨n1, n2, n3⟩ := ne_dn c h
  have ts := SameT.updD (zs := kvs') h
  obtain ⟨⟨vs, h1, h2⟩, h3, h4, h5⟩ := c
  exact ⟨⟨vs, by rw [upd_ne n1.symm]; exact h1, Paired.mapP h2 fun _ _ z => z.mono ts⟩, by rw [upd_ne n2.symm]; exact h3, h4.same ts (by rw [upd_ne n3.symm]), h5⟩
theorem LawAt.out {P : Program} {w : World} {H : Hp} {tl L W D : Addr} {ns : NS} (a : LawAt P w H tl L W D ns) {l : Addr} (h : H l = none) : l ≠ L ∧ l ≠ W ∧ l ≠ D := by
  obtain ⟨vs, hL, _⟩ := a.co.la
  obtain ⟨φ, hD⟩ := a.co.dEx
  exact ⟨(ne_of_none hL h).symm, (ne_of_none a.co.wi h).symm, (ne_of_none hD h).symm⟩
theorem okLaw {f C f9 fB fM fA fF fN fK fP fD fBs fWd fyR fyT fyO fyF fyN fyD fyA fyE fyG fzV fzB fzO fzW fI fT fL fR fLW fPN fO : Addr} {fd fd9 fdB fdM fdA fdF fdN fdK fdP fdD fdBs fdWd fdyR fdyT fdyO fdyF fdyN fdyD fdyA fdyE fdyG fdzV fdzB fdzO fdzW fdI fdT fdL fdR fdLW fdPN fdO : FuncData} (X : Txt mg) (GLB : Glb K mg) (NC : NetC K mg C) (M : Mk K C fI) (D : Fn K mg "law" sLaw ["_law_script"] f fd) (D9 : Fn K mg "_law_cell_at" sCellAt psCellAt f9 fd9) (DB : Fn K mg "_law_whole" sWhole psWhole fB fdB) (DM : Fn K mg "_law_mixed" sMixed psMixed fM fdM) (DA : Fn K mg "_law_names" sNames psNames fA fdA) (DF : Fn K mg "_law_fresh" sFresh psFresh fF fdF) (DN : Fn K mg "_law_next" sNext psNext fN fdN) (DK : Fn K mg "_law_alike" sAlike psAlike fK fdK) (DP : Fn K mg "_law_put" sPutL psPutL fP fdP) (DD : Fn K mg "_law_laid" sLaid psLaid fD fdD) (DBs : Fn K mg "_law_besides" sBes psBes fBs fdBs) (DWd : Fn K mg "_law_wide" sWideL psWideL fWd fdWd) (DyR : Fn K mg "_law_rounds" sRnd psRnd fyR fdyR) (DyT : Fn K mg "_law_two" sTwo psTwo fyT fdyT) (DyO : Fn K mg "_law_one" sOne psOne fyO fdyO) (DyF : Fn K mg "_law_fitted" sFit psFit fyF fdyF) (DyN : Fn K mg "_law_once" sOnceR psOnceR fyN fdyN) (DyD : Fn K mg "_law_digits" sDigits psDigits fyD fdyD) (DyA : Fn K mg "_law_asked" sAsked psTerm fyA fdyA) (DyE : Fn K mg "_law_term" sTerm psTerm fyE fdyE) (DyG : Fn K mg "_law_grouped" sGrp psGrp fyG fdyG) (DzV : Fn K mg "views_in" sViewsIn psV fzV fdzV) (DzB : Fn K mg "besides_of" sBesides psV fzB fdzB) (DzO : Fn K mg "width_over" sWidthO psWidthO fzO fdzO) (DzW : Fn K mg "with_name" sWithN psWithN fzW fdzW) (DI : Mf K C "__init__" "Net.__init__" sNInit psNInit fI fdI) (DT : Mf K C "table" "Net.table" sTableN psTableN fT fdT) (DL : Mf K C "lay" "Net.lay" sLay psLay fL fdL) (DR : Mf K C "lay_rounds" "Net.lay_rounds" sLayR psLay fR fdR) (DLW : Mf K C "lay_word" "Net.lay_word" sLayW psLayW fLW fdLW) (DPN : Mf K C "put_node" "Net.put_node" sPutN psPutN fPN fdPN) (DO : Mf K C "nodes" "Net.nodes" sNodes psNInit fO fdO) : FnOk P w K mg base CX0 65 f fd ["_law_script"] (spLaw K) := by
  have G9 : FnOk P w K mg base CX0 64 f9 fd9 psCellAt (spCellAt K) := (okCellAt D9 X).mono (by decide)
  have GB : FnOk P w K mg base CX0 64 fB fdB psWhole spWhole := (okWhole DB X).mono (by decide)
  have GM : FnOk P w K mg base CX0 64 fM fdM psMixed spMixed := (okMixed DM).mono (by decide)
  have GA : FnOk P w K mg base CX0 64 fA fdA psNames spNames := (okNames DA X DM DyD).mono (by decide)
  have GF : FnOk P w K mg base CX0 64 fF fdF psFresh spFresh := (okFresh DF).mono (by decide)
  have GN : FnOk P w K mg base CX0 64 fN fdN psNext spNext := (okNext DN X DyR DyT DyO DyF DyN DyD DyA DyE DyG).mono (by decide)
  have GK : FnOk P w K mg base CX0 64 fK fdK psAlike (spAlike 10) := (okAlikes X DK DB 10).mono (by decide)
  have GP : FnOk P w K mg base CX0 64 fP fdP psPutL (spPutL P w) := (okPutL X DP DWd).mono (by decide)
  have GD : FnOk P w K mg base CX0 64 fD fdD psLaid (spLaid P w 27) := (okLaids X DD DP DBs DWd 27).mono (by decide)
  have GT : FnOk P w K mg base CX0 64 fT fdT psTableN (spTableN P w C) := (okTableN NC X DT DPN).mono (by decide)
  have GL : FnOk P w K mg base CX0 64 fL fdL psLay (spLay P w C 27) := (okLays NC X GLB DL DR DLW DzW DzV DzB (okLayW NC X GLB DLW DPN DzO) 27).mono (by decide)
  have GO : FnOk P w K mg base CX0 64 fO fdO psNInit (spNodes P w C) := (okNodes NC X DO).mono (by decide)
  have GI : FnOk P w K mg base CX0 63 fI fdI psNInit (spNInit P w C) := (okNInit NC DI).mono (by decide)
  refine D.F.ok (k := 64) scLaw (fun vs H Q E h => ?_) (fun cdv A outer s H vs Q E hr h => ?_)
  · obtain ⟨a, ns, rfl, _⟩ := h
    rfl
  · refine Classical.byContradiction fun hG0 => ?_
    obtain ⟨a, ns, rfl, hS, hlen, k⟩ := h
    refine hG0 ?_
    clear hG0
    have nd := scLaw.nd
    refine ⟨_, (@pss_cons _ _ _ _ _ (@ps_set _ _ (1) _ _ _ _ nd rfl (Or.inl rfl) (@pe_call _ _ _ _ _ _ _ _ _ _ _ _ _ _ _ _ GA hr rfl DA.m DA.F.kp DA.b .nil pass0 (@pa_cons _ _ _ _ _ (@pe_call _ _ _ _ _ _ _ _ _ _ _ _ _ _ _ _ G9 hr rfl D9.m D9.F.kp D9.b .nil pass0 (@pa_cons _ _ _ _ _ (pv 0) (@pa_cons _ _ _ _ _ pe_int pa_nil (by rfl)) (by rfl)) (by decide) (by rfl) (by rfl)) pa_nil (by rfl)) (by decide) (by rfl) (by rfl)) (by rfl) (by first | exact .inl rfl | exact .inr rfl | assumption)) (@pss_cons _ _ _ _ _ (@ps_set _ _ (2) _ _ _ _ nd rfl (Or.inl rfl) (@pe_lst _ _ _ _ pa_nil) (by rfl) (by first | exact .inl rfl | exact .inr rfl | assumption)) (@pss_cons _ _ _ _ _ (@ps_set _ _ (3) _ _ _ _ nd rfl (Or.inl rfl) pe_dnewK (by rfl) (by first | exact .inl rfl | exact .inr rfl | assumption)) (@pss_cons _ _ _ _ _ (@ps_set _ _ (4) _ _ _ _ nd rfl (Or.inl rfl) (@pe_make0 _ _ _ _ _ _ _ _ _ _ _ _ _ _ M GI hr rfl NC.mgC DI.b .nil pass0 (by decide)) (by rfl) (by first | exact .inl rfl | exact .inr rfl | assumption)) (@pss_cons _ _ _ _ _ (@ps_set _ _ (5) _ _ _ _ nd rfl (Or.inl rfl) (@pe_tupS _ _ _ _ _ (@pa_cons _ _ _ _ _ pe_dnewR (@pa_cons _ _ _ _ _ (@pe_lst _ _ _ _ pa_nil) (@pa_cons _ _ _ _ _ (@pe_lst _ _ _ _ pa_nil) pa_nil (by rfl)) (by rfl)) (by rfl))) (by rfl) (by first | exact .inl rfl | exact .inr rfl | assumption)) (@pss_cons _ _ _ _ _ (@ps_for _ _ _ _ _ _ _ _ PassesOwn.never rfl (@pi_range1 _ _ _ _ _ _ rfl X.range (@pa_cons _ _ _ _ _ pe_int pa_nil (by rfl)) (by rfl)) (@pg_name _ _ (6) _ nd rfl (Or.inl rfl) (by first | exact .inl rfl | exact .inr rfl | assumption)) (@pss_cons _ _ _ _ _ (@ps_set _ _ (7) _ _ _ _ nd rfl (Or.inl rfl) (@pe_op _ _ _ _ _ _ _ _ op_add pe_int (@pe_op _ _ _ _ _ _ _ _ op_mod (@pe_call _ _ _ _ _ _ _ _ _ _ _ _ _ _ _ _ G9 hr rfl D9.m D9.F.kp D9.b .nil pass0 (@pa_cons _ _ _ _ _ (pv 0) (@pa_cons _ _ _ _ _ (@pe_ix _ _ _ _ _ _ _ ixL0 (@pe_lstS _ _ _ _ (@pa_cons _ _ _ _ _ pe_int (@pa_cons _ _ _ _ _ pe_int (@pa_cons _ _ _ _ _ pe_int (@pa_cons _ _ _ _ _ pe_int pa_nil (by rfl)) (by rfl)) (by rfl)) (by rfl))) (pv 6) (fun _ _ => rfl)) pa_nil (by rfl)) (by rfl)) (by decide) (by rfl) (by rfl)) pe_int)) (by rfl) (by first | exact .inl rfl | exact .inr rfl | assumption)) (@pss_cons _ _ _ _ _ (@ps_expr _ _ _ _ (@pe_bm _ _ _ _ _ _ _ _ _ _ _ _ PySem.F.plainAttrs_list PySem.F.slot_list_append PySem.F.type_list_append mt_append (pv 2) (@pa_cons _ _ _ _ _ (@pe_tupS _ _ _ _ _ (@pa_cons _ _ _ _ _ (@pe_tupS _ _ _ _ _ (@pa_cons _ _ _ _ _ pe_str (@pa_cons _ _ _ _ _ (@pe_ix _ _ _ _ _ _ _ ixL0 (pv 1) (pv 6) (fun _ _ => rfl)) pa_nil (by rfl)) (by rfl))) (@pa_cons _ _ _ _ _ (pv 7) (@pa_cons _ _ _ _ _ pe_int (@pa_cons _ _ _ _ _ pe_int (@pa_cons _ _ _ _ _ pe_int pa_nil (by rfl)) (by rfl)) (by rfl)) (by rfl)) (by rfl))) pa_nil (by rfl)) (by rfl) (by rfl) (by rfl) (by rfl) (by rfl)) (by rfl)) (@pss_cons _ _ _ _ _ (@ps_dput _ _ _ _ _ _ _ _ _ (hu_of hr) (pv 3) (@pe_ix _ _ _ _ _ _ _ ixL0 (pv 1) (pv 6) (fun _ _ => rfl)) (@pe_meth _ _ _ _ _ _ _ _ _ _ _ _ _ _ _ _ _ _ _ _ (pv 4) NC.cl DT.m GT hr DT.b .nil pass0 (@pa_cons _ _ _ _ _ (@pe_ix _ _ _ _ _ _ _ ixL0 (pv 1) (pv 6) (fun _ _ => rfl)) (@pa_cons _ _ _ _ _ (pv 7) pa_nil (by rfl)) (by rfl)) (by rfl) (by rfl) (by rfl)) rfl) (@pss_one _ _ _ (@ps_if _ _ _ _ _ _ _ _ (@pt_cmpR _ _ _ _ _ _ _ _ op_ne (@pe_call _ _ _ _ _ _ _ _ _ _ _ _ _ _ _ _ GP hr rfl DP.m DP.F.kp DP.b .nil pass0 (@pa_cons _ _ _ _ _ (pv 5) (@pa_cons _ _ _ _ _ (@pe_tupS _ _ _ _ _ (@pa_cons _ _ _ _ _ pe_str (@pa_cons _ _ _ _ _ (@pe_tupS _ _ _ _ _ (@pa_cons _ _ _ _ _ (@pe_ix _ _ _ _ _ _ _ ixL0 (pv 1) (pv 6) (fun _ _ => rfl)) (@pa_cons _ _ _ _ _ (pv 7) pa_nil (by rfl)) (by rfl))) (@pa_cons _ _ _ _ _ (@pe_tupS _ _ _ _ _ pa_nil) pa_nil (by rfl)) (by rfl)) (by rfl))) pa_nil (by rfl)) (by rfl)) (by decide) (by rfl) (by rfl)) (@pe_dget _ _ _ _ _ _ (hu_of hr) (pv 3) (@pe_ix _ _ _ _ _ _ _ ixL0 (pv 1) (pv 6) (fun _ _ => rfl)) (fun _ _ => rfl)) (nomark _)) (@pss_one _ _ _ (@ps_ret _ _ _ _ pe_bl)) pss_nil))))) (by intro _; rfl)) (@pss_cons _ _ _ _ _ (@ps_set _ _ (8) _ _ _ _ nd rfl (Or.inl rfl) (@pe_ix _ _ _ _ _ _ _ ixL0 (pv 2) (@pe_op _ _ _ _ _ _ _ _ op_mod (@pe_call _ _ _ _ _ _ _ _ _ _ _ _ _ _ _ _ G9 hr rfl D9.m D9.F.kp D9.b .nil pass0 (@pa_cons _ _ _ _ _ (pv 0) (@pa_cons _ _ _ _ _ pe_int pa_nil (by rfl)) (by rfl)) (by decide) (by rfl) (by rfl)) pe_int) (fun _ _ => rfl)) (by rfl) (by first | exact .inl rfl | exact .inr rfl | assumption)) (@pss_cons _ _ _ _ _ (@ps_set _ _ (9) _ _ _ _ nd rfl (Or.inl rfl) (@pe_ix _ _ _ _ _ _ _ ixL0 (pv 2) (@pe_op _ _ _ _ _ _ _ _ op_mod (@pe_op _ _ _ _ _ _ _ _ op_fdiv (@pe_call _ _ _ _ _ _ _ _ _ _ _ _ _ _ _ _ G9 hr rfl D9.m D9.F.kp D9.b .nil pass0 (@pa_cons _ _ _ _ _ (pv 0) (@pa_cons _ _ _ _ _ pe_int pa_nil (by rfl)) (by rfl)) (by decide) (by rfl) (by rfl)) pe_int) pe_int) (fun _ _ => rfl)) (by rfl) (by first | exact .inl rfl | exact .inr rfl | assumption)) (@pss_cons _ _ _ _ _ (@ps_for _ _ _ _ _ _ _ _ PassesOwn.never rfl (@pi_range2 _ _ _ _ _ _ _ rfl X.range (@pa_cons _ _ _ _ _ pe_int (@pa_cons _ _ _ _ _ (@pe_callB _ _ _ _ _ _ _ _ _ (call_min2 rfl) (by rfl) X.min b_min (@pa_cons _ _ _ _ _ (@pe_callB _ _ _ _ _ _ _ _ _ (lenK K) (by rfl) X.len b_len (@pa_cons _ _ _ _ _ (pv 0) pa_nil (by rfl)) (by decide) (by decide) (by rfl) (by rfl)) (@pa_cons _ _ _ _ _ pe_int pa_nil (by rfl)) (by rfl)) (by decide) (by decide) (by rfl) (by rfl)) pa_nil (by rfl)) (by rfl)) (by rfl) (by rfl)) (@pg_name _ _ (10) _ nd rfl (Or.inl rfl) (by first | exact .inl rfl | exact .inr rfl | assumption)) (@pss_cons _ _ _ _ _ (@ps_set _ _ (11) _ _ _ _ nd rfl (Or.inl rfl) (@pe_ix _ _ _ _ _ _ _ (ixL K) (pv 0) (pv 10) (fun _ _ => rfl)) (by rfl) (by first | exact .inl rfl | exact .inr rfl | assumption)) (@pss_consM _ _ _ _ _ (@ps_if _ _ _ _ _ _ _ _ (@pt_cmpR _ _ _ _ _ _ _ _ op_lt (@pe_op _ _ _ _ _ _ _ _ op_mod (pv 11) pe_int) pe_int (nomark _)) (@pss_cons _ _ _ _ _ (@ps_set _ _ (9) _ _ _ _ nd rfl (Or.inl rfl) (pv 8) (by rfl) (by first | exact .inl rfl | exact .inr rfl | assumption)) (@pss_one _ _ _ (@ps_set _ _ (8) _ _ _ _ nd rfl (Or.inl rfl) (@pe_ix _ _ _ _ _ _ _ ixL0 (pv 2) (@pe_op _ _ _ _ _ _ _ _ op_mod (@pe_op _ _ _ _ _ _ _ _ op_fdiv (pv 11) pe_int) pe_int) (fun _ _ => rfl)) (by rfl) (by first | exact .inl rfl | exact .inr rfl | assumption)))) (@pss_one _ _ _ (@ps_set _ _ (8) _ _ _ _ nd rfl (Or.inl rfl) (@pe_call _ _ _ _ _ _ _ _ _ _ _ _ _ _ _ _ GN hr rfl DN.m DN.F.kp DN.b .nil pass0 (@pa_cons _ _ _ _ _ (pv 11) (@pa_cons _ _ _ _ _ (@pe_call _ _ _ _ _ _ _ _ _ _ _ _ _ _ _ _ GM hr rfl DM.m DM.F.kp DM.b .nil pass0 (@pa_cons _ _ _ _ _ (@pe_op _ _ _ _ _ _ _ _ op_add (@pe_op _ _ _ _ _ _ _ _ op_mul pe_int (pv 11)) (pv 10)) pa_nil (by rfl)) (by decide) (by rfl) (by rfl)) (@pa_cons _ _ _ _ _ (pv 8) (@pa_cons _ _ _ _ _ (pv 9) (@pa_cons _ _ _ _ _ (@pe_call _ _ _ _ _ _ _ _ _ _ _ _ _ _ _ _ GF hr rfl DF.m DF.F.kp DF.b .nil pass0 (@pa_cons _ _ _ _ _ (pv 1) (@pa_cons _ _ _ _ _ (pv 10) pa_nil (by rfl)) (by rfl)) (by decide) (by rfl) (by rfl)) pa_nil (by rfl)) (by rfl)) (by rfl)) (by rfl)) (by rfl)) (by decide) (by rfl) (by rfl)) (by rfl) (by first | exact .inl rfl | exact .inr rfl | assumption)))) (@pss_one _ _ _ (@ps_if _ _ _ _ _ _ _ _ (PW.pt (@pw_or _ _ _ _ _ _ _ (@pt_cmpR _ _ _ _ _ _ _ _ op_gt (@pe_ix _ _ _ _ _ _ _ ixT0 (pv 8) pe_int (fun _ _ => rfl)) pe_int (nomark _)) (@pw_or _ _ _ _ _ _ _ (@pt_cmpR _ _ _ _ _ _ _ _ op_gt (@pe_ix _ _ _ _ _ _ _ ixT0 (pv 8) pe_int (fun _ _ => rfl)) pe_int (nomark _)) (@pw_or1 _ _ _ _ (@pt_cmpR _ _ _ _ _ _ _ _ op_gt (@pe_ix _ _ _ _ _ _ _ ixT0 (pv 8) pe_int (fun _ _ => rfl)) pe_int (nomark _)))))) (@pss_one _ _ _ (@ps_set _ _ (8) _ _ _ _ nd rfl (Or.inl rfl) (@pe_ix _ _ _ _ _ _ _ ixL0 (pv 2) (@pe_op _ _ _ _ _ _ _ _ op_mod (@pe_op _ _ _ _ _ _ _ _ op_fdiv (pv 11) pe_int) pe_int) (fun _ _ => rfl)) (by rfl) (by first | exact .inl rfl | exact .inr rfl | assumption))) pss_nil)))) (by intro _; rfl)) (@pss_cons _ _ _ _ _ (@ps_set _ _ (12) _ _ _ _ nd rfl (Or.inl rfl) (@pe_callTy _ _ _ _ _ _ _ _ _ call_dcopy rfl X.dict b_dict (@pa_cons _ _ _ _ _ (pv 3) pa_nil (by rfl)) (by decide) (by decide) (by rfl) (by rfl)) (by rfl) (by first | exact .inl rfl | exact .inr rfl | assumption)) (@pss_cons _ _ _ _ _ (@ps_dput _ _ _ _ _ _ _ _ _ (hu_of hr) (pv 12) (@pe_ix _ _ _ _ _ _ _ ixL0 (pv 1) pe_int (fun _ _ => rfl)) (@pe_dget _ _ _ _ _ _ (hu_of hr) (pv 3) (@pe_ix _ _ _ _ _ _ _ ixL0 (pv 1) pe_int (fun _ _ => rfl)) (fun _ _ => rfl)) rfl) (@pss_cons _ _ _ _ _ (@ps_dput _ _ _ _ _ _ _ _ _ (hu_of hr) (pv 12) (@pe_ix _ _ _ _ _ _ _ ixL0 (pv 1) pe_int (fun _ _ => rfl)) (@pe_dget _ _ _ _ _ _ (hu_of hr) (pv 3) (@pe_ix _ _ _ _ _ _ _ ixL0 (pv 1) pe_int (fun _ _ => rfl)) (fun _ _ => rfl)) rfl) (@pss_cons _ _ _ _ _ (@ps_for _ _ _ _ _ _ _ _ PassesOwn.never rfl (@pi_list _ _ _ _ (@pe_lst _ _ _ _ (@pa_cons _ _ _ _ _ (@pe_tupS _ _ _ _ _ (@pa_cons _ _ _ _ _ (pv 9) (@pa_cons _ _ _ _ _ (pv 3) pa_nil (by rfl)) (by rfl))) (@pa_cons _ _ _ _ _ (@pe_tupS _ _ _ _ _ (@pa_cons _ _ _ _ _ (pv 8) (@pa_cons _ _ _ _ _ (pv 3) pa_nil (by rfl)) (by rfl))) (@pa_cons _ _ _ _ _ (@pe_tupS _ _ _ _ _ (@pa_cons _ _ _ _ _ (pv 8) (@pa_cons _ _ _ _ _ (pv 12) pa_nil (by rfl)) (by rfl))) (@pa_cons _ _ _ _ _ (@pe_tupS _ _ _ _ _ (@pa_cons _ _ _ _ _ (pv 9) (@pa_cons _ _ _ _ _ (pv 12) pa_nil (by rfl)) (by rfl))) (@pa_cons _ _ _ _ _ (@pe_tupS _ _ _ _ _ (@pa_cons _ _ _ _ _ (pv 8) (@pa_cons _ _ _ _ _ (pv 3) pa_nil (by rfl)) (by rfl))) pa_nil (by rfl)) (by rfl)) (by rfl)) (by rfl)) (by rfl)))) (@pg_tup _ _ _ _ _ _ rfl (@pgs_cons _ _ _ _ _ (@pg_name _ _ (13) _ nd rfl (Or.inl rfl) (by first | exact .inl rfl | exact .inr rfl | assumption)) (@pgs_cons _ _ _ _ _ (@pg_name _ _ (14) _ nd rfl (Or.inl rfl) (by first | exact .inl rfl | exact .inr rfl | assumption)) pgs_nil (by rfl)) (by rfl)) (by rfl) (by rfl)) (@pss_cons _ _ _ _ _ (@ps_set _ _ (15) _ _ _ _ nd rfl (Or.inl rfl) (@pe_meth _ _ _ _ _ _ _ _ _ _ _ _ _ _ _ _ _ _ _ _ (pv 4) NC.cl DL.m GL hr DL.b .nil pass0 (@pa_cons _ _ _ _ _ (@pe_ix _ _ _ _ _ _ _ ixT0 (pv 13) pe_int (fun _ _ => rfl)) (@pa_cons _ _ _ _ _ (@pe_callTy _ _ _ _ _ _ _ _ _ call_dcopy rfl X.dict b_dict (@pa_cons _ _ _ _ _ (pv 14) pa_nil (by rfl)) (by decide) (by decide) (by rfl) (by rfl)) pa_nil (by rfl)) (by rfl)) (by rfl) (by rfl) (by rfl)) (by rfl) (by first | exact .inl rfl | exact .inr rfl | assumption)) (@pss_cons _ _ _ _ _ (@ps_set _ _ (16) _ _ _ _ nd rfl (Or.inl rfl) (@pe_call _ _ _ _ _ _ _ _ _ _ _ _ _ _ _ _ GD hr rfl DD.m DD.F.kp DD.b .nil pass0 (@pa_cons _ _ _ _ _ (pv 5) (@pa_cons _ _ _ _ _ (@pe_ix _ _ _ _ _ _ _ ixT0 (pv 13) pe_int (fun _ _ => rfl)) (@pa_cons _ _ _ _ _ (pv 14) pa_nil (by rfl)) (by rfl)) (by rfl)) (by decide) (by rfl) (by rfl)) (by rfl) (by first | exact .inl rfl | exact .inr rfl | assumption)) (@pss_one _ _ _ (@ps_if _ _ _ _ _ _ _ _ (PW.pt (@pw_or _ _ _ _ _ _ _ (@pt_not _ _ _ _ (@pt_val _ _ _ (@pe_call _ _ _ _ _ _ _ _ _ _ _ _ _ _ _ _ GB hr rfl DB.m DB.F.kp DB.b .nil pass0 (@pa_cons _ _ _ _ _ (pv 15) pa_nil (by rfl)) (by decide) (by rfl) (by rfl)) (by intro _; rfl))) (@pw_or _ _ _ _ _ _ _ (@pt_cmpR _ _ _ _ _ _ _ _ op_ne (pv 15) (pv 16) (nomark _)) (@pw_or1 _ _ _ _ (@pt_not _ _ _ _ (@pt_val _ _ _ (@pe_call _ _ _ _ _ _ _ _ _ _ _ _ _ _ _ _ GK hr rfl DK.m DK.F.kp DK.b .nil pass0 (@pa_cons _ _ _ _ _ (@pe_meth0 _ _ _ _ _ _ _ _ _ _ _ _ _ _ _ _ _ (pv 4) NC.cl DO.m GO hr DO.b .nil pass0 (by rfl)) (@pa_cons _ _ _ _ _ (@pe_ix _ _ _ _ _ _ _ ixT0 (pv 5) pe_int (fun _ _ => rfl)) pa_nil (by rfl)) (by rfl)) (by decide) (by rfl) (by rfl)) (by intro _; rfl))))))) (@pss_one _ _ _ (@ps_ret _ _ _ _ pe_bl)) pss_nil)))) (by intro _; rfl)) (@pss_one _ _ _ (@ps_ret _ _ _ _ pe_bl))))))))))))))), ?_⟩
    refine cut fun R1 q1 => ?_
    first | refine wV rfl ?_ | refine ⟨_, rfl, ?_⟩
    refine ⟨a, ns, 0, rfl, hS, _, rfl, fun ln H1 zs e1 hzs hln => ?_⟩
    have hS1 := e1.seq hS
    obtain ⟨hz4, hznd, Ln, hL1, hL5, hz⟩ := id hzs
    -- the list of the tables, the dict of the numbers
    refine q1 _ _ (cut fun R2 q2 => ?_)
    clear q1 R1
    refine ⟨Nat.zero_le _, ?_⟩
    refine fun lt hlt => ?_
    have f2 : Same H1 (upd H1 lt (.lst [])) := (Same.refl H1).upd hlt
    have g2 : (upd H1 lt (.lst [])) lt = some (.lst []) := upd_same
    generalize upd H1 lt (.lst []) = H2 at f2 g2 ⊢
    refine q2 _ _ (cut fun R3 q3 => ?_)
    clear q2 R2
    refine fun dn hdn2 => ?_
    have hdn : H1 dn = none := f2.free hdn2
    have f3 : Same H1 (upd H2 dn (.dK [])) := f2.trans ((Same.refl H2).upd hdn2)
    have g3 : (upd H2 dn (.dK [])) dn = some (.dK []) := upd_same
    have g3t : (upd H2 dn (.dK [])) lt = some (.lst []) := by rw [upd_ne (ne_of_none g2 hdn2)]; exact g2
    generalize upd H2 dn (.dK []) = H3 at f3 g3 g3t ⊢
    clear f2 g2 hdn2
    -- the net
    refine q3 _ _ (cut fun R4 q4 => ?_)
    clear q3 R3
    refine fun p dx hp hdx hpx => ⟨p, dx, rfl, upd_same, fun L W D' H4 hL4 hW4 hD4 nLp nWp nDp kp hN4 => ⟨rfl, ?_⟩⟩
    have s34 : Same H3 H4 := fun b o e => kp b o (by rw [upd_ne (ne_of_none e hp), upd_ne (ne_of_none e hdx)]; exact e) (ne_of_none e hp)
    have fr3 : ∀ l, (upd (upd H3 dx (.own p)) p (.ins C dx [])) l = none → H3 l = none := fun l h => by
      have n1 : l ≠ p := fun z => by rw [z, upd_same] at h; cases h
      have n2 : l ≠ dx := fun z => by rw [z, upd_ne hpx, upd_same] at h; cases h
      rw [upd_ne n1, upd_ne n2] at h
      exact h
    have hL3 := fr3 L hL4
    have hW3 := fr3 W hW4
    have hD3 := fr3 D' hD4
    have hL := f3.free hL3
    have hW := f3.free hW3
    have hD := f3.free hD3
    have ltL : lt ≠ L := ne_of_none g3t hL3
    have ltW : lt ≠ W := ne_of_none g3t hW3
    have f4 := f3.trans s34
    have g4 := s34 _ _ g3
    have g4t := s34 _ _ g3t
    clear fr3 hL4 hW4 hD4 kp s34 f3 g3 g3t hp hdx
    -- the law's own three
    refine q4 _ _ (cut fun R5 q5 => ?_)
    clear q4 R4
    refine fun E' oE hE4 hdE mE => ⟨Nat.zero_le _, fun L' hL5' => ⟨Nat.zero_le _, fun W' hW6' => ⟨l4 rfl, fun tl H8 s8 e8 => ?_⟩⟩⟩
    have s45 : Same H4 (upd H4 E' oE) := (Same.refl H4).upd hE4
    have hL4' : H4 L' = none := s45.free hL5'
    have s56 : Same (upd H4 E' oE) (upd (upd H4 E' oE) L' (.lst [])) := (Same.refl _).upd hL5'
    have hW5' : (upd H4 E' oE) W' = none := s56.free hW6'
    have hW4' : H4 W' = none := s45.free hW5'
    have s67 : Same (upd (upd H4 E' oE) L' (.lst [])) (upd (upd (upd H4 E' oE) L' (.lst [])) W' (.lst [])) := (Same.refl _).upd hW6'
    have nLE : L' ≠ E' := fun z => by rw [z, upd_same] at hL5'; cases hL5'
    have nWE : W' ≠ E' := fun z => by rw [z, upd_same] at hW5'; cases hW5'
    have nLW : L' ≠ W' := fun z => by rw [← z, upd_same] at hW6'; cases hW6'
    have hN8 : LawAt P w H8 tl L' W' E' [] := ⟨e8, ⟨⟨[], s8 _ _ (s67 _ _ upd_same), .nil⟩, s8 _ _ upd_same, hdE.same (fun _ _ e => s8 _ _ (s67 _ _ (s56 _ _ e))) (by rw [upd_same]; exact s8 _ _ (s67 _ _ (s56 _ _ upd_same))), nLW⟩⟩
    have s48 : Same H4 H8 := s45.trans (s56.trans (s67.trans s8))
    have hM8 := hN4.same s48
    have o4 := hN4.out hL4'
    have o5 := hN4.out hW4'
    have o6 := hN4.out hE4
    have a1 : L ≠ L' := o4.1.symm
    have a2 : L ≠ W' := o5.1.symm
    have a3 : W ≠ L' := o4.2.1.symm
    have a4 : W ≠ W' := o5.2.1.symm
    have a5 : D' ≠ E' := o6.2.2.symm
    have hL' := f4.free hL4'
    have hW' := f4.free hW4'
    have hE' := f4.free hE4
    have ltL' : lt ≠ L' := ne_of_none g4t hL4'
    have ltW' : lt ≠ W' := ne_of_none g4t hW4'
    have f8 := f4.trans s48
    have g8 := s48 _ _ g4
    have g8t := s48 _ _ g4t
    clear s45 s56 s67 s48 hdE mE hE4 hL5' hW6' hW5' hL4' hW4' f4 g4 g4t s8 e8 o4 o5 o6 hN4 nLE nWE nLW
    have n1 := fl_no L W D' (m := "table") (by decide +kernel) (by decide +kernel) (by decide +kernel)
    have n2 := fl_no L W D' (m := "lay") (by decide +kernel) (by decide +kernel) (by decide +kernel)
    have n3 := fl_no L W D' (m := "nodes") (by decide +kernel) (by decide +kernel) (by decide +kernel)
    obtain ⟨z0, hz0⟩ : ∃ z0, zs[0]? = some z0 := ⟨zs[0]'(by omega), List.getElem?_eq_getElem (by omega)⟩
    obtain ⟨z1, hz1⟩ : ∃ z1, zs[1]? = some z1 := ⟨zs[1]'(by omega), List.getElem?_eq_getElem (by omega)⟩
    have hzl : ∀ z ∈ zs, z.length = z0.length := fun z hz' => (hz z hz').1.trans (hz z0 (List.mem_of_getElem? hz0)).1.symm
    have hz0l : z0.length = Ln := (hz z0 (List.mem_of_getElem? hz0)).1
    -- the four tables
    refine q5 _ _ (cut fun R6 q6 => ?_)
    clear q5 R5
    obtain ⟨Pv, hPv⟩ : ∃ Pv : Nat → L2.St → Hp → Prop, Pv = fun j σ' H' => ∃ (x6 x7 : Option V) (kn : List (Key × V)) (ys : List V) (nn : NS) (e : Str → Int), σ' = [some (.ref a), some (.ref ln), some (.ref lt), some (.ref dn), some (.ref p), some (.ref tl), x6, x7, none, none, none, none, none, none, none, none, none] ∧ Same H1 H' ∧ H' dn = some (.dK kn) ∧ kn.length ≤ j ∧ (∀ i x, i < j → zs[i]? = some x → valV kn (.inr x) = some (.int (e x)) ∧ InN nn (e x)) ∧ nn.length ≤ j ∧ NetAt P w C H' p L W D' nn ∧ LawAt P w H' tl L' W' E' nn ∧ H' lt = some (.lst ys) ∧ ys.length = j ∧ ∀ y ∈ ys, ∃ r, y = V.ref r ∧ RcB H' (CEnv zs z0 (envOf (fun j => 1 + ns.getD (c4 j) 0 % 12) zs 0) 0) r := ⟨_, rfl⟩
    refine ⟨(4 : Nat), rfl, by decide, by decide, for_range (lo := 0) (n := 4) Pv
      (by rw [hPv]; exact ⟨none, none, [], [], [], fun _ => 0, rfl, f8, g8, Nat.le_refl _, fun i _ hi => absurd hi (Nat.not_lt_zero _), Nat.le_refl _, hM8, hN8, g8t, rfl, nofun⟩) ?_ ?_⟩
    · clear f8 g8 g8t hM8 hN8
      rintro j σ' H9 hj hPj
      rw [hPv] at hPj
      refine Classical.byContradiction fun hG => ?_
      obtain ⟨x6, x7, kn, ys, nn, e, rfl, s9, hdn9, lkn, hkn, hnl, hM9, hN9, hlt9, hyl, hys⟩ := hPj
      refine hG (cut fun R7 q7 => ?_)
      clear hG
      have hjz : zs[j]? = some (zs[j]'(by omega)) := List.getElem?_eq_getElem (by omega)
      generalize zs[j]'(by omega) = z at hjz
      have hzm := List.mem_of_getElem? hjz
      have hat : atI (zs.map V.str) (0 + (j : Int)) = some (.str z) := by rw [Int.zero_add]; exact atI_nat (by rw [List.getElem?_map, hjz]; rfl)
      have h4 : atI [V.int 2, .int 2, .int 3, .int 4] (0 + (j : Int)) = some (.int ((c4 j : Nat) : Int)) := by rw [Int.zero_add]; exact all4 ⟨j, hj⟩
      have c0 := Int.emod_nonneg (ns.getD (c4 j) 0) (show (12 : Int) ≠ 0 by decide)
      have c1 := Int.emod_lt_of_pos (ns.getD (c4 j) 0) (show (0 : Int) < 12 by decide)
      have hE0 := envOf_at (f := fun j => 1 + ns.getD (c4 j) 0 % 12) (k := 0) hznd hjz
      rw [Nat.zero_add] at hE0
      first | refine wV rfl ?_ | refine ⟨_, rfl, ?_⟩
      refine ⟨l4 rfl, ?_⟩
      refine fun lq Ha sa ea => ?_
      first | refine wV rfl ?_ | refine ⟨_, rfl, ?_⟩
      refine ⟨lq, _, _, _, rfl, rfl, id ea, h4, a, ns, c4 j, rfl, (s9.trans sa).seq hS1, _, _, rfl, rfl, (show (0 : Int) < 12 by decide), _, _, rfl, rfl, ?_⟩
      have s9a := s9.trans sa
      have hltA := sa _ _ hlt9
      generalize ns.getD (c4 j) 0 % 12 = mw at hE0 c0 c1 ⊢
      have hw1 : 1 ≤ 1 + mw ∧ 1 + mw ≤ 12 := by omega
      refine q7 _ _ (cut fun R8 q8 => ?_)
      clear q7 R7
      first | refine wV rfl ?_ | refine ⟨_, rfl, ?_⟩
      refine ⟨.inl ⟨rfl, _, SqL.of hltA⟩, ?_⟩
      first | refine wV rfl ?_ | refine ⟨_, rfl, ?_⟩
      first | refine wV rfl ?_ | refine ⟨_, rfl, ?_⟩
      refine ⟨ln, _, _, .str z, rfl, rfl, id (s9a _ _ hln), hat, l4 rfl, fun tn Hb sb eb => ⟨_, rfl, l4 rfl, fun r Hc sc ec => ?_⟩⟩
      have sac := sb.trans sc
      have hltC := sac _ _ hltA
      refine ⟨lt, ys, _, rfl, rfl, hltC, small1000 (by omega), ?_⟩
      have t1 : SameT Hc (upd Hc lt (.lst (ys ++ [.ref r]))) := SameT.updL hltC
      have hM10 : NetAt P w C (upd Hc lt (.lst (ys ++ [.ref r]))) p L W D' nn := (hM9.same (sa.trans sac)).updL hltC ltL ltW
      have hN10 : LawAt P w (upd Hc lt (.lst (ys ++ [.ref r]))) tl L' W' E' nn := ⟨t1 _ _ (hN9.same (sa.trans sac)).ob, (hN9.same (sa.trans sac)).co.updL hltC ltL' ltW'⟩
      have s10 : Same H1 (upd Hc lt (.lst (ys ++ [.ref r]))) := fun b o eb' => by rw [upd_ne (ne_of_none eb' hlt)]; exact sac _ _ (s9a _ _ eb')
      have hlt10 : (upd Hc lt (.lst (ys ++ [.ref r]))) lt = some (.lst (ys ++ [.ref r])) := upd_same
      have hdn10 : (upd Hc lt (.lst (ys ++ [.ref r]))) dn = some (.dK kn) := by rw [upd_ne (ne_of (sac _ _ (sa _ _ hdn9)) hltC fun z => nomatch z)]; exact sac _ _ (sa _ _ hdn9)
      have er := t1 _ _ ec
      have etn := t1 _ _ (sc _ _ eb)
      have t910 : SameT H9 (upd Hc lt (.lst (ys ++ [.ref r]))) := SameT.trans (sa.trans sac).t t1
      generalize upd Hc lt (.lst (ys ++ [.ref r])) = HD at hM10 hN10 s10 hlt10 hdn10 er etn t910 ⊢
      clear hlt9 hltA hltC hM9 hN9 sac sb sc sa hdn9 s9 s9a ea eb ec t1
      obtain ⟨dxD, hoD⟩ := hM10.ob
      refine q8 _ _ (cut fun R9 q9 => ?_)
      clear q8 R8
      first | refine wV rfl ?_ | refine ⟨_, rfl, ?_⟩
      refine ⟨p, dxD, _, rfl, hoD, n1, _, rfl, _, rfl, ln, _, _, .str z, rfl, rfl, id (s10 _ _ hln), hat, _, rfl, p, L, W, D', nn, z, (1 + mw), rfl, hM10, by omega, fun HE fE hME => ?_⟩
      have sE := same_fr s10 fE hL hW hD
      have hNE := hN10.apart hM10.co fE a1 a2 a3 a4 a5
      have hdnE := hM10.dk fE hdn10
      have tE := hM10.co.tups fE
      have ltD' : lt ≠ D' := by obtain ⟨φ, hDD⟩ := hM10.co.dEx; exact ne_of hlt10 hDD fun z => nomatch z
      have hltE := fE _ _ hlt10 ltL ltW ltD'
      first | refine wV rfl ?_ | refine ⟨_, rfl, ?_⟩
      first | refine wV rfl ?_ | refine ⟨_, rfl, ?_⟩
      first | refine wV rfl ?_ | refine ⟨_, rfl, ?_⟩
      refine ⟨ln, _, _, .str z, rfl, rfl, id (sE _ _ hln), hat, dn, _, rfl, DPut.k (k := .inr z) hdnE (small1000 (by omega)), ?_⟩
      have gr := putN_gr nn (tabT z (1 + mw)) (1 + mw)
      have gru := gr.up
      have grl := gr.le
      have tF : SameT HE (upd HE dn (.dK (putK kn (.inr z) (.int (putN nn (tabT z (1 + mw)) (1 + mw)).2)))) := SameT.updD hdnE
      have dnO := ne_dn hME.co hdnE
      have dnO' := ne_dn hNE.co hdnE
      have hMF : NetAt P w C (upd HE dn (.dK (putK kn (.inr z) (.int (putN nn (tabT z (1 + mw)) (1 + mw)).2)))) p L W D' (putN nn (tabT z (1 + mw)) (1 + mw)).1 := by
        obtain ⟨dxE, hoE⟩ := hME.ob
        refine ⟨⟨dxE, by rw [upd_ne (ne_of hoE hdnE fun z => nomatch z)]; exact hoE⟩, ?_⟩
        refine hME.co.updD hdnE
      have hNF : LawAt P w (upd HE dn (.dK (putK kn (.inr z) (.int (putN nn (tabT z (1 + mw)) (1 + mw)).2)))) tl L' W' E' nn := ⟨tF _ _ hNE.ob, hNE.co.updD hdnE⟩
      have sF : Same H1 (upd HE dn (.dK (putK kn (.inr z) (.int (putN nn (tabT z (1 + mw)) (1 + mw)).2)))) := fun b o eb' => by rw [upd_ne (ne_of_none eb' hdn)]; exact sE _ _ eb'
      have hltF : (upd HE dn (.dK (putK kn (.inr z) (.int (putN nn (tabT z (1 + mw)) (1 + mw)).2)))) lt = some (.lst (ys ++ [.ref r])) := by rw [upd_ne (ne_of hltE hdnE fun z => nomatch z)]; exact hltE
      have hdnF : (upd HE dn (.dK (putK kn (.inr z) (.int (putN nn (tabT z (1 + mw)) (1 + mw)).2)))) dn = some (.dK (putK kn (.inr z) (.int (putN nn (tabT z (1 + mw)) (1 + mw)).2))) := upd_same
      have t9F := SameT.trans t910 (SameT.trans tE tF)
      have erF := tF _ _ (tE _ _ er)
      have etnF := tF _ _ (tE _ _ etn)
      generalize upd HE dn (.dK (putK kn (.inr z) (.int (putN nn (tabT z (1 + mw)) (1 + mw)).2))) = HF at hMF hNF sF hltF hdnF t9F erF etnF ⊢
      clear hM10 hN10 s10 hlt10 hdn10 er etn t910 hME sE hNE hdnE tE hltE tF dnO dnO' fE hoD
      refine q9 _ _ ?_
      clear q9 R9
      first | refine wV rfl ?_ | refine ⟨_, rfl, ?_⟩
      first | refine wV rfl ?_ | refine ⟨_, rfl, ?_⟩
      first | refine wV rfl ?_ | refine ⟨_, rfl, ?_⟩
      refine ⟨ln, _, _, .str z, rfl, rfl, id (sF _ _ hln), hat, _, rfl, l4 rfl, fun tb HG sG eG => ⟨l4 rfl, fun tc HH sH eH => ⟨l4 rfl, fun b HI sI eI => ?_⟩⟩⟩
      have sFI := sG.trans (sH.trans sI)
      refine ⟨tl, b, L', W', E', nn, _, (1 + mw), rfl, hNF.same sFI, tabV eI (sI _ _ (sH _ _ eG)) (sI _ _ eH), .table z (1 + mw), by omega, fun HJ fJ hNJ => ?_⟩
      have hMI := hMF.same sFI
      have hMJ := hMI.apart (hNF.same sFI).co fJ a1 a2 a3 a4 a5
      have hdnJ := (hNF.same sFI).dk fJ (sFI _ _ hdnF)
      have sJ := same_fr (sF.trans sFI) fJ hL' hW' hE'
      have hltI := sFI _ _ hltF
      have ltE' : lt ≠ E' := by obtain ⟨φ, hDD⟩ := (hNF.same sFI).co.dEx; exact ne_of hltI hDD fun z => nomatch z
      have hltJ := fJ _ _ hltI ltL' ltW' ltE'
      have tFJ : SameT HF HJ := SameT.trans sFI.t ((hNF.same sFI).co.tups fJ)
      have hgJ := DGet.k (k := .inr z) hdnJ
      rw [valV_put, if_pos rfl] at hgJ
      first | refine wV rfl ?_ | refine ⟨_, rfl, ?_⟩
      first | refine wV rfl ?_ | refine ⟨_, rfl, ?_⟩
      first | refine wV rfl ?_ | refine ⟨_, rfl, ?_⟩
      refine ⟨ln, _, _, .str z, rfl, rfl, id (sJ _ _ hln), hat, dn, _, rfl, hgJ, rfl, _, rfl, iteQ (by simp) ?_⟩
      show Pv (j + 1) _ _
      rw [hPv]
      refine ⟨_, _, _, _, _, eput e z (putN nn (tabT z (1 + mw)) (1 + mw)).2, rfl, sJ, hdnJ, ?_, fun i x hi hx => ?_, by omega, hMJ, hNJ, hltJ, by rw [List.length_append, hyl]; rfl, fun y hy => ?_⟩
      · exact Nat.le_trans (length_putK _ _ _) (by omega)
      · rw [valV_put]
        unfold eput
        by_cases hxz : x = z
        · rw [if_pos hxz, if_pos (by rw [hxz])]
          refine ⟨rfl, ?_⟩
          refine gr.ix
        · rw [if_neg hxz, if_neg (fun q => hxz (by injection q))]
          have hij : i < j := by
            rcases Nat.lt_or_ge i j with h | h
            · exact h
            · have : i = j := by omega
              subst this
              rw [hjz] at hx
              cases hx
              exact absurd rfl hxz
          refine ⟨(hkn i x hij hx).1, ?_⟩
          refine (hkn i x hij hx).2.mono grl
      · rcases List.mem_append.mp hy with hy | hy
        · obtain ⟨r', rfl, hR⟩ := hys y hy
          refine ⟨r', rfl, ?_⟩
          refine hR.same (SameT.trans t9F tFJ)
        · simp only [List.mem_cons, List.not_mem_nil, or_false] at hy
          subst hy
          refine ⟨r, rfl, (1 + mw), 1, 0, ⟨.ref tn, 9, tFJ _ _ erF, hw1.1, hw1.2, Int.le_refl _, fun E hE => Vw.name (tFJ _ _ etnF) ((hE.1 z hzm).trans hE0) hw1.2⟩, by decide, ?_⟩
          refine by decide
    · rintro σ' H9 hPj
      rw [hPv] at hPj
      obtain ⟨x6, x7, kn, ys, nn, e0, rfl, s9, hdn9, lkn, hkn0, hnl, hM9, hN9, hlt9, hyl, hys⟩ := hPj
      clear hPv Pv
      refine q6 _ _ (cut fun R10 q10 => ?_)
      clear q6 R6
      clear f8 g8 g8t hM8 hN8
      have hzi : ∀ x ∈ zs, ∃ i, i < 4 ∧ zs[i]? = some x := fun x hx => by
        obtain ⟨i, hi⟩ := List.getElem?_of_mem hx
        refine ⟨i, by have := (List.getElem?_eq_some_iff.mp hi).1; omega, hi⟩
      have hkn : Knows kn (· ∈ zs) e0 := fun x hx => by
        obtain ⟨i, hi, hix⟩ := hzi x hx
        exact (hkn0 i x hi hix).1
      have hrg : ∀ x ∈ zs, InN nn (e0 x) := fun x hx => by
        obtain ⟨i, hi, hix⟩ := hzi x hx
        exact (hkn0 i x hi hix).2
      obtain ⟨e, he⟩ : ∃ e : Str → Int, e = fun x => if x ∈ zs then e0 x else 0 := ⟨_, rfl⟩
      have mz0 := List.mem_of_getElem? hz0
      have mz1 := List.mem_of_getElem? hz1
      have hRg : Rg e nn := fun x => by
        rw [he]
        show InN nn (if x ∈ zs then e0 x else 0)
        split
        · rename_i hx
          exact hrg x hx
        · have := hrg z0 mz0
          refine ⟨Int.le_refl _, ?_⟩
          refine by have h1 := this.1; have h2 := this.2; omega
      have hKn : Knows kn (· ∈ zs) e := fun x hx => by
        rw [he]
        show valV kn (.inr x) = some (.int (if x ∈ zs then e0 x else 0))
        rw [if_pos hx]
        exact hkn x hx
      clear hkn0 hkn hrg he hzi e0
      obtain ⟨E0, hE0⟩ : ∃ E0, E0 = envOf (fun j => 1 + ns.getD (c4 j) 0 % 12) zs 0 := ⟨_, rfl⟩
      rw [← hE0] at hys
      have hE1 : ∀ x p, E0 x = some p → x ∈ zs ∧ p.2 = 1 := fun x p h => envOf_some (by rw [hE0] at h; exact h)
      have hS9 := s9.seq hS1
      obtain ⟨y1, hy1, my1⟩ := pick4 hyl (ns.getD 5 0)
      obtain ⟨y2, hy2, my2⟩ := pick4 hyl (ns.getD 5 0 / 4)
      obtain ⟨r1, rfl, hR1⟩ := hys y1 my1
      obtain ⟨r2, rfl, hR2⟩ := hys y2 my2
      first | refine wV rfl ?_ | refine ⟨_, rfl, ?_⟩
      first | refine wV rfl ?_ | refine ⟨_, rfl, ?_⟩
      refine ⟨a, ns, 5, rfl, hS9, _, _, rfl, rfl, (show (0 : Int) < 4 by decide), lt, ys, _, _, rfl, rfl, id hlt9, hy1, ?_⟩
      refine q10 _ _ (cut fun R11 q11 => ?_)
      clear q10 R10
      first | refine wV rfl ?_ | refine ⟨_, rfl, ?_⟩
      first | refine wV rfl ?_ | refine ⟨_, rfl, ?_⟩
      refine ⟨a, ns, 5, rfl, hS9, _, _, rfl, rfl, ⟨by decide, by decide⟩, _, _, rfl, rfl, (show (0 : Int) < 4 by decide), lt, ys, _, _, rfl, rfl, id hlt9, hy2, ?_⟩
      have hC0 : ∀ n E, CEnv zs z0 E0 n E → CEnv zs z0 E0 0 E := fun n E h => ⟨h.1, fun j hj => absurd hj (Nat.not_lt_zero _)⟩
      have hmin : (if (63 : Int) < ((ns.map V.int).length : Int) then (63 : Int) else ((ns.map V.int).length : Int)) = (ns.length : Int) := by rw [List.length_map, if_neg (by omega)]
      refine q11 _ _ (cut fun R12 q12 => ?_)
      clear q11 R11
      first | refine wV rfl ?_ | refine ⟨_, rfl, ?_⟩
      refine ⟨a, _, rfl, .inl hS9, _, _, rfl, 6, (ns.length : Int), congrArg (fun z => [V.int 6, V.int z]) hmin, ⟨by decide, by decide, by omega, by omega⟩, ?_⟩
      obtain ⟨Pv, hPv⟩ : ∃ Pv : Nat → L2.St → Hp → Prop, Pv = fun i σ' H' => ∃ (r1 r2 : Addr) (x10 x11 : Option V), σ' = [some (.ref a), some (.ref ln), some (.ref lt), some (.ref dn), some (.ref p), some (.ref tl), x6, x7, some (.ref r1), some (.ref r2), x10, x11, none, none, none, none, none] ∧ Same H9 H' ∧ RcB H' (CEnv zs z0 E0 (6 + i)) r1 ∧ RcB H' (CEnv zs z0 E0 (6 + i)) r2 := ⟨_, rfl⟩
      refine for_range (lo := 6) (n := ((ns.length : Int) - 6).toNat) Pv
        (by rw [hPv]; exact ⟨r1, r2, none, none, rfl, Same.refl H9, hR1.imp (hC0 _), hR2.imp (hC0 _)⟩) ?_ ?_
      · clear hR1 hR2 hy1 hy2 my1 my2
        clear q12
        rintro i σ' HA hi hPj
        rw [hPv] at hPj
        refine Classical.byContradiction fun hG => ?_
        obtain ⟨r1, r2, x10, x11, rfl, sA, hR1, hR2⟩ := hPj
        refine hG (cut fun R13 q13 => ?_)
        clear hG
        have hik : 6 + i < ns.length := by omega
        have hNC := newC (zs := zs) (z0 := z0) (E0 := E0) (k := 6 + i) (by omega) hzl
        have hk6 : atI (ns.map V.int) (6 + (i : Int)) = some (.int (ns[6 + i])) := by
          have e : (6 + (i : Int)) = ((6 + i : Nat) : Int) := by omega
          rw [e]
          exact atI_nat (by rw [List.getElem?_map, List.getElem?_eq_getElem hik]; rfl)
        generalize ns[6 + i] = c at hk6
        have hltA := sA _ _ hlt9
        have tabs : ∀ H', Same H9 H' → ∀ n, ∃ y r, atI ys (c / 18 % 4) = some y ∧ y = V.ref r ∧ RcB H' (CEnv zs z0 E0 n) r := fun H' s' n => by
          obtain ⟨y, hy, my⟩ := pick4 hyl (c / 18)
          obtain ⟨r, rfl, hR⟩ := hys y my
          refine ⟨_, r, hy, rfl, (hR.same s'.t).imp (hC0 n)⟩
        first | refine wV rfl ?_ | refine ⟨_, rfl, ?_⟩
        first | refine wV rfl ?_ | refine ⟨_, rfl, ?_⟩
        refine ⟨a, _, _, _, rfl, rfl, sA.seq hS9, hk6, ?_⟩
        refine q13 _ _ ?_
        clear q13 R13
        obtain ⟨Mv, hMv⟩ : ∃ Mv : L2.St → Hp → Prop, Mv = fun σ' H' => ∃ (r1 r2 : Addr) (w1 s1 d1 : Int), σ' = [some (.ref a), some (.ref ln), some (.ref lt), some (.ref dn), some (.ref p), some (.ref tl), x6, x7, some (.ref r1), some (.ref r2), some (.int (6 + (i : Int))), some (.int c), none, none, none, none, none] ∧ Same H9 H' ∧ RcS H' (CEnv zs z0 E0 (6 + (i + 1))) r1 w1 s1 d1 ∧ RcB H' (CEnv zs z0 E0 (6 + (i + 1))) r2 := ⟨_, rfl⟩
        refine ⟨Mv, ⟨_, rfl, _, _, rfl, rfl, (show (0 : Int) < 18 by decide), _, _, rfl, rfl, _, rfl, ite2 (fun hlt => ?_) (fun hge => ?_)⟩, ?_⟩
        · obtain ⟨y, r, hy, rfl, w', s', d', hR, _⟩ := tabs HA sA (6 + (i + 1))
          first | refine wV rfl ?_ | refine ⟨_, rfl, ?_⟩
          first | refine wV rfl ?_ | refine ⟨_, rfl, ?_⟩
          first | refine wV rfl ?_ | refine ⟨_, rfl, ?_⟩
          first | refine wC ⟨by decide, by decide⟩ ?_ | refine wCc ⟨by decide, by decide⟩ ?_ | refine ⟨_, _, rfl, rfl, ⟨by decide, by decide⟩, ?_⟩
          first | refine wC (show (0 : Int) < 4 by decide) ?_ | refine wCc (show (0 : Int) < 4 by decide) ?_ | refine ⟨_, _, rfl, rfl, (show (0 : Int) < 4 by decide), ?_⟩
          refine ⟨lt, ys, _, _, rfl, rfl, id hltA, hy, by show Mv _ _; rw [hMv]; exact ⟨r, r1, w', s', d', rfl, sA, hR, hR1.imp hNC.sub⟩⟩
        · have hc : 2 ≤ c % 18 := by
            have : ¬ c % 18 < 2 := fun z => hge (decide_eq_true z)
            omega
          obtain ⟨w1, s1, d1, hq1, _⟩ := hR1
          obtain ⟨w2, s2, d2, hq2, hq2'⟩ := id hR2
          first | refine wV rfl ?_ | refine ⟨_, rfl, ?_⟩
          first | refine wV rfl ?_ | refine ⟨_, rfl, ?_⟩
          first | refine wC (.inl ⟨by decide, by decide⟩) ?_ | refine wCc (.inl ⟨by decide, by decide⟩) ?_ | refine ⟨_, _, rfl, rfl, .inl ⟨by decide, by decide⟩, ?_⟩
          first | refine wV rfl ?_ | refine ⟨_, rfl, ?_⟩
          first | refine wI ?_ | refine wIc ?_ | refine ⟨_, _, rfl, rfl, ?_⟩
          first | refine wV rfl ?_ | refine ⟨_, rfl, ?_⟩
          refine fun mx => ?_
          first | refine wV rfl ?_ | refine ⟨_, rfl, ?_⟩
          first | refine wV rfl ?_ | refine ⟨_, rfl, ?_⟩
          first | refine wV rfl ?_ | refine ⟨_, rfl, ?_⟩
          first | refine wV rfl ?_ | refine ⟨_, rfl, ?_⟩
          refine ⟨ln, zs, z0, 6 + i, (by show [V.ref ln, V.int (6 + (i : Int))] = [V.ref ln, V.int ((6 + i : Nat) : Int)]; congr 3), sA _ _ (s9 _ _ hln), hz0, by omega, ?_⟩
          exact ⟨c, mx, r1, r2, fresh z0 (6 + i), CEnv zs z0 E0 (6 + i), CEnv zs z0 E0 (6 + i + 1), w1, d1, w2, d2, rfl, hc, hq1.rc, hq2.rc, by rw [len_fresh]; omega, hNC, fun r' w' d' H' s' hR' => by
            obtain ⟨sz, hR''⟩ := hR'.toS
            show Mv _ _
            rw [hMv]
            exact ⟨r', r2, w', sz, d', rfl, sA.trans s', hR'', (hR2.same s'.t).imp hNC.sub⟩⟩
        · clear hR1 hR2
          rintro _ HB hPj
          rw [hMv] at hPj
          obtain ⟨r1, r2, w1, s1, d1, rfl, sB, hR1, hR2⟩ := hPj
          clear hMv Mv
          have hltB := sB _ _ hlt9
          obtain ⟨y, r, hy, rfl, hRt⟩ := tabs HB sB (6 + (i + 1))
          obtain ⟨v, sg, hrr, h1, h2, h3, hv⟩ := id hR1
          have hreset : Pv (i + 1) _ HB := (congrFun (congrFun (congrFun hPv (i + 1)) [some (.ref a), some (.ref ln), some (.ref lt), some (.ref dn), some (.ref p), some (.ref tl), x6, x7, some (.ref r), some (.ref r2), some (.int (6 + (i : Int))), some (.int c), none, none, none, none, none]) HB).mpr ⟨r, r2, _, _, rfl, sB, hRt, hR2⟩
          first | refine wT0 rfl (id hrr) rfl ?_ | refine ⟨_, rfl, r1, _, _, _, rfl, rfl, id hrr, rfl, ?_⟩
          first | refine wI ?_ | refine wIc ?_ | refine ⟨_, _, rfl, rfl, ?_⟩
          first | refine wV rfl ?_ | refine ⟨_, rfl, ?_⟩
          refine ite2 (fun _ => iteT ?_) (fun hle1 => ?_)
          · first | refine wV rfl ?_ | refine ⟨_, rfl, ?_⟩
            first | refine wV rfl ?_ | refine ⟨_, rfl, ?_⟩
            first | refine wC ⟨by decide, by decide⟩ ?_ | refine wCc ⟨by decide, by decide⟩ ?_ | refine ⟨_, _, rfl, rfl, ⟨by decide, by decide⟩, ?_⟩
            first | refine wC (show (0 : Int) < 4 by decide) ?_ | refine wCc (show (0 : Int) < 4 by decide) ?_ | refine ⟨_, _, rfl, rfl, (show (0 : Int) < 4 by decide), ?_⟩
            refine ⟨lt, ys, _, _, rfl, rfl, id hltB, hy, hreset⟩
          · first | refine wT0 rfl (id hrr) rfl ?_ | refine ⟨_, rfl, r1, _, _, _, rfl, rfl, id hrr, rfl, ?_⟩
            first | refine wI ?_ | refine wIc ?_ | refine ⟨_, _, rfl, rfl, ?_⟩
            first | refine wV rfl ?_ | refine ⟨_, rfl, ?_⟩
            refine ite2 (fun _ => iteT ?_) (fun _ => ?_)
            · first | refine wV rfl ?_ | refine ⟨_, rfl, ?_⟩
              first | refine wV rfl ?_ | refine ⟨_, rfl, ?_⟩
              first | refine wC ⟨by decide, by decide⟩ ?_ | refine wCc ⟨by decide, by decide⟩ ?_ | refine ⟨_, _, rfl, rfl, ⟨by decide, by decide⟩, ?_⟩
              first | refine wC (show (0 : Int) < 4 by decide) ?_ | refine wCc (show (0 : Int) < 4 by decide) ?_ | refine ⟨_, _, rfl, rfl, (show (0 : Int) < 4 by decide), ?_⟩
              refine ⟨lt, ys, _, _, rfl, rfl, id hltB, hy, hreset⟩
            · first | refine wT0 rfl (id hrr) rfl ?_ | refine ⟨_, rfl, r1, _, _, _, rfl, rfl, id hrr, rfl, ?_⟩
              first | refine wI ?_ | refine wIc ?_ | refine ⟨_, _, rfl, rfl, ?_⟩
              first | refine wV rfl ?_ | refine ⟨_, rfl, ?_⟩
              refine ite2 (fun _ => ?_) (fun hle => ?_)
              · first | refine wV rfl ?_ | refine ⟨_, rfl, ?_⟩
                first | refine wV rfl ?_ | refine ⟨_, rfl, ?_⟩
                first | refine wC ⟨by decide, by decide⟩ ?_ | refine wCc ⟨by decide, by decide⟩ ?_ | refine ⟨_, _, rfl, rfl, ⟨by decide, by decide⟩, ?_⟩
                first | refine wC (show (0 : Int) < 4 by decide) ?_ | refine wCc (show (0 : Int) < 4 by decide) ?_ | refine ⟨_, _, rfl, rfl, (show (0 : Int) < 4 by decide), ?_⟩
                refine ⟨lt, ys, _, _, rfl, rfl, id hltB, hy, hreset⟩
              · have hd : d1 ≤ 26 := by
                  have : ¬ (26 : Int) < d1 := fun z => hle (decide_eq_true z)
                  omega
                have hs : s1 ≤ 200 := by
                  have : ¬ (200 : Int) < s1 := fun z => hle1 (decide_eq_true z)
                  omega
                show Pv (i + 1) _ _
                rw [hPv]
                refine ⟨r1, r2, _, _, rfl, sB, ⟨w1, s1, d1, hR1, hs, hd⟩, hR2⟩
      · clear hR1 hR2 hy1 hy2 my1 my2
        rintro σ' HA hPj
        rw [hPv] at hPj
        obtain ⟨r1, r2, x10, x11, rfl, sA, hR1, hR2⟩ := hPj
        clear hPv Pv
        refine q12 _ _ (cut fun R14 q14 => ?_)
        clear q12 R12
        generalize 6 + ((ns.length : Int) - 6).toNat = n6 at hR1 hR2
        have hCE : CEnv zs z0 E0 n6 E0 := ⟨fun _ _ => rfl, fun j _ => by
          have out : ∀ x : Str, z0.length < x.length → E0 x = none := fun x hx => by
            cases e : E0 x with
            | none => rfl
            | some p =>
              have := hzl x (hE1 x p e).1
              omega
          exact ⟨out _ (by rw [len_fresh]; omega), out _ (by rw [len_cat, len_fresh]; omega)⟩⟩
        have hMA := hM9.same sA
        have hNA := hN9.same sA
        have hdnA := sA _ _ hdn9
        have s1A := s9.trans sA
        clear hM9 hN9 hdn9 hlt9 hS9 sA s9 hys hyl
        -- the other numbers
        first | refine wV rfl ?_ | refine ⟨_, rfl, ?_⟩
        refine ⟨dn, kn, rfl, hdnA, ?_⟩
        refine fun dm hdm => ?_
        have sB : Same HA (upd HA dm (.dK kn)) := (Same.refl HA).upd hdm
        have gB : (upd HA dm (.dK kn)) dm = some (.dK kn) := upd_same
        have hat0 : atI (zs.map V.str) 0 = some (.str z0) := atI_nat (j := 0) (by rw [List.getElem?_map, hz0]; rfl)
        have hat1 : atI (zs.map V.str) 1 = some (.str z1) := atI_nat (j := 1) (by rw [List.getElem?_map, hz1]; rfl)
        have hgB := DGet.k (k := .inr z1) (sB _ _ hdnA)
        rw [hKn z1 mz1] at hgB
        refine q14 _ _ (cut fun R15 q15 => ?_)
        clear q14 R14
        first | refine wV rfl ?_ | refine ⟨_, rfl, ?_⟩
        first | refine wV rfl ?_ | refine ⟨_, rfl, ?_⟩
        refine ⟨ln, _, _, .str z1, rfl, rfl, id (sB _ _ (s1A _ _ hln)), hat1, dn, _, rfl, hgB, _, rfl, _, rfl, ln, _, _, .str z0, rfl, rfl, id (sB _ _ (s1A _ _ hln)), hat0, dm, _, rfl, DPut.k (k := .inr z0) gB (small1000 (by omega)), ?_⟩
        have sC : Same HA (upd (upd HA dm (.dK kn)) dm (.dK (putK kn (.inr z0) (.int (e z1))))) := fun b o eb => by rw [upd_ne (ne_of_none eb hdm)]; exact sB _ _ eb
        have gC : (upd (upd HA dm (.dK kn)) dm (.dK (putK kn (.inr z0) (.int (e z1))))) dm = some (.dK (putK kn (.inr z0) (.int (e z1)))) := upd_same
        generalize upd (upd HA dm (.dK kn)) dm (.dK (putK kn (.inr z0) (.int (e z1)))) = HC at sC gC ⊢
        clear sB gB hgB
        have hgC := DGet.k (k := .inr z0) (sC _ _ hdnA)
        rw [hKn z0 mz0] at hgC
        have l1 := length_putK kn (.inr z0) (V.int (e z1))
        have l2 := length_putK (putK kn (.inr z0) (V.int (e z1))) (.inr z1) (V.int (e z0))
        refine q15 _ _ (cut fun R16 q16 => ?_)
        clear q15 R15
        first | refine wV rfl ?_ | refine ⟨_, rfl, ?_⟩
        first | refine wV rfl ?_ | refine ⟨_, rfl, ?_⟩
        refine ⟨ln, _, _, .str z0, rfl, rfl, id (sC _ _ (s1A _ _ hln)), hat0, dn, _, rfl, hgC, _, rfl, _, rfl, ln, _, _, .str z1, rfl, rfl, id (sC _ _ (s1A _ _ hln)), hat1, dm, _, rfl, DPut.k (k := .inr z1) gC (small1000 (by omega)), ?_⟩
        have sD : Same HA (upd HC dm (.dK (putK (putK kn (.inr z0) (.int (e z1))) (.inr z1) (.int (e z0))))) := fun b o eb => by rw [upd_ne (ne_of_none eb hdm)]; exact sC _ _ eb
        have gD : (upd HC dm (.dK (putK (putK kn (.inr z0) (.int (e z1))) (.inr z1) (.int (e z0))))) dm = some (.dK (putK (putK kn (.inr z0) (.int (e z1))) (.inr z1) (.int (e z0)))) := upd_same
        generalize upd HC dm (.dK (putK (putK kn (.inr z0) (.int (e z1))) (.inr z1) (.int (e z0)))) = HD at sD gD ⊢
        clear sC gC hgC
        have hKm : Knows (putK (putK kn (.inr z0) (.int (e z1))) (.inr z1) (.int (e z0))) (· ∈ zs) (eput (eput e z0 (e z1)) z1 (e z0)) := ((hKn.put z0 (e z1)).put z1 (e z0)).imp fun x hx => .inr (.inr hx)
        have hRm : Rg (eput (eput e z0 (e z1)) z1 (e z0)) nn := (hRg.put (hRg z1)).put (hRg z0)
        generalize eput (eput e z0 (e z1)) z1 (e z0) = em at hKm hRm
        generalize putK (putK kn (.inr z0) (.int (e z1))) (.inr z1) (.int (e z0)) = km at gD hKm l2
        -- five turns
        refine q16 _ _ (cut fun R17 q17 => ?_)
        clear q16 R16
        first | refine wV rfl ?_ | refine ⟨_, rfl, ?_⟩
        first | refine wV rfl ?_ | refine ⟨_, rfl, ?_⟩
        refine ⟨l4 rfl, ?_⟩
        refine fun t1 Ha sa ea => ?_
        first | refine wV rfl ?_ | refine ⟨_, rfl, ?_⟩
        first | refine wV rfl ?_ | refine ⟨_, rfl, ?_⟩
        refine ⟨l4 rfl, ?_⟩
        refine fun t2 Hb sb eb => ?_
        first | refine wV rfl ?_ | refine ⟨_, rfl, ?_⟩
        first | refine wV rfl ?_ | refine ⟨_, rfl, ?_⟩
        refine ⟨l4 rfl, ?_⟩
        refine fun t3 Hc sc ec => ?_
        first | refine wV rfl ?_ | refine ⟨_, rfl, ?_⟩
        first | refine wV rfl ?_ | refine ⟨_, rfl, ?_⟩
        refine ⟨l4 rfl, ?_⟩
        refine fun t4 Hd sd ed => ?_
        first | refine wV rfl ?_ | refine ⟨_, rfl, ?_⟩
        first | refine wV rfl ?_ | refine ⟨_, rfl, ?_⟩
        refine ⟨l4 rfl, ?_⟩
        refine fun t5 He se ee => ?_
        refine ⟨l4 rfl, ?_⟩
        refine fun lm hlm => ?_
        have sf : Same He (upd He lm (.lst [.ref t1, .ref t2, .ref t3, .ref t4, .ref t5])) := (Same.refl He).upd hlm
        have ef : (upd He lm (.lst [.ref t1, .ref t2, .ref t3, .ref t4, .ref t5])) lm = some (.lst [.ref t1, .ref t2, .ref t3, .ref t4, .ref t5]) := upd_same
        have sef := se.trans sf
        have sdf := sd.trans sef
        have scf := sc.trans sdf
        have sbf := sb.trans scf
        have saf := sa.trans sbf
        have sAf := sD.trans saf
        have sAe := sD.trans (sa.trans (sb.trans (sc.trans (sd.trans se))))
        have oM := (hMA.same sAe).out hlm
        have oN := LawAt.out (hNA.same sAe) hlm
        have hMf := hMA.same sAf
        have hNf := hNA.same sAf
        have hdnf := sAf _ _ hdnA
        have hdmf := saf _ _ gD
        have s1f := s1A.trans sAf
        have i1 := sbf _ _ ea
        have i2 := scf _ _ eb
        have i3 := sdf _ _ ec
        have i4 := sef _ _ ed
        have i5 := sf _ _ ee
        have recs : ∀ r, RcB HA (CEnv zs z0 E0 n6) r → ∃ (v x1 x2 x3 x4 : V) (pq : PV), (upd He lm (.lst [.ref t1, .ref t2, .ref t3, .ref t4, .ref t5])) r = some (.tup [v, x1, x2, x3, x4]) ∧ VP 27 (upd He lm (.lst [.ref t1, .ref t2, .ref t3, .ref t4, .ref t5])) (· ∈ zs) v pq ∧ pq.sz < 200 := fun r ⟨w', sz, d, ⟨v, sg, hr', _, _, h3, hv⟩, hs, hd⟩ => by
          obtain ⟨pq, hpq, hsz⟩ := VP.of (D := (· ∈ zs)) ((hv E0 hCE).mono (m := 27) (by omega)) fun x p hp => ⟨(hE1 x p hp).1, by rw [(hE1 x p hp).2]; exact Int.le_refl _⟩
          refine ⟨v, _, _, _, _, pq, sAf _ _ hr', hpq.same sAf.t, by omega⟩
        have q1 := recs r1 hR1
        have q2 := recs r2 hR2
        generalize upd He lm (.lst [.ref t1, .ref t2, .ref t3, .ref t4, .ref t5]) = HL at sf ef hMf hNf hdnf hdmf s1f i1 i2 i3 i4 i5 q1 q2 ⊢
        clear recs sef sdf scf sbf saf sAf sAe sf sD gD hMA hNA hdnA s1A hR1 hR2 sa sb sc sd se ea eb ec ed ee hlm hdm
        have items : ∀ x ∈ [V.ref t1, V.ref t2, V.ref t3, V.ref t4, V.ref t5], ∃ (t r d : Addr) (v x1 x2 x3 x4 : V) (pq : PV) (kvs : List (Key × V)) (ev : Str → Int), x = .ref t ∧ HL t = some (.tup [.ref r, .ref d]) ∧ HL r = some (.tup [v, x1, x2, x3, x4]) ∧ VP 27 HL (· ∈ zs) v pq ∧ pq.sz < 200 ∧ (∀ H' : Hp, H' dn = some (.dK kn) → H' dm = some (.dK km) → H' d = some (.dK kvs)) ∧ Knows kvs (· ∈ zs) ev ∧ Rg ev nn ∧ kvs.length ≤ 10 := fun x hx => by
          obtain ⟨v1, b1, b2, b3, b4, pq1, g1, g2, g3⟩ := q1
          obtain ⟨v2, u1, u2, u3, u4, pq2, j1, j2, j3⟩ := q2
          simp only [List.mem_cons, List.not_mem_nil, or_false] at hx
          rcases hx with rfl | rfl | rfl | rfl | rfl
          · refine ⟨t1, r2, dn, v2, u1, u2, u3, u4, pq2, kn, e, rfl, i1, j1, j2, j3, fun _ z _ => z, hKn, hRg, ?_⟩
            refine by omega
          · refine ⟨t2, r1, dn, v1, b1, b2, b3, b4, pq1, kn, e, rfl, i2, g1, g2, g3, fun _ z _ => z, hKn, hRg, ?_⟩
            refine by omega
          · refine ⟨t3, r1, dm, v1, b1, b2, b3, b4, pq1, km, em, rfl, i3, g1, g2, g3, fun _ _ z => z, hKm, hRm, ?_⟩
            refine by omega
          · refine ⟨t4, r2, dm, v2, u1, u2, u3, u4, pq2, km, em, rfl, i4, j1, j2, j3, fun _ _ z => z, hKm, hRm, ?_⟩
            refine by omega
          · refine ⟨t5, r1, dn, v1, b1, b2, b3, b4, pq1, kn, e, rfl, i5, g1, g2, g3, fun _ z _ => z, hKn, hRg, ?_⟩
            refine by omega
        clear q1 q2 i1 i2 i3 i4 i5 hKn hRg hKm hRm
        refine ⟨lm, rfl, ⟨_, SqL.of ef⟩, ?_⟩
        obtain ⟨Pv, hPv⟩ : ∃ Pv : Nat → L2.St → Hp → Prop, Pv = fun i σ' H' => ∃ (y13 y14 y15 y16 : Option V) (n' : NS), σ' = [some (.ref a), some (.ref ln), some (.ref lt), some (.ref dn), some (.ref p), some (.ref tl), x6, x7, some (.ref r1), some (.ref r2), x10, x11, some (.ref dm), y13, y14, y15, y16] ∧ SameT HL H' ∧ H' lm = some (.lst [.ref t1, .ref t2, .ref t3, .ref t4, .ref t5]) ∧ H' dn = some (.dK kn) ∧ H' dm = some (.dK km) ∧ NetAt P w C H' p L W D' n' ∧ LawAt P w H' tl L' W' E' n' ∧ nn.length ≤ n'.length ∧ n'.length ≤ 4 + 200 * i := ⟨_, rfl⟩
        refine for_list (K := K) (a := lm) (xs := [.ref t1, .ref t2, .ref t3, .ref t4, .ref t5]) Pv
          (by rw [hPv]; exact ⟨none, none, none, none, nn, rfl, SameT.refl _, ef, hdnf, hdmf, hMf, hNf, Nat.le_refl _, by omega⟩) (fun i σ' H' _ hz => by
            rw [hPv] at hz
            obtain ⟨_, _, _, _, _, _, _, z, _⟩ := hz
            exact SqL.of z) ?_ ?_
        · clear q17
          rintro i x σ' HM ex hPj
          rw [hPv] at hPj
          refine Classical.byContradiction fun hG => ?_
          obtain ⟨y13, y14, y15, y16, n', rfl, tM, lM, dnM, dmM, hMM, hNM, hnn, hn'⟩ := hPj
          have hi5 : i < 5 := (List.getElem?_eq_some_iff.mp ex).1
          obtain ⟨t, r, d, v, x1, x2, x3, x4, pq, kvs, ev, rfl, ht, hr', hV, hsz, hdd, hKv, hRv, hkl⟩ := items x (List.mem_of_getElem? ex)
          obtain ⟨dxM, hoM⟩ := hMM.ob
          refine hG ⟨t, _, rfl, SqT.of (tM _ _ ht), rfl, _, _, rfl, _, _, rfl, rfl, cut fun R18 q18 => ?_⟩
          clear hG
          first | refine wV rfl ?_ | refine ⟨_, rfl, ?_⟩
          refine ⟨p, dxM, _, rfl, hoM, n2, ?_⟩
          first | refine wT0 rfl (id (tM _ _ hr')) rfl ?_ | refine ⟨_, rfl, r, _, _, _, rfl, rfl, id (tM _ _ hr'), rfl, ?_⟩
          first | refine wV rfl ?_ | refine ⟨_, rfl, ?_⟩
          refine ⟨d, kvs, rfl, hdd _ dnM dmM, ?_⟩
          refine fun dc hdc => ?_
          have sN : Same HM (upd HM dc (.dK kvs)) := (Same.refl HM).upd hdc
          have gN : (upd HM dc (.dK kvs)) dc = some (.dK kvs) := upd_same
          generalize upd HM dc (.dK kvs) = HN at sN gN ⊢
          have hMN := hMM.same sN
          have hNN := hNM.same sN
          have g0 := lay_gr (pv := pq) (hRv.mono hnn)
          have g0l := g0.le
          have g0u := g0.up
          refine ⟨p, L, W, D', dc, n', v, pq, _, kvs, ev, rfl, hMN, hV.same (SameT.trans tM sN.t), gN, hKv, hRv.mono hnn, by omega, by omega, fun HO fO hMO => ?_⟩
          have hNO := hNN.apart hMN.co fO a1 a2 a3 a4 a5
          have tO : SameT HL HO := SameT.trans (SameT.trans tM sN.t) (hMN.co.tups fO)
          have dnO := hMN.dk fO (sN _ _ dnM)
          have dmO := hMN.dk fO (sN _ _ dmM)
          have lO := fO _ _ (sN _ _ lM) oM.1 oM.2.1 oM.2.2
          refine q18 _ _ (cut fun R19 q19 => ?_)
          clear q18 R18
          first | refine wV rfl ?_ | refine ⟨_, rfl, ?_⟩
          first | refine wT0 rfl (id (tO _ _ hr')) rfl ?_ | refine ⟨_, rfl, r, _, _, _, rfl, rfl, id (tO _ _ hr'), rfl, ?_⟩
          first | refine wV rfl ?_ | refine ⟨_, rfl, ?_⟩
          refine ⟨tl, L', W', E', d, n', v, pq, _, kvs, ev, rfl, hNO, hV.same tO, hdd _ dnO dmO, hKv, hRv.mono hnn, by omega, by omega, fun HP fP hNP => ?_⟩
          have hMP := hMO.apart hNO.co fP a1 a2 a3 a4 a5
          have tP : SameT HL HP := SameT.trans tO (hNO.co.tups fP)
          have dnP := hNO.dk fP dnO
          have dmP := hNO.dk fP dmO
          have lP := fP _ _ lO oN.1 oN.2.1 oN.2.2
          obtain ⟨dxP, hoP⟩ := hMP.ob
          obtain ⟨us, hus, hpu⟩ := hMP.co.la
          obtain ⟨vs, hvs, hpv⟩ := hNP.co.la
          refine q19 _ _ ?_
          clear q19 R19
          first | refine wV rfl ?_ | refine ⟨_, rfl, ?_⟩
          first | refine wV rfl ?_ | refine ⟨_, rfl, ?_⟩
          refine ⟨true, rfl, ?_⟩
          refine iteF ?_
          first | refine wV rfl ?_ | refine ⟨_, rfl, ?_⟩
          first | refine wN rfl (by simp) ?_ | refine ⟨_, rfl, rfl, _, rfl, iteQ (by simp) ?_⟩
          first | refine wV rfl ?_ | refine ⟨_, rfl, ?_⟩
          refine ⟨p, dxP, _, rfl, hoP, n3, p, L, W, D', _, us, rfl, hMP, hus, fun lu HQ sQ eQ => ?_⟩
          have hal : Alk 9 HQ (.ref lu) (.ref L') := .inr ⟨lu, L', us, vs, rfl, rfl, by have := Paired.length hpu; omega, pair_both (R := Alk 8 HQ) (fun _ _ _ z1 z2 => alk_of (z1.mono sQ.t) (z2.mono sQ.t)) hpu hpv, .inr ⟨eQ, sQ _ _ hvs⟩⟩
          first | refine wT0 rfl (id (sQ _ _ hNP.ob)) rfl ?_ | refine ⟨_, rfl, tl, _, _, _, rfl, rfl, id (sQ _ _ hNP.ob), rfl, ?_⟩
          refine ⟨_, _, 9, rfl, by decide, hal, fun HR sR => ⟨true, rfl, iteF ?_⟩⟩
          have sQR := sQ.trans sR
          show Pv (i + 1) _ _
          rw [hPv]
          refine ⟨_, _, _, _, (lay pq ev n').1, rfl, SameT.trans tP sQR.t, sQR _ _ lP, sQR _ _ dnP, sQR _ _ dmP, hMP.same sQR, hNP.same sQR, by omega, by omega⟩
        · rintro σ' HM _
          exact q17 _ _ (k HM)
end
end VK
namespace VK
open PySem PySem.Spec PyProof.Rows L2
theorem fn_mk {K : PySem.W.Frag} {mg : Str → Option Value} {x : Str} {st : Stmt} {ps : List Str} {h : Heap} {f : Addr} {oc : Value} {od an : Option Addr} {osl : Array (Option Value)} {kV doc pm cdv ct : Value} (X : K.In h) (G : h.Ns mainGlobals mg)
    (a : PySem.W.nsIn K mainGlobals x = some (some (.ref f))) (l : K.lookup f = some ⟨oc, od, .func (PySem.W.fnOf x x (defArgs st) (defBody st) (defScope st) .none kV doc pm an cdv ct), osl⟩) (c : PySem.W.codeIn K cdv x = true) (k : PySem.W.keepIn K (.ref f) = true)
    (hb : ∀ (kV doc pm : Value) (an : Option Addr) (cdv ct : Value) (us : List Value), us.length = ps.length → bindArgs (PySem.W.fnOf x x (defArgs st) (defBody st) (defScope st) .none kV doc pm an cdv ct) ⟨us, []⟩ = pure (ps.zip us)) :
    Fn K mg x st ps f (PySem.W.fnOf x x (defArgs st) (defBody st) (defScope st) .none kV doc pm an cdv ct) :=
  have F := fun_mk (st := st) l c k
  ⟨F, F.binds hb, PySem.W.mg_of X G a⟩
theorem mf_mk {K : PySem.W.Frag} {C : Addr} {x q : Str} {st : Stmt} {ps : List Str} {f : Addr} {oc : Value} {od an : Option Addr} {osl : Array (Option Value)} {kV doc pm cdv ct : Value}
    (a : PySem.W.findIn K (.ref C) x = some (some (.ref f))) (i : PySem.W.isFn K (.ref f) = true) (l : K.lookup f = some ⟨oc, od, .func (PySem.W.fnOf x q (defArgs st) (defBody st) (defScope st) .none kV doc pm an cdv ct), osl⟩) (c : PySem.W.codeIn K cdv q = true) (k : PySem.W.keepIn K (.ref f) = true)
    (hb : ∀ (kV doc pm : Value) (an : Option Addr) (cdv ct : Value) (us : List Value), us.length = ps.length → bindArgs (PySem.W.fnOf x q (defArgs st) (defBody st) (defScope st) .none kV doc pm an cdv ct) ⟨us, []⟩ = pure (ps.zip us)) :
    Mf K C x q st ps f (PySem.W.fnOf x q (defArgs st) (defBody st) (defScope st) .none kV doc pm an cdv ct) :=
  have F := fun_mk (st := st) l c k
  ⟨F, F.binds hb, ⟨a, i, k⟩⟩
theorem all_mk {gaoo : Addr} {godoo : Option Addr} {gnoo : Nat} {gsloo : Array (Option Value)} {tkoo0 tkoo1 tkoo2 tkoo3 tkoo4 tkoo5 tkoo6 tkoo7 : Tok} {gagr : Addr} {godgr : Option Addr} {gngr : Nat} {gslgr : Array (Option Value)} {tkgr0 tkgr1 tkgr2 tkgr3 : Tok} {l : PySem.W.OpenLaw} {w : World} {K : PySem.W.Frag} {h : Heap} {mg : Str → Option Value} {fa C f1 f2 f3 f4 f5 f6 f7 f8 f9 f10 f11 f12 f13 f14 f15 f16 f17 f18 f19 f20 f21 f22 f23 f24 f25 fm1 fm2 fm3 fm4 fm5 fm6 fm7 : Addr} (X : K.In h) (G : h.Ns mainGlobals mg) (hfa : mg "law" = some (.ref fa))
    {od1 an1 od2 an2 od3 an3 od4 an4 od5 an5 od6 an6 od7 an7 od8 an8 od9 an9 od10 an10 od11 an11 od12 an12 od13 an13 od14 an14 od15 an15 od16 an16 od17 an17 od18 an18 od19 an19 od20 an20 od21 an21 od22 an22 od23 an23 od24 an24 od25 an25 odm1 anm1 odm2 anm2 odm3 anm3 odm4 anm4 odm5 anm5 odm6 anm6 odm7 anm7 : Option Addr} {sl1 sl2 sl3 sl4 sl5 sl6 sl7 sl8 sl9 sl10 sl11 sl12 sl13 sl14 sl15 sl16 sl17 sl18 sl19 sl20 sl21 sl22 sl23 sl24 sl25 slm1 slm2 slm3 slm4 slm5 slm6 slm7 : Array (Option Value)} {oc1 kV1 dc1 pm1 cd1 ct1 oc2 kV2 dc2 pm2 cd2 ct2 oc3 kV3 dc3 pm3 cd3 ct3 oc4 kV4 dc4 pm4 cd4 ct4 oc5 kV5 dc5 pm5 cd5 ct5 oc6 kV6 dc6 pm6 cd6 ct6 oc7 kV7 dc7 pm7 cd7 ct7 oc8 kV8 dc8 pm8 cd8 ct8 oc9 kV9 dc9 pm9 cd9 ct9 oc10 kV10 dc10 pm10 cd10 ct10 oc11 kV11 dc11 pm11 cd11 ct11 oc12 kV12 dc12 pm12 cd12 ct12 oc13 kV13 dc13 pm13 cd13 ct13 oc14 kV14 dc14 pm14 cd14 ct14 oc15 kV15 dc15 pm15 cd15 ct15 oc16 kV16 dc16 pm16 cd16 ct16 oc17 kV17 dc17 pm17 cd17 ct17 oc18 kV18 dc18 pm18 cd18 ct18 oc19 kV19 dc19 pm19 cd19 ct19 oc20 kV20 dc20 pm20 cd20 ct20 oc21 kV21 dc21 pm21 cd21 ct21 oc22 kV22 dc22 pm22 cd22 ct22 oc23 kV23 dc23 pm23 cd23 ct23 oc24 kV24 dc24 pm24 cd24 ct24 oc25 kV25 dc25 pm25 cd25 ct25 ocm1 kVm1 dcm1 pmm1 cdm1 ctm1 ocm2 kVm2 dcm2 pmm2 cdm2 ctm2 ocm3 kVm3 dcm3 pmm3 cdm3 ctm3 ocm4 kVm4 dcm4 pmm4 cdm4 ctm4 ocm5 kVm5 dcm5 pmm5 cdm5 ctm5 ocm6 kVm6 dcm6 pmm6 cdm6 ctm6 ocm7 kVm7 dcm7 pmm7 cdm7 ctm7 : Value}
    (a1 : PySem.W.nsIn K mainGlobals "_law_cell_at" = some (some (.ref f1))) (l1 : K.lookup f1 = some ⟨oc1, od1, .func (PySem.W.fnOf "_law_cell_at" "_law_cell_at" (defArgs sCellAt) (defBody sCellAt) (defScope sCellAt) .none kV1 dc1 pm1 an1 cd1 ct1), sl1⟩) (e1 : PySem.W.codeIn K cd1 "_law_cell_at" = true) (k1 : PySem.W.keepIn K (.ref f1) = true)
    (a2 : PySem.W.nsIn K mainGlobals "_law_whole" = some (some (.ref f2))) (l2 : K.lookup f2 = some ⟨oc2, od2, .func (PySem.W.fnOf "_law_whole" "_law_whole" (defArgs sWhole) (defBody sWhole) (defScope sWhole) .none kV2 dc2 pm2 an2 cd2 ct2), sl2⟩) (e2 : PySem.W.codeIn K cd2 "_law_whole" = true) (k2 : PySem.W.keepIn K (.ref f2) = true)
    (a3 : PySem.W.nsIn K mainGlobals "_law_mixed" = some (some (.ref f3))) (l3 : K.lookup f3 = some ⟨oc3, od3, .func (PySem.W.fnOf "_law_mixed" "_law_mixed" (defArgs sMixed) (defBody sMixed) (defScope sMixed) .none kV3 dc3 pm3 an3 cd3 ct3), sl3⟩) (e3 : PySem.W.codeIn K cd3 "_law_mixed" = true) (k3 : PySem.W.keepIn K (.ref f3) = true)
    (a4 : PySem.W.nsIn K mainGlobals "_law_names" = some (some (.ref f4))) (l4 : K.lookup f4 = some ⟨oc4, od4, .func (PySem.W.fnOf "_law_names" "_law_names" (defArgs sNames) (defBody sNames) (defScope sNames) .none kV4 dc4 pm4 an4 cd4 ct4), sl4⟩) (e4 : PySem.W.codeIn K cd4 "_law_names" = true) (k4 : PySem.W.keepIn K (.ref f4) = true)
    (a5 : PySem.W.nsIn K mainGlobals "_law_fresh" = some (some (.ref f5))) (l5 : K.lookup f5 = some ⟨oc5, od5, .func (PySem.W.fnOf "_law_fresh" "_law_fresh" (defArgs sFresh) (defBody sFresh) (defScope sFresh) .none kV5 dc5 pm5 an5 cd5 ct5), sl5⟩) (e5 : PySem.W.codeIn K cd5 "_law_fresh" = true) (k5 : PySem.W.keepIn K (.ref f5) = true)
    (a6 : PySem.W.nsIn K mainGlobals "_law_next" = some (some (.ref f6))) (l6 : K.lookup f6 = some ⟨oc6, od6, .func (PySem.W.fnOf "_law_next" "_law_next" (defArgs sNext) (defBody sNext) (defScope sNext) .none kV6 dc6 pm6 an6 cd6 ct6), sl6⟩) (e6 : PySem.W.codeIn K cd6 "_law_next" = true) (k6 : PySem.W.keepIn K (.ref f6) = true)
    (a7 : PySem.W.nsIn K mainGlobals "_law_alike" = some (some (.ref f7))) (l7 : K.lookup f7 = some ⟨oc7, od7, .func (PySem.W.fnOf "_law_alike" "_law_alike" (defArgs sAlike) (defBody sAlike) (defScope sAlike) .none kV7 dc7 pm7 an7 cd7 ct7), sl7⟩) (e7 : PySem.W.codeIn K cd7 "_law_alike" = true) (k7 : PySem.W.keepIn K (.ref f7) = true)
    (a8 : PySem.W.nsIn K mainGlobals "_law_put" = some (some (.ref f8))) (l8 : K.lookup f8 = some ⟨oc8, od8, .func (PySem.W.fnOf "_law_put" "_law_put" (defArgs sPutL) (defBody sPutL) (defScope sPutL) .none kV8 dc8 pm8 an8 cd8 ct8), sl8⟩) (e8 : PySem.W.codeIn K cd8 "_law_put" = true) (k8 : PySem.W.keepIn K (.ref f8) = true)
    (a9 : PySem.W.nsIn K mainGlobals "_law_laid" = some (some (.ref f9))) (l9 : K.lookup f9 = some ⟨oc9, od9, .func (PySem.W.fnOf "_law_laid" "_law_laid" (defArgs sLaid) (defBody sLaid) (defScope sLaid) .none kV9 dc9 pm9 an9 cd9 ct9), sl9⟩) (e9 : PySem.W.codeIn K cd9 "_law_laid" = true) (k9 : PySem.W.keepIn K (.ref f9) = true)
    (a10 : PySem.W.nsIn K mainGlobals "_law_besides" = some (some (.ref f10))) (l10 : K.lookup f10 = some ⟨oc10, od10, .func (PySem.W.fnOf "_law_besides" "_law_besides" (defArgs sBes) (defBody sBes) (defScope sBes) .none kV10 dc10 pm10 an10 cd10 ct10), sl10⟩) (e10 : PySem.W.codeIn K cd10 "_law_besides" = true) (k10 : PySem.W.keepIn K (.ref f10) = true)
    (a11 : PySem.W.nsIn K mainGlobals "_law_wide" = some (some (.ref f11))) (l11 : K.lookup f11 = some ⟨oc11, od11, .func (PySem.W.fnOf "_law_wide" "_law_wide" (defArgs sWideL) (defBody sWideL) (defScope sWideL) .none kV11 dc11 pm11 an11 cd11 ct11), sl11⟩) (e11 : PySem.W.codeIn K cd11 "_law_wide" = true) (k11 : PySem.W.keepIn K (.ref f11) = true)
    (a12 : PySem.W.nsIn K mainGlobals "_law_rounds" = some (some (.ref f12))) (l12 : K.lookup f12 = some ⟨oc12, od12, .func (PySem.W.fnOf "_law_rounds" "_law_rounds" (defArgs sRnd) (defBody sRnd) (defScope sRnd) .none kV12 dc12 pm12 an12 cd12 ct12), sl12⟩) (e12 : PySem.W.codeIn K cd12 "_law_rounds" = true) (k12 : PySem.W.keepIn K (.ref f12) = true)
    (a13 : PySem.W.nsIn K mainGlobals "_law_two" = some (some (.ref f13))) (l13 : K.lookup f13 = some ⟨oc13, od13, .func (PySem.W.fnOf "_law_two" "_law_two" (defArgs sTwo) (defBody sTwo) (defScope sTwo) .none kV13 dc13 pm13 an13 cd13 ct13), sl13⟩) (e13 : PySem.W.codeIn K cd13 "_law_two" = true) (k13 : PySem.W.keepIn K (.ref f13) = true)
    (a14 : PySem.W.nsIn K mainGlobals "_law_one" = some (some (.ref f14))) (l14 : K.lookup f14 = some ⟨oc14, od14, .func (PySem.W.fnOf "_law_one" "_law_one" (defArgs sOne) (defBody sOne) (defScope sOne) .none kV14 dc14 pm14 an14 cd14 ct14), sl14⟩) (e14 : PySem.W.codeIn K cd14 "_law_one" = true) (k14 : PySem.W.keepIn K (.ref f14) = true)
    (a15 : PySem.W.nsIn K mainGlobals "_law_fitted" = some (some (.ref f15))) (l15 : K.lookup f15 = some ⟨oc15, od15, .func (PySem.W.fnOf "_law_fitted" "_law_fitted" (defArgs sFit) (defBody sFit) (defScope sFit) .none kV15 dc15 pm15 an15 cd15 ct15), sl15⟩) (e15 : PySem.W.codeIn K cd15 "_law_fitted" = true) (k15 : PySem.W.keepIn K (.ref f15) = true)
    (a16 : PySem.W.nsIn K mainGlobals "_law_once" = some (some (.ref f16))) (l16 : K.lookup f16 = some ⟨oc16, od16, .func (PySem.W.fnOf "_law_once" "_law_once" (defArgs sOnceR) (defBody sOnceR) (defScope sOnceR) .none kV16 dc16 pm16 an16 cd16 ct16), sl16⟩) (e16 : PySem.W.codeIn K cd16 "_law_once" = true) (k16 : PySem.W.keepIn K (.ref f16) = true)
    (a17 : PySem.W.nsIn K mainGlobals "_law_digits" = some (some (.ref f17))) (l17 : K.lookup f17 = some ⟨oc17, od17, .func (PySem.W.fnOf "_law_digits" "_law_digits" (defArgs sDigits) (defBody sDigits) (defScope sDigits) .none kV17 dc17 pm17 an17 cd17 ct17), sl17⟩) (e17 : PySem.W.codeIn K cd17 "_law_digits" = true) (k17 : PySem.W.keepIn K (.ref f17) = true)
    (a18 : PySem.W.nsIn K mainGlobals "_law_asked" = some (some (.ref f18))) (l18 : K.lookup f18 = some ⟨oc18, od18, .func (PySem.W.fnOf "_law_asked" "_law_asked" (defArgs sAsked) (defBody sAsked) (defScope sAsked) .none kV18 dc18 pm18 an18 cd18 ct18), sl18⟩) (e18 : PySem.W.codeIn K cd18 "_law_asked" = true) (k18 : PySem.W.keepIn K (.ref f18) = true)
    (a19 : PySem.W.nsIn K mainGlobals "_law_term" = some (some (.ref f19))) (l19 : K.lookup f19 = some ⟨oc19, od19, .func (PySem.W.fnOf "_law_term" "_law_term" (defArgs sTerm) (defBody sTerm) (defScope sTerm) .none kV19 dc19 pm19 an19 cd19 ct19), sl19⟩) (e19 : PySem.W.codeIn K cd19 "_law_term" = true) (k19 : PySem.W.keepIn K (.ref f19) = true)
    (a20 : PySem.W.nsIn K mainGlobals "_law_grouped" = some (some (.ref f20))) (l20 : K.lookup f20 = some ⟨oc20, od20, .func (PySem.W.fnOf "_law_grouped" "_law_grouped" (defArgs sGrp) (defBody sGrp) (defScope sGrp) .none kV20 dc20 pm20 an20 cd20 ct20), sl20⟩) (e20 : PySem.W.codeIn K cd20 "_law_grouped" = true) (k20 : PySem.W.keepIn K (.ref f20) = true)
    (a21 : PySem.W.nsIn K mainGlobals "views_in" = some (some (.ref f21))) (l21 : K.lookup f21 = some ⟨oc21, od21, .func (PySem.W.fnOf "views_in" "views_in" (defArgs sViewsIn) (defBody sViewsIn) (defScope sViewsIn) .none kV21 dc21 pm21 an21 cd21 ct21), sl21⟩) (e21 : PySem.W.codeIn K cd21 "views_in" = true) (k21 : PySem.W.keepIn K (.ref f21) = true)
    (a22 : PySem.W.nsIn K mainGlobals "besides_of" = some (some (.ref f22))) (l22 : K.lookup f22 = some ⟨oc22, od22, .func (PySem.W.fnOf "besides_of" "besides_of" (defArgs sBesides) (defBody sBesides) (defScope sBesides) .none kV22 dc22 pm22 an22 cd22 ct22), sl22⟩) (e22 : PySem.W.codeIn K cd22 "besides_of" = true) (k22 : PySem.W.keepIn K (.ref f22) = true)
    (a23 : PySem.W.nsIn K mainGlobals "width_over" = some (some (.ref f23))) (l23 : K.lookup f23 = some ⟨oc23, od23, .func (PySem.W.fnOf "width_over" "width_over" (defArgs sWidthO) (defBody sWidthO) (defScope sWidthO) .none kV23 dc23 pm23 an23 cd23 ct23), sl23⟩) (e23 : PySem.W.codeIn K cd23 "width_over" = true) (k23 : PySem.W.keepIn K (.ref f23) = true)
    (a24 : PySem.W.nsIn K mainGlobals "with_name" = some (some (.ref f24))) (l24 : K.lookup f24 = some ⟨oc24, od24, .func (PySem.W.fnOf "with_name" "with_name" (defArgs sWithN) (defBody sWithN) (defScope sWithN) .none kV24 dc24 pm24 an24 cd24 ct24), sl24⟩) (e24 : PySem.W.codeIn K cd24 "with_name" = true) (k24 : PySem.W.keepIn K (.ref f24) = true)
    (a25 : PySem.W.nsIn K mainGlobals "law" = some (some (.ref f25))) (l25 : K.lookup f25 = some ⟨oc25, od25, .func (PySem.W.fnOf "law" "law" (defArgs sLaw) (defBody sLaw) (defScope sLaw) .none kV25 dc25 pm25 an25 cd25 ct25), sl25⟩) (e25 : PySem.W.codeIn K cd25 "law" = true) (k25 : PySem.W.keepIn K (.ref f25) = true)
    (aC : PySem.W.nsIn K mainGlobals "Net" = some (some (.ref C)))
    (am1 : PySem.W.findIn K (.ref C) "__init__" = some (some (.ref fm1))) (im1 : PySem.W.isFn K (.ref fm1) = true) (lm1 : K.lookup fm1 = some ⟨ocm1, odm1, .func (PySem.W.fnOf "__init__" "Net.__init__" (defArgs sNInit) (defBody sNInit) (defScope sNInit) .none kVm1 dcm1 pmm1 anm1 cdm1 ctm1), slm1⟩) (em1 : PySem.W.codeIn K cdm1 "Net.__init__" = true) (km1 : PySem.W.keepIn K (.ref fm1) = true)
    (am2 : PySem.W.findIn K (.ref C) "table" = some (some (.ref fm2))) (im2 : PySem.W.isFn K (.ref fm2) = true) (lm2 : K.lookup fm2 = some ⟨ocm2, odm2, .func (PySem.W.fnOf "table" "Net.table" (defArgs sTableN) (defBody sTableN) (defScope sTableN) .none kVm2 dcm2 pmm2 anm2 cdm2 ctm2), slm2⟩) (em2 : PySem.W.codeIn K cdm2 "Net.table" = true) (km2 : PySem.W.keepIn K (.ref fm2) = true)
    (am3 : PySem.W.findIn K (.ref C) "lay" = some (some (.ref fm3))) (im3 : PySem.W.isFn K (.ref fm3) = true) (lm3 : K.lookup fm3 = some ⟨ocm3, odm3, .func (PySem.W.fnOf "lay" "Net.lay" (defArgs sLay) (defBody sLay) (defScope sLay) .none kVm3 dcm3 pmm3 anm3 cdm3 ctm3), slm3⟩) (em3 : PySem.W.codeIn K cdm3 "Net.lay" = true) (km3 : PySem.W.keepIn K (.ref fm3) = true)
    (am4 : PySem.W.findIn K (.ref C) "lay_rounds" = some (some (.ref fm4))) (im4 : PySem.W.isFn K (.ref fm4) = true) (lm4 : K.lookup fm4 = some ⟨ocm4, odm4, .func (PySem.W.fnOf "lay_rounds" "Net.lay_rounds" (defArgs sLayR) (defBody sLayR) (defScope sLayR) .none kVm4 dcm4 pmm4 anm4 cdm4 ctm4), slm4⟩) (em4 : PySem.W.codeIn K cdm4 "Net.lay_rounds" = true) (km4 : PySem.W.keepIn K (.ref fm4) = true)
    (am5 : PySem.W.findIn K (.ref C) "lay_word" = some (some (.ref fm5))) (im5 : PySem.W.isFn K (.ref fm5) = true) (lm5 : K.lookup fm5 = some ⟨ocm5, odm5, .func (PySem.W.fnOf "lay_word" "Net.lay_word" (defArgs sLayW) (defBody sLayW) (defScope sLayW) .none kVm5 dcm5 pmm5 anm5 cdm5 ctm5), slm5⟩) (em5 : PySem.W.codeIn K cdm5 "Net.lay_word" = true) (km5 : PySem.W.keepIn K (.ref fm5) = true)
    (am6 : PySem.W.findIn K (.ref C) "put_node" = some (some (.ref fm6))) (im6 : PySem.W.isFn K (.ref fm6) = true) (lm6 : K.lookup fm6 = some ⟨ocm6, odm6, .func (PySem.W.fnOf "put_node" "Net.put_node" (defArgs sPutN) (defBody sPutN) (defScope sPutN) .none kVm6 dcm6 pmm6 anm6 cdm6 ctm6), slm6⟩) (em6 : PySem.W.codeIn K cdm6 "Net.put_node" = true) (km6 : PySem.W.keepIn K (.ref fm6) = true)
    (am7 : PySem.W.findIn K (.ref C) "nodes" = some (some (.ref fm7))) (im7 : PySem.W.isFn K (.ref fm7) = true) (lm7 : K.lookup fm7 = some ⟨ocm7, odm7, .func (PySem.W.fnOf "nodes" "Net.nodes" (defArgs sNodes) (defBody sNodes) (defScope sNodes) .none kVm7 dcm7 pmm7 anm7 cdm7 ctm7), slm7⟩) (em7 : PySem.W.codeIn K cdm7 "Net.nodes" = true) (km7 : PySem.W.keepIn K (.ref fm7) = true)
    (pg : PySem.W.plainGet K C Str.empty = true) (hd : PySem.W.hasDictIn K C = true) (po : PySem.W.plainOver K C = true) (sa : PySem.W.findIn K (.ref C) "__setattr__" = some (some (.builtin "object.__setattr__"))) (mk : PySem.W.makesIn K C = true) (kc : PySem.W.keepIn K (.ref C) = true)
    (nL : PySem.W.findIn K (.ref C) "laid" = some none) (nW : PySem.W.findIn K (.ref C) "node_widths" = some none) (nD : PySem.W.findIn K (.ref C) "number_of" = some none)
    (z1 : PySem.W.nsIn K mainGlobals "len" = some none) (z2 : PySem.W.nsIn K mainGlobals "range" = some none) (z3 : PySem.W.nsIn K mainGlobals "tuple" = some none) (z4 : PySem.W.nsIn K mainGlobals "isinstance" = some none) (z5 : PySem.W.nsIn K mainGlobals "int" = some none) (z6 : PySem.W.nsIn K mainGlobals "bool" = some none) (z7 : PySem.W.nsIn K mainGlobals "max" = some none) (z8 : PySem.W.nsIn K mainGlobals "min" = some none) (z9 : PySem.W.nsIn K mainGlobals "zip" = some none) (z10 : PySem.W.nsIn K mainGlobals "all" = some none) (z11 : PySem.W.nsIn K mainGlobals "list" = some none) (z12 : PySem.W.nsIn K mainGlobals "str" = some none) (z13 : PySem.W.nsIn K mainGlobals "sum" = some none) (z14 : PySem.W.nsIn K mainGlobals "dict" = some none)
    (ggoo : PySem.W.nsIn K mainGlobals "OVER_ONE" = some (some (.ref gaoo))) (gloo : K.lookup gaoo = some ⟨.type "tuple", godoo, .seq #[.str "sieve" tkoo0, .str "cols" tkoo1, .str "once" tkoo2, .str "count" tkoo3, .str "sum" tkoo4, .str "least" tkoo5, .str "most" tkoo6, .str "first" tkoo7] gnoo, gsloo⟩)
    (gggr : PySem.W.nsIn K mainGlobals "GROUPS" = some (some (.ref gagr))) (glgr : K.lookup gagr = some ⟨.type "tuple", godgr, .seq #[.str "count" tkgr0, .str "sum" tkgr1, .str "least" tkgr2, .str "most" tkgr3] gngr, gslgr⟩) :
    ∃ fd : FuncData, (∀ (s : Shared) (u : Value), BindsTo s fd ⟨[u], []⟩ [("_law_script", u)]) ∧ ∀ base : Heap, K.In base → base.Ns mainGlobals mg → FnOk l.prog w K mg base CX0 65 fa fd ["_law_script"] (spLaw K) := by
  have e := hfa.symm.trans (PySem.W.mg_of X G a25)
  cases e
  have T : Txt mg := ⟨PySem.W.mg_none_of X G z1, PySem.W.mg_none_of X G z2, PySem.W.mg_none_of X G z3, PySem.W.mg_none_of X G z4, PySem.W.mg_none_of X G z5, PySem.W.mg_none_of X G z6, PySem.W.mg_none_of X G z7, PySem.W.mg_none_of X G z8, PySem.W.mg_none_of X G z9, PySem.W.mg_none_of X G z10, PySem.W.mg_none_of X G z11, PySem.W.mg_none_of X G z12, PySem.W.mg_none_of X G z13, PySem.W.mg_none_of X G z14⟩
  have D1 := fn_mk (st := sCellAt) (ps := psCellAt) X G a1 l1 e1 k1 fun _ _ _ _ _ _ us hl => match us, hl with | [_, _], _ => rfl
  have D2 := fn_mk (st := sWhole) (ps := psWhole) X G a2 l2 e2 k2 fun _ _ _ _ _ _ us hl => match us, hl with | [_], _ => rfl
  have D3 := fn_mk (st := sMixed) (ps := psMixed) X G a3 l3 e3 k3 fun _ _ _ _ _ _ us hl => match us, hl with | [_], _ => rfl
  have D4 := fn_mk (st := sNames) (ps := psNames) X G a4 l4 e4 k4 fun _ _ _ _ _ _ us hl => match us, hl with | [_], _ => rfl
  have D5 := fn_mk (st := sFresh) (ps := psFresh) X G a5 l5 e5 k5 fun _ _ _ _ _ _ us hl => match us, hl with | [_, _], _ => rfl
  have D6 := fn_mk (st := sNext) (ps := psNext) X G a6 l6 e6 k6 fun _ _ _ _ _ _ us hl => match us, hl with | [_, _, _, _, _], _ => rfl
  have D7 := fn_mk (st := sAlike) (ps := psAlike) X G a7 l7 e7 k7 fun _ _ _ _ _ _ us hl => match us, hl with | [_, _], _ => rfl
  have D8 := fn_mk (st := sPutL) (ps := psPutL) X G a8 l8 e8 k8 fun _ _ _ _ _ _ us hl => match us, hl with | [_, _], _ => rfl
  have D9 := fn_mk (st := sLaid) (ps := psLaid) X G a9 l9 e9 k9 fun _ _ _ _ _ _ us hl => match us, hl with | [_, _, _], _ => rfl
  have D10 := fn_mk (st := sBes) (ps := psBes) X G a10 l10 e10 k10 fun _ _ _ _ _ _ us hl => match us, hl with | [_, _], _ => rfl
  have D11 := fn_mk (st := sWideL) (ps := psWideL) X G a11 l11 e11 k11 fun _ _ _ _ _ _ us hl => match us, hl with | [_, _], _ => rfl
  have D12 := fn_mk (st := sRnd) (ps := psRnd) X G a12 l12 e12 k12 fun _ _ _ _ _ _ us hl => match us, hl with | [_, _, _, _], _ => rfl
  have D13 := fn_mk (st := sTwo) (ps := psTwo) X G a13 l13 e13 k13 fun _ _ _ _ _ _ us hl => match us, hl with | [_, _, _, _], _ => rfl
  have D14 := fn_mk (st := sOne) (ps := psOne) X G a14 l14 e14 k14 fun _ _ _ _ _ _ us hl => match us, hl with | [_, _, _], _ => rfl
  have D15 := fn_mk (st := sFit) (ps := psFit) X G a15 l15 e15 k15 fun _ _ _ _ _ _ us hl => match us, hl with | [_, _], _ => rfl
  have D16 := fn_mk (st := sOnceR) (ps := psOnceR) X G a16 l16 e16 k16 fun _ _ _ _ _ _ us hl => match us, hl with | [_], _ => rfl
  have D17 := fn_mk (st := sDigits) (ps := psDigits) X G a17 l17 e17 k17 fun _ _ _ _ _ _ us hl => match us, hl with | [_, _, _], _ => rfl
  have D18 := fn_mk (st := sAsked) (ps := psTerm) X G a18 l18 e18 k18 fun _ _ _ _ _ _ us hl => match us, hl with | [_, _], _ => rfl
  have D19 := fn_mk (st := sTerm) (ps := psTerm) X G a19 l19 e19 k19 fun _ _ _ _ _ _ us hl => match us, hl with | [_, _], _ => rfl
  have D20 := fn_mk (st := sGrp) (ps := psGrp) X G a20 l20 e20 k20 fun _ _ _ _ _ _ us hl => match us, hl with | [_, _, _], _ => rfl
  have D21 := fn_mk (st := sViewsIn) (ps := psV) X G a21 l21 e21 k21 fun _ _ _ _ _ _ us hl => match us, hl with | [_], _ => rfl
  have D22 := fn_mk (st := sBesides) (ps := psV) X G a22 l22 e22 k22 fun _ _ _ _ _ _ us hl => match us, hl with | [_], _ => rfl
  have D23 := fn_mk (st := sWidthO) (ps := psWidthO) X G a23 l23 e23 k23 fun _ _ _ _ _ _ us hl => match us, hl with | [_, _, _], _ => rfl
  have D24 := fn_mk (st := sWithN) (ps := psWithN) X G a24 l24 e24 k24 fun _ _ _ _ _ _ us hl => match us, hl with | [_, _, _], _ => rfl
  have D25 := fn_mk (st := sLaw) (ps := ["_law_script"]) X G a25 l25 e25 k25 fun _ _ _ _ _ _ us hl => match us, hl with | [_], _ => rfl
  have Dm1 := mf_mk (st := sNInit) (ps := psNInit) am1 im1 lm1 em1 km1 fun _ _ _ _ _ _ us hl => match us, hl with | [_], _ => rfl
  have Dm2 := mf_mk (st := sTableN) (ps := psTableN) am2 im2 lm2 em2 km2 fun _ _ _ _ _ _ us hl => match us, hl with | [_, _, _], _ => rfl
  have Dm3 := mf_mk (st := sLay) (ps := psLay) am3 im3 lm3 em3 km3 fun _ _ _ _ _ _ us hl => match us, hl with | [_, _, _], _ => rfl
  have Dm4 := mf_mk (st := sLayR) (ps := psLay) am4 im4 lm4 em4 km4 fun _ _ _ _ _ _ us hl => match us, hl with | [_, _, _], _ => rfl
  have Dm5 := mf_mk (st := sLayW) (ps := psLayW) am5 im5 lm5 em5 km5 fun _ _ _ _ _ _ us hl => match us, hl with | [_, _, _, _], _ => rfl
  have Dm6 := mf_mk (st := sPutN) (ps := psPutN) am6 im6 lm6 em6 km6 fun _ _ _ _ _ _ us hl => match us, hl with | [_, _, _], _ => rfl
  have Dm7 := mf_mk (st := sNodes) (ps := psNInit) am7 im7 lm7 em7 km7 fun _ _ _ _ _ _ us hl => match us, hl with | [_], _ => rfl
  have GLB : Glb K mg := ⟨⟨gaoo, PySem.W.mg_of X G ggoo, fun _ => .inr ⟨_, _, _, gloo, rfl, rfl, by show 8 ≤ sizeLine; decide, (.cons ⟨tkoo0, rfl⟩ (.cons ⟨tkoo1, rfl⟩ (.cons ⟨tkoo2, rfl⟩ (.cons ⟨tkoo3, rfl⟩ (.cons ⟨tkoo4, rfl⟩ (.cons ⟨tkoo5, rfl⟩ (.cons ⟨tkoo6, rfl⟩ (.cons ⟨tkoo7, rfl⟩ .nil))))))))⟩⟩, ⟨gagr, PySem.W.mg_of X G gggr, fun _ => .inr ⟨_, _, _, glgr, rfl, rfl, by show 4 ≤ sizeLine; decide, (.cons ⟨tkgr0, rfl⟩ (.cons ⟨tkgr1, rfl⟩ (.cons ⟨tkgr2, rfl⟩ (.cons ⟨tkgr3, rfl⟩ .nil))))⟩⟩⟩
  have NC : NetC K mg C := ⟨⟨pg, hd, po, sa⟩, nL, nW, nD, PySem.W.mg_of X G aC⟩
  exact ⟨_, fun s v => .of_eq rfl, fun base _ _ => okLaw T GLB NC ⟨mk, am1, im1, kc⟩ D25 D1 D2 D3 D4 D5 D6 D7 D8 D9 D10 D11 D12 D13 D14 D15 D16 D17 D18 D19 D20 D21 D22 D23 D24 Dm1 Dm2 Dm3 Dm4 Dm5 Dm6 Dm7⟩
theorem walk {l : PySem.W.OpenLaw} {q : Program} {loose : List Str} {XP : (Str → Option Value) → Heap → Prop} {YP : World → Heap → Prop} {d : DefRec} {K : Params → PySem.W.Frag} (hn : l.most = some 63) (hdf : d.params.defaults = [])
    (hY : ∀ (w : World) (h : Heap), YP w h → (K w.params).In h)
    (F : ∀ (w : World) (mg : Str → Option Value) (fa : Addr) (h : Heap), (K w.params).In h → h.Ns mainGlobals mg → mg d.name = some (.ref fa) →
      ∃ fd : FuncData, (∀ (s : Shared) (u : Value), BindsTo s fd ⟨[u], []⟩ [("_law_script", u)]) ∧ ∀ base : Heap, (K w.params).In base → base.Ns mainGlobals mg → FnOk l.prog w (K w.params) mg base CX0 65 fa fd ["_law_script"] (spLaw (K w.params))) :
    PySem.W.WalkO q loose XP YP l.row.toRowW d [] (fun f vs => PySem.call f vs) :=
  L2.walk_of (n := 63) (k := 65) (x := "_law_script") (CX := fun _ => CX0) (sp := fun w => spLaw (K w.params)) hn (by decide) hdf ⟨rfl, by decide, by decide⟩ hY F (fun _ _ a ns hl _ hS => ⟨a, ns, rfl, hS, hl, fun _ => rfl⟩) fun _ _ _ _ _ z => z
end VK
def PySem.W.Fast.tw2640343011869145227 : Unit := ()
theorem PySem.W.Fast.te2640343011869145227 : True := trivial
open PySem PySem.W PyProof.Rows
set_option maxRecDepth 100000 in
set_option maxHeartbeats 0 in
theorem PySem.Challenge.cw_viewkeep_k41_in_which_order_holds : PySem.Challenge.rw_viewkeep_k41_in_which_order.Holds := by
  w_on; o_law; k_head; (case hw => w_witness2)
  k_fill
  refine VK.walk (l := PySem.Challenge.rw_viewkeep_k41_in_which_order) rfl rfl (fun w h Y => PySem.W.kIn_of Y) ?F
  case F =>
    intro w mg fa h KX G hmg
    refine' VK.all_mk KX G hmg ?a1 ?l1 ?e1 ?k1 ?a2 ?l2 ?e2 ?k2 ?a3 ?l3 ?e3 ?k3 ?a4 ?l4 ?e4 ?k4 ?a5 ?l5 ?e5 ?k5 ?a6 ?l6 ?e6 ?k6 ?a7 ?l7 ?e7 ?k7 ?a8 ?l8 ?e8 ?k8 ?a9 ?l9 ?e9 ?k9 ?a10 ?l10 ?e10 ?k10 ?a11 ?l11 ?e11 ?k11 ?a12 ?l12 ?e12 ?k12 ?a13 ?l13 ?e13 ?k13 ?a14 ?l14 ?e14 ?k14 ?a15 ?l15 ?e15 ?k15 ?a16 ?l16 ?e16 ?k16 ?a17 ?l17 ?e17 ?k17 ?a18 ?l18 ?e18 ?k18 ?a19 ?l19 ?e19 ?k19 ?a20 ?l20 ?e20 ?k20 ?a21 ?l21 ?e21 ?k21 ?a22 ?l22 ?e22 ?k22 ?a23 ?l23 ?e23 ?k23 ?a24 ?l24 ?e24 ?k24 ?a25 ?l25 ?e25 ?k25 ?aC ?am1 ?im1 ?lm1 ?em1 ?km1 ?am2 ?im2 ?lm2 ?em2 ?km2 ?am3 ?im3 ?lm3 ?em3 ?km3 ?am4 ?im4 ?lm4 ?em4 ?km4 ?am5 ?im5 ?lm5 ?em5 ?km5 ?am6 ?im6 ?lm6 ?em6 ?km6 ?am7 ?im7 ?lm7 ?em7 ?km7 ?pg ?hd ?po ?sa ?mk ?kc ?nL ?nW ?nD ?z1 ?z2 ?z3 ?z4 ?z5 ?z6 ?z7 ?z8 ?z9 ?z10 ?z11 ?z12 ?z13 ?z14 ?ggoo ?gloo ?gggr ?glgr
    (case a1 => k_is); (case l1 => k_is); (case e1 => k_is); (case k1 => k_is); (case a2 => k_is); (case l2 => k_is); (case e2 => k_is); (case k2 => k_is)
    (case a3 => k_is); (case l3 => k_is); (case e3 => k_is); (case k3 => k_is); (case a4 => k_is); (case l4 => k_is); (case e4 => k_is); (case k4 => k_is)
    (case a5 => k_is); (case l5 => k_is); (case e5 => k_is); (case k5 => k_is); (case a6 => k_is); (case l6 => k_is); (case e6 => k_is); (case k6 => k_is)
    (case a7 => k_is); (case l7 => k_is); (case e7 => k_is); (case k7 => k_is); (case a8 => k_is); (case l8 => k_is); (case e8 => k_is); (case k8 => k_is)
    (case a9 => k_is); (case l9 => k_is); (case e9 => k_is); (case k9 => k_is); (case a10 => k_is); (case l10 => k_is); (case e10 => k_is); (case k10 => k_is)
    (case a11 => k_is); (case l11 => k_is); (case e11 => k_is); (case k11 => k_is); (case a12 => k_is); (case l12 => k_is); (case e12 => k_is); (case k12 => k_is)
    (case a13 => k_is); (case l13 => k_is); (case e13 => k_is); (case k13 => k_is); (case a14 => k_is); (case l14 => k_is); (case e14 => k_is); (case k14 => k_is)
    (case a15 => k_is); (case l15 => k_is); (case e15 => k_is); (case k15 => k_is); (case a16 => k_is); (case l16 => k_is); (case e16 => k_is); (case k16 => k_is)
    (case a17 => k_is); (case l17 => k_is); (case e17 => k_is); (case k17 => k_is); (case a18 => k_is); (case l18 => k_is); (case e18 => k_is); (case k18 => k_is)
    (case a19 => k_is); (case l19 => k_is); (case e19 => k_is); (case k19 => k_is); (case a20 => k_is); (case l20 => k_is); (case e20 => k_is); (case k20 => k_is)
    (case a21 => k_is); (case l21 => k_is); (case e21 => k_is); (case k21 => k_is); (case a22 => k_is); (case l22 => k_is); (case e22 => k_is); (case k22 => k_is)
    (case a23 => k_is); (case l23 => k_is); (case e23 => k_is); (case k23 => k_is); (case a24 => k_is); (case l24 => k_is); (case e24 => k_is); (case k24 => k_is)
    (case a25 => k_is); (case l25 => k_is); (case e25 => k_is); (case k25 => k_is); (case aC => k_is); (case am1 => k_is); (case im1 => k_is); (case lm1 => k_is)
    (case em1 => k_is); (case km1 => k_is); (case am2 => k_is); (case im2 => k_is); (case lm2 => k_is); (case em2 => k_is); (case km2 => k_is); (case am3 => k_is)
    (case im3 => k_is); (case lm3 => k_is); (case em3 => k_is); (case km3 => k_is); (case am4 => k_is); (case im4 => k_is); (case lm4 => k_is); (case em4 => k_is)
    (case km4 => k_is); (case am5 => k_is); (case im5 => k_is); (case lm5 => k_is); (case em5 => k_is); (case km5 => k_is); (case am6 => k_is); (case im6 => k_is)
    (case lm6 => k_is); (case em6 => k_is); (case km6 => k_is); (case am7 => k_is); (case im7 => k_is); (case lm7 => k_is); (case em7 => k_is); (case km7 => k_is)
    (case pg => k_is); (case hd => k_is); (case po => k_is); (case sa => k_is); (case mk => k_is); (case kc => k_is); (case nL => k_is); (case nW => k_is)
    (case nD => k_is); (case z1 => k_is); (case z2 => k_is); (case z3 => k_is); (case z4 => k_is); (case z5 => k_is); (case z6 => k_is); (case z7 => k_is)
    (case z8 => k_is); (case z9 => k_is); (case z10 => k_is); (case z11 => k_is); (case z12 => k_is); (case z13 => k_is); (case z14 => k_is); (case ggoo => k_is)
    (case gloo => k_is); (case gggr => k_is); (case glgr => k_is)
